/- The contracts of the document's Insert and Cancel at this program. -/
import Derived.Test.YtjkhgpdhhnfmlaaDoorJc
import Derived.Laws.OwnMore
import Derived.Deep.RegionLaw
import Derived.Deep.CutBlock
import Derived.RangeFuncBox
import Derived.Test.YtjkhgpdhhnfmlaaDoorXr
namespace Go.Proofs.YtjkhgpdhhnfmlaaDoor
namespace WP
open Go.RowKit TM MK
open RG (Du Srt)
open VM (lvl idsD)
set_option linter.unusedSimpArgs false

set_option maxRecDepth 100000 in
theorem cp_copy (base b cap n : Nat) (ao : Option Addr) (L : List Du) (u : World) (hb : u.ownsRow base 42 2 (.slice (some ⟨b, 0, none⟩) 0 0) 0 []) (hl : Lies u ao (cd L)) (hn : L.length = n) (hz : ao = none → n = 0 ∧ cap = 0) (hL : L.length ≤ 1000000) (hbase : base ≤ u.heap.size) :
    ∃ v1 u1, (Builtin.append_ #[27, 27] 27 #[.slice (some ⟨b, 0, none⟩) 0 0, .slice ao n cap]).run Tryd.prog u = .ok v1 u1 ∧ u1.ownsRow base 42 2 v1 n (cd L) ∧ Frm (fun k => k = b) u u1 := by
  obtain ⟨i0, hi, hz0, hz1, hz2⟩ := info_parts Tryd.info42
  cases ao with
  | none =>
    obtain ⟨rfl, rfl⟩ := hz rfl
    have e : L = [] := List.eq_nil_of_length_eq_zero hn
    subst e
    have hr := run_append_owned_none (P := Tryd.prog) (w := u) base 27 27 42 i0 2 Tryd.underlying27 hi _ 0 [] hb
    exact ⟨_, _, hr, hb, Frm.rfl' _ _⟩
  | some ad =>
    have C : ∀ j x, (cd L)[j]? = some x → u.cell? (ad.add j) = some x := fun j x hj => by
      rcases hl with h | ⟨b', off, e, _, hc⟩
      · rw [h] at hj; cases hj
      · injection e with e
        subst e
        rw [Addr.add_lit]
        exact hc j x hj
    obtain ⟨v1, u1, h1, h2, h3, _⟩ := run_append_own (P := Tryd.prog) u base 27 27 42 i0 _ 2 16 Tryd.underlying27 hi hz0 hz1 hz2 rfl (by decide) _ 0 [] hb ad n cap (cd L) (by rw [cd_len, hn]) C (cd_one L) (by unfold maxLen; omega) (by omega) hbase
    refine ⟨v1, u1, h1, ?_, (grownBy_frm h3).mono (fun k e => by injection e with e; exact e.symm)⟩
    simpa using h2
theorem cp_empty (w u : World) (b : Nat) (hb : w.heap.size ≤ b) (h : u.heap[b]? = some (.cells #[] 42)) : u.ownsRow w.heap.size 42 2 (.slice (some ⟨b, 0, none⟩) 0 0) 0 [] :=
  ⟨rfl, .inr ⟨b, 0, _, rfl, hb, h, Nat.le_refl _, by unfold maxLen; omega, rfl, rfl⟩⟩
set_option maxRecDepth 100000 in
/-- a copy without the k-th. -/
theorem cp_drop (w u : World) (ob off cap n k m : Nat) (L : List Du) (hu : Grw w u) (he : u.heap[w.heap.size]? = some (.cells #[] 42)) (hl : Lies w (some ⟨ob, off, none⟩) (cd L)) (hn : L.length = n) (hk : k + 1 + m = n) (hnc : n ≤ cap) (hL : L.length ≤ 100000)
    (ad : Addr) (c : Nat) (had : if cap = k + 1 then ad = ⟨ob, off, none⟩ else ad = ⟨ob, off + (k + 1) * 2, none⟩) :
    ∃ v1 u1 v2 u2, (Builtin.append_ #[27, 27] 27 #[.slice (some ⟨w.heap.size, 0, none⟩) 0 0, .slice (some ⟨ob, off, none⟩) k cap]).run Tryd.prog u = .ok v1 u1 ∧ (Builtin.append_ #[27, 27] 27 #[v1, .slice (some ad) m c]).run Tryd.prog u1 = .ok v2 u2 ∧
      Grw w u1 ∧ Grw w u2 ∧ u2.ownsRow w.heap.size 42 2 v2 (k + m) (cd (L.take k ++ L.drop (k + 1))) := by
  obtain ⟨i0, hi, hz0, hz1, hz2⟩ := info_parts Tryd.info42
  have ht : Lies w (some ⟨ob, off, none⟩) (cd (L.take k)) := by rw [cd_take]; exact lies_take hl _
  have hlt : (L.take k).length = k := by rw [List.length_take]; omega
  obtain ⟨v1, u1, r1, o1, f1⟩ := cp_copy w.heap.size w.heap.size cap k (some ⟨ob, off, none⟩) (L.take k) u (cp_empty w u w.heap.size (Nat.le_refl _) he) (ht.later hu) hlt (fun e => by cases e) (by omega) (Below.size hu)
  have g1 : Grw w u1 := f1.grw hu (fun k e => Nat.le_of_eq e.symm)
  have hdl : (cd (L.drop (k + 1))).length = m * 2 := by rw [cd_len, List.length_drop]; omega
  have hnews : ∀ j x, (cd (L.drop (k + 1)))[j]? = some x → u1.cell? (ad.add j) = some x := by
    intro j x hj
    by_cases hc : cap = k + 1
    · have hm : m = 0 := by omega
      rw [hm] at hdl
      have h0 : cd (L.drop (k + 1)) = [] := List.eq_nil_of_length_eq_zero (by simpa using hdl)
      rw [h0] at hj
      cases hj
    · rw [if_neg hc] at had
      subst had
      rw [cd_drop] at hj
      exact lies_drop (hl.later g1) ((k + 1) * 2) j x hj
  obtain ⟨v2, u2, r2, o2, f2, _⟩ := run_append_own (P := Tryd.prog) u1 w.heap.size 27 27 42 i0 _ 2 16 Tryd.underlying27 hi hz0 hz1 hz2 rfl (by decide) v1 k (cd (L.take k)) o1 ad m c (cd (L.drop (k + 1))) hdl hnews (cd_one _) (by unfold maxLen; omega) (by omega) (Below.size g1)
  refine ⟨v1, u1, v2, u2, r1, r2, g1, (grownBy_frm f2).grw g1 (fun q e => (o1.lt q e).1), ?_⟩
  rw [cd_app]
  exact o2
set_option maxRecDepth 100000 in
/-- a copy of what lies behind the first one. -/
theorem cp_tail (w u : World) (ob off cap m : Nat) (d : Du) (l : List Du) (hu : Grw w u) (he : u.heap[w.heap.size]? = some (.cells #[] 42)) (hl : Lies w (some ⟨ob, off, none⟩) (cd (d :: l))) (hn : l.length = m) (hnc : m + 1 ≤ cap) (hL : l.length ≤ 100000)
    (ad : Addr) (c : Nat) (had : if cap = 1 then ad = ⟨ob, off, none⟩ else ad = ⟨ob, off + 1 * 2, none⟩) :
    ∃ v1 u1, (Builtin.append_ #[27, 27] 27 #[.slice (some ⟨w.heap.size, 0, none⟩) 0 0, .slice (some ad) m c]).run Tryd.prog u = .ok v1 u1 ∧ Grw w u1 ∧ u1.ownsRow w.heap.size 42 2 v1 m (cd l) := by
  have ht : Lies u (some ad) (cd l) := by
    by_cases hc : cap = 1
    · have h0 : l = [] := List.eq_nil_of_length_eq_zero (by omega)
      subst h0
      exact Or.inl rfl
    · rw [if_neg hc] at had
      subst had
      have hd := lies_drop (hl.later hu) 2
      rcases hl with h | ⟨b', off', e, hb', _⟩
      · cases h
      · injection e with e
        injection e with e1 e2
        subst e1; subst e2
        refine Or.inr ⟨ob, off + 1 * 2, rfl, Nat.lt_of_lt_of_le hb' (Below.size hu), fun j x hj => ?_⟩
        have := hd j x hj
        rw [Addr.add_lit] at this
        exact this
  obtain ⟨v1, u1, r1, o1, f1⟩ := cp_copy w.heap.size w.heap.size c m (some ad) l u (cp_empty w u w.heap.size (Nat.le_refl _) he) ht hn (fun e => by cases e) (by omega) (Below.size hu)
  exact ⟨v1, u1, r1, f1.grw hu (fun k e => Nat.le_of_eq e.symm), o1⟩
set_option maxRecDepth 100000 in
/-- the copy, then one more. -/
theorem cp_two (w u : World) (b b1 cap n : Nat) (ao : Option Addr) (L : List Du) (x : Du) (hg : Grw w u) (hb : w.heap.size ≤ b) (h : u.heap[b]? = some (.cells #[] 42)) (hl : Lies w ao (cd L)) (hn : L.length = n) (hz : ao = none → n = 0 ∧ cap = 0) (hL : L.length ≤ 100000)
    (hb1 : u.heap[b1]? = some (.cells #[.int .i64 x.id, .int .u64 (x.t : Nat)] 42)) (hne : b1 ≠ b) :
    ∃ v1 u1 v2 u2, (Builtin.append_ #[27, 27] 27 #[.slice (some ⟨b, 0, none⟩) 0 0, .slice ao n cap]).run Tryd.prog u = .ok v1 u1 ∧ (Builtin.append_ #[27, 27] 27 #[v1, .slice (some ⟨b1, 0, none⟩) 1 1]).run Tryd.prog u1 = .ok v2 u2 ∧
      Grw w u1 ∧ Grw w u2 ∧ u2.ownsRow w.heap.size 42 2 v2 (n + 1) (cd (L ++ [x])) := by
  obtain ⟨i0, hi, hz0, hz1, hz2⟩ := info_parts Tryd.info42
  obtain ⟨v1, u1, r1, o1, f1⟩ := cp_copy w.heap.size b cap n ao L u (cp_empty w u b hb h) (hl.later hg) hn hz (by omega) (Below.size hg)
  have hbk : u1.heap[b1]? = some (.cells #[.int .i64 x.id, .int .u64 (x.t : Nat)] 42) := (f1.block b1 (Array.getElem?_eq_some_iff.1 hb1).1 hne).trans hb1
  have g1 : Grw w u1 := f1.grw hg (fun k e => e ▸ hb)
  obtain ⟨v2, u2, r2, o2, f2, _⟩ := run_append_own (P := Tryd.prog) u1 w.heap.size 27 27 42 i0 _ 2 16 Tryd.underlying27 hi hz0 hz1 hz2 rfl (by decide) v1 n (cd L) o1 ⟨b1, 0, none⟩ 1 1 (cd [x]) (cd_len [x]) (blk_cells (xs := cd [x]) hbk) (cd_one [x]) (by unfold maxLen; omega) (by omega) (Below.size g1)
  refine ⟨v1, u1, v2, u2, r1, r2, g1, (grownBy_frm f2).grw g1 (fun k e => (o1.lt k e).1), ?_⟩
  rw [cd_app]
  exact o2
set_option maxRecDepth 100000 in
/-- the copy, then one more that is made behind the copy. -/
theorem cp_three (w u : World) (b cap n : Nat) (ao : Option Addr) (L : List Du) (x : Du) (hg : Grw w u) (hb : w.heap.size ≤ b) (h : u.heap[b]? = some (.cells #[] 42)) (hl : Lies w ao (cd L)) (hn : L.length = n) (hz : ao = none → n = 0 ∧ cap = 0) (hL : L.length ≤ 100000) :
    ∃ v1 u1 v2 u2, (Builtin.append_ #[27, 27] 27 #[.slice (some ⟨b, 0, none⟩) 0 0, .slice ao n cap]).run Tryd.prog u = .ok v1 u1 ∧ (Builtin.append_ #[27, 27] 27 #[v1, .slice (some ⟨u1.heap.size, 0, none⟩) 1 1]).run Tryd.prog (u1.alloc (.cells #[.int .i64 x.id, .int .u64 (x.t : Nat)] 42)) = .ok v2 u2 ∧
      Grw w u1 ∧ Grw w u2 ∧ u2.ownsRow w.heap.size 42 2 v2 (n + 1) (cd (L ++ [x])) := by
  obtain ⟨i0, hi, hz0, hz1, hz2⟩ := info_parts Tryd.info42
  obtain ⟨v1, u1, r1, o1, f1⟩ := cp_copy w.heap.size b cap n ao L u (cp_empty w u b hb h) (hl.later hg) hn hz (by omega) (Below.size hg)
  have g1 : Grw w u1 := f1.grw hg (fun k e => e ▸ hb)
  obtain ⟨v2, u2, r2, o2, f2, _⟩ := run_append_own (P := Tryd.prog) (u1.alloc (.cells #[.int .i64 x.id, .int .u64 (x.t : Nat)] 42)) w.heap.size 27 27 42 i0 _ 2 16 Tryd.underlying27 hi hz0 hz1 hz2 rfl (by decide) v1 n (cd L) (World.ownsRow.alloc o1 _) ⟨u1.heap.size, 0, none⟩ 1 1 (cd [x]) (cd_len [x]) (blk_cells (xs := cd [x]) (heap_alloc_new u1 _)) (cd_one [x]) (by unfold maxLen; omega) (by omega) (Below.size (g1.alloc _))
  refine ⟨v1, u1, v2, u2, r1, r2, g1, (grownBy_frm f2).grw (g1.alloc _) (fun k e => (o1.lt k e).1), ?_⟩
  rw [cd_app]
  exact o2
end WP
end Go.Proofs.YtjkhgpdhhnfmlaaDoor

/- The contract of the document's Insert at this program. -/
namespace Go.Proofs.YtjkhgpdhhnfmlaaDoor
open Go.RowKit TM MK
open RG (Du Srt)
open VM (lvl idsD)
set_option linter.unusedSimpArgs false

theorem wpList_append_run {P : Program} (w : World) {ops : Array Oper} {rest : List Oper} {o : Oper} {a : Act} {Q : Exit → Act → World → Prop} (hgd : o.guard = none) (s x : Operand) (t : TypeId)
    (ho : o.op = .call { callee := .builtin .append, args := #[s, x], argTypes := #[t, t] }) (vs vx : Value) (hs : a.eval s = vs) (hx : a.eval x = vx) {v' : Value} {w' : World}
    (hr : (Builtin.append_ #[t, t] o.type #[vs, vx]).run P w = .ok v' w') (h : wpList P ops Q rest (a.put o.dst v') w') : wpList P ops Q (o :: rest) a w := by
  refine wpList_plain hgd fun K hK => ?_
  unfold Oper.wp execOp
  simp only [ho, resolve, invoke, builtin, Sem.run_bind, Sem.run_pure, Result.andThen_ok, List.map_toArray, List.map_cons, List.map_nil, hs, hx, hr]
  exact hK _ _ h

set_option maxHeartbeats 4000000 in
set_option maxRecDepth 100000 in
theorem rinsert_R (r now : Nat) (v : Value) (L L' : List Du) (i : Int) (t : Nat) (z : Int) (w : World) (h : RW w r v now L) (hs : Srt L) (hb : L.length < 1000) (h1 : insE now L i t = z) (h2 : insL now L i t = L') :
    Calls Tryd.prog 10 #[.pointer (some ⟨r, 0, none⟩), .int .i64 i, .int .u64 (t : Nat)] w fun e w' => e = .returned (.int .i64 z) ∧ RQW w r v now L' w' := by
  have H := Lib.hid h
  rcases JM.fx_or L i with ⟨e1, e2⟩ | ⟨k, hk, e1, e3, e2, e4⟩
  · have A := Lib.hid (rfind_R r now v L i _ w h (by omega) e1)
    by_cases hle : t ≤ now
    · have e5 : z = 9 := by rw [← h1]; unfold insE; rw [e2]; simp [hle]
      have e6 : L' = L := by rw [← h2]; unfold insL; rw [e2]; simp [hle]
      subst e5 e6
      have K := Lib.hid (fun x (q : Grw w x) => (h.later q).kp.t.c1)
      have q1 : decide ((t : Int) ≤ (now : Int)) = true := by simp; omega
      have q2 : (t : Int) ≤ (now : Int) := by omega
      clear h hs hb h1 h2 e1 e2 hle
      go_enter Tryd.func10, Tryd.ntmps10
      go_wp2_with fail
      refine A.out.mono ?_
      rintro _ w1 ⟨rfl, hg⟩
      have k1 := K.out w1 hg
      have G := Lib.hid hg
      clear hg
      go_wp2_with fail
      go_ret
      exact ⟨rfl, RQW.same H.out G.out⟩
    · have e5 : z = 0 := by rw [← h1]; unfold insE; rw [e2]; simp [hle]
      have e6 : L' = RG.sort (L ++ [(⟨i, t⟩ : Du)]) := by rw [← h2, JM.sort_put hs]; unfold insL; rw [e2]; simp [hle]
      subst e5 e6
      have K := Lib.hid (fun x (q : Grw w x) => (h.later q).kp.t)
      have RL := Lib.hid h.kp.lt
      have q1 : decide ((t : Int) ≤ (now : Int)) = false := by simp; omega
      have q2 : ¬ (t : Int) ≤ (now : Int) := by omega
      obtain ⟨n, hn⟩ : ∃ n, L.length = n := ⟨_, rfl⟩
      obtain ⟨ao, cap, rfl, hcap, hnil, hl⟩ := h.row
      rw [hn] at hcap hnil K
      have HN := Lib.hid (And.intro hn (And.intro hnil (And.intro hb hl)))
      clear h hs h1 h2 e1 e2 hle hn hnil hb hl hcap
      go_enter Tryd.func10, Tryd.ntmps10
      go_wp2_with fail
      refine A.out.mono ?_
      rintro _ w1 ⟨rfl, hg⟩
      have G := Lib.hid hg
      have k1 := (K.out w1 hg).c1
      have k0 := (K.out w1 hg).c0
      have hr : ¬ r = w1.heap.size := by have := RL.out; have := Below.size hg; omega
      have k0u := (K.out _ (hg.alloc (.cells #[] 42))).c0
      obtain ⟨v1, x1, v2, x2, r1, r2, g1, g2, o2⟩ := WP.cp_three w1 (w1.alloc (.cells #[] 42)) w1.heap.size cap n ao L ⟨i, t⟩ ((Grw.rfl' w1).alloc _) (Nat.le_refl _) (heap_alloc_new w1 _) (HN.out.2.2.2.later hg) HN.out.1 HN.out.2.1 (by have := HN.out.2.2.1; omega)
      obtain ⟨p2, c2, rfl⟩ := ownsRow_succ o2
      have SO : Hid (Calls Tryd.prog 35 #[.slice (some ⟨p2, 0, none⟩) (n + 1) c2] x2 fun e w' => ∃ b off cp, e = .returned (.slice (some ⟨b, off, none⟩) (RG.sort (L ++ [(⟨i, t⟩ : Du)])).length cp) ∧ Grw x2 w' ∧ RQW w r (.slice ao n cap) now (RG.sort (L ++ [(⟨i, t⟩ : Du)])) (w'.setCell ⟨r, 0, none⟩ (.slice (some ⟨b, off, none⟩) (RG.sort (L ++ [(⟨i, t⟩ : Du)])).length cp))) := (by
          obtain ⟨ao', cap', e, l'⟩ := ownsRow_lies o2
          injection e with e1 e2 e3
          subst e1
          have ln : (L ++ [(⟨i, t⟩ : Du)]).length = n + 1 := by simp [HN.out.1]
          have S := SF.rsort_new (some ⟨p2, 0, none⟩) c2 (L ++ [⟨i, t⟩]) x2 l' (by rw [ln]; have := HN.out.2.2.1; have := HN.out.1; omega)
          rw [ln] at S
          refine S.mono ?_
          rintro _ y ⟨u, rfl, ho, gy⟩
          have gxy := (hg.trans g2).trans gy
          rcases ho with ⟨c, _⟩ | ⟨_, b, off, cp, rfl, h3, _, h4, h5⟩
          · have := RG.sort_len (L ++ [(⟨i, t⟩ : Du)])
            rw [c, ln] at this
            simp at this
          · refine ⟨b, off, cp, rfl, gy, ?_⟩
            have HH := H.out
            rw [HN.out.1] at HH
            refine HH.stored gxy h3 (fun e => by cases e) h5 (fun k hk => ?_)
            injection hk with hk
            subst hk
            refine ⟨?_, ?_⟩
            · have := Below.size (hg.trans g2)
              show _ ≤ b
              omega
            · rcases h5 with c | ⟨b', off', e, hb', _⟩
              · have := RG.sort_len (L ++ [(⟨i, t⟩ : Du)])
                have c2 := cd_len (RG.sort (L ++ [(⟨i, t⟩ : Du)]))
                rw [c, this, ln] at c2
                simp at c2
              · injection e with e
                injection e with e _
                subst e
                exact hb' : Calls Tryd.prog 35 #[.slice (some ⟨p2, 0, none⟩) (n + 1) c2] x2 fun e w' => ∃ b off cp, e = .returned (.slice (some ⟨b, off, none⟩) (RG.sort (L ++ [(⟨i, t⟩ : Du)])).length cp) ∧ Grw x2 w' ∧ RQW w r (.slice ao n cap) now (RG.sort (L ++ [(⟨i, t⟩ : Du)])) (w'.setCell ⟨r, 0, none⟩ (.slice (some ⟨b, off, none⟩) (RG.sort (L ++ [(⟨i, t⟩ : Du)])).length cp)))
      have KY := Lib.hid (fun y (q : Grw x2 y) => K.out y ((hg.trans g2).trans q))
      clear hg g1 g2 o2
      go_wp2_with (first | (at_builtin; refine wpList_append_run _ rfl (.tmp 18) (.tmp 22) 27 rfl _ _ rfl rfl r1 ?_) | (at_builtin; refine wpList_append_run _ rfl (.tmp 23) (.tmp 27) 27 rfl _ _ rfl rfl r2 ?_))
      refine SO.out.mono ?_
      rintro _ y ⟨b, off, cp, rfl, gy, hq⟩
      have y0 := (KY.out y gy).c0
      have f0 := (KY.out y gy).f0
      have HQ := Lib.hid hq
      clear gy hq
      go_wp2_with fail
      go_ret
      have HE := HQ.out
      rw [← HN.out.1] at HE
      exact ⟨rfl, HE⟩
  · have A := Lib.hid (rfind_R r now v L i _ w h (by omega) e1)
    have e5 : z = 8 := by rw [← h1]; unfold insE; rw [e2]; simp
    have e6 : L' = L := by rw [← h2]; unfold insL; rw [e2]; simp
    subst e5 e6
    have q1 : decide (0 ≤ (k : Int)) = true := by simp
    have q2 : 0 ≤ (k : Int) := by omega
    clear h hs hb h1 h2 e1 e2 e3 e4 hk
    go_enter Tryd.func10, Tryd.ntmps10
    go_wp2_with fail
    refine A.out.mono ?_
    rintro _ w1 ⟨rfl, hg⟩
    have G := Lib.hid hg
    clear hg
    go_wp2_with fail
    go_ret
    exact ⟨rfl, RQW.same H.out G.out⟩
end Go.Proofs.YtjkhgpdhhnfmlaaDoor

/- The contract of the document's Cancel at this program. -/
namespace Go.Proofs.YtjkhgpdhhnfmlaaDoor
open Go.RowKit TM MK
open RG (Du Srt)
open VM (lvl idsD)
set_option linter.unusedSimpArgs false

set_option maxHeartbeats 8000000 in
set_option maxRecDepth 100000 in
theorem rcancel_R (r now : Nat) (v : Value) (L L' : List Du) (i : Int) (c : Nat) (o : Bool) (w : World) (h : RW w r v now L) (hid : (idsD L).Nodup) (hb : L.length ≤ 1000) (h1 : (atO L i).getD 0 = c) (h2 : (atO L i).isSome = o) (h3 : VM.del i L = L') :
    Calls Tryd.prog 12 #[.pointer (some ⟨r, 0, none⟩), .int .i64 i] w fun e w' => e = .returned (.agg #[.int .u64 (c : Nat), .bool o]) ∧ RQW w r v now L' w' := by
  have H := Lib.hid h
  have G0 := Lib.hid ((Grw.rfl' w).alloc (.cells #[.int .u64 0, .bool false] 39))
  have T0 := Lib.hid (Kp.new w (.int .u64 0) (.bool false) 39)
  have A := Lib.hid (fun x (q : Grw w x) => rat_R r now v L i c o x (h.later q) hb h1 h2)
  obtain ⟨Z, hZ⟩ : ∃ Z, w.heap.size = Z := ⟨_, rfl⟩
  rw [hZ] at T0
  have HZ := Lib.hid (Nat.le_of_eq hZ)
  rcases JM.fx_or L i with ⟨e1, e2⟩ | ⟨k, hk, e1, e3, e2, e4⟩
  · rw [e2] at h1 h2
    obtain rfl : 0 = c := h1
    obtain rfl : false = o := h2
    obtain rfl : L = L' := by rw [← h3]; exact (VM.del_no (atO_no e2)).symm
    clear h hid hb h3 e1 e2
    go_enter Tryd.func12, Tryd.ntmps12
    go_wp2_with fail
    refine (A.out _ G0.out).mono ?_
    rintro _ w1 ⟨rfl, hg⟩
    have T1 := Lib.hid (T0.out.later hg)
    have G1 := Lib.hid (G0.out.trans hg)
    have hzn : ¬ Z = w1.heap.size := by have := T1.out.lt; omega
    have T2 := T1.out.later ((Grw.rfl' w1).alloc (.cells #[.int .u64 0, .bool false] 39))
    have c0 := T2.t.c0
    have c1 := T2.t.c1
    have f0 := T2.t.f0
    have f1 := T2.t.f1
    clear hg T2
    go_wp2_with fail
    exact bodyPost_ret (v := .agg #[.int .u64 0, .bool false]) (by simp [results, Tryd.results12, go_sem, c0, c1]) rfl ⟨rfl, RQW.same H.out ((G1.out.alloc _).set2 HZ.out _ _)⟩
  · rw [e2] at h1 h2
    obtain rfl : (L[k]).t = c := h1
    obtain rfl : true = o := h2
    obtain ⟨t, ht⟩ : ∃ t, (L[k]).t = t := ⟨_, rfl⟩
    rw [ht] at A ⊢
    have B := Lib.hid (fun x (q : Grw w x) => rfind_R r now v L i _ x (h.later q) hb e1)
    have CD : Hid (L.take k ++ L.drop (k + 1) = L') := ((JM.cut_del hid hk e3).trans h3 : L.take k ++ L.drop (k + 1) = L')
    have K := Lib.hid (fun x (q : Grw w x) => (h.later q).kp)
    have RL := Lib.hid h.kp.lt
    obtain ⟨n, hn⟩ : ∃ n, L.length = n := ⟨_, rfl⟩
    have hkl := hk
    obtain ⟨ao, cap, rfl, hnc, hnil, hl⟩ := h.row
    obtain ⟨ob, off, rfl, _, _⟩ := lies_at hl hk
    have LI := Lib.hid hl
    rw [hn] at hk hb hnc K
    have HN := Lib.hid (And.intro hn hb)
    obtain ⟨m, hm⟩ : ∃ m, k + 1 + m = n := ⟨n - (k + 1), by omega⟩
    have HM := Lib.hid hm
    obtain ⟨J, hJ⟩ : ∃ J, k + 1 = J := ⟨_, rfl⟩
    have q1 : IntKind.i64.wrap ((k : Int) + 1) = (J : Int) := by rw [← hJ]; simp [IntKind.wrap_i64]; omega
    have HJ := Lib.hid hJ
    have hs0 : J ≤ n := by omega
    have hs3 : k ≤ J := by omega
    have hs1 : k ≤ cap := by omega
    clear h hid hkl e1 e2 e3 e4 h3 ht hn hl hnil hm hJ hb hk
    go_enter Tryd.func12, Tryd.ntmps12
    go_wp2_with fail
    refine (A.out _ G0.out).mono ?_
    rintro _ w1 ⟨rfl, hg⟩
    have T1 := Lib.hid ((T0.out.later hg).later ((Grw.rfl' w1).alloc (.cells #[.int .u64 (t : Nat), .bool true] 39)))
    have G1 := Lib.hid ((G0.out.trans hg).alloc (.cells #[.int .u64 (t : Nat), .bool true] 39))
    have X1 := Lib.hid (Kp.new w1 (.int .u64 (t : Nat)) (.bool true) 39)
    have ZX : Hid (Z < w1.heap.size) := ((T0.out.later hg).lt : Z < w1.heap.size)
    have RX : Hid (r < w1.heap.size) := ((K.out w1 (G0.out.trans hg)).lt : r < w1.heap.size)
    clear hg
    obtain ⟨X, hX⟩ : ∃ X, w1.heap.size = X := ⟨_, rfl⟩
    rw [hX] at X1 ZX RX
    go_wp2_with fail
    refine (B.out _ G1.out).mono ?_
    rintro _ w2 ⟨rfl, hg⟩
    have T2 := Lib.hid (T1.out.later hg)
    have X2 := Lib.hid (X1.out.later hg)
    have G2 := Lib.hid (G1.out.trans hg)
    have LI2 := LI.out.later G2.out
    clear hg
    go_upto_region 4 with fail
    have hZr : ¬ Z = r := by have := RL.out; omega
    have hrZ : ¬ r = Z := fun e => hZr e.symm
    have hXr : ¬ X = r := by have := RX.out; omega
    have hrX : ¬ r = X := fun e => hXr e.symm
    have hZX : ¬ Z = X := by have := ZX.out; omega
    have hXZ : ¬ X = Z := fun e => hZX e.symm
    have hrw : ¬ r = w2.heap.size := by have := (K.out w2 G2.out).lt; omega
    have k0 := (K.out w2 G2.out).t.c0
    have k0a := (K.out _ (G2.out.alloc (.cells #[] 42))).t.c0
    by_cases hck : cap = J
    · obtain rfl : n = J := by omega
      subst hck
      clear hs0
      obtain ⟨v1, u1, v2, u2, r1, r2, g1, g2, o2⟩ := WP.cp_drop w2 (w2.drew.alloc (.cells #[] 42)) ob off cap cap k (cap - (k + 1)) L (((Grw.rfl' w2).drew).alloc _) (heap_alloc_new w2.drew _) LI2 HN.out.1 (by have := HJ.out; have := HM.out; omega) hnc (by have := HN.out; omega) ⟨ob, off, none⟩ 0 (by rw [if_pos (by rw [HJ.out])])
      obtain ⟨N2, hN2⟩ : ∃ N2, k + (cap - (k + 1)) = N2 := ⟨_, rfl⟩
      rw [hN2] at o2
      obtain ⟨ao2, cap2, hv2, l2⟩ := ownsRow_lies o2
      subst hv2
      have LE : (L.take k ++ L.drop (k + 1)).length = N2 := by rw [List.length_append, List.length_take, List.length_drop, HN.out.1]; have := HJ.out; have := HM.out; omega
      have KU1 := K.out u1 (G2.out.trans g1)
      have KU := K.out u2 (G2.out.trans g2)
      have TU := T2.out.later g2
      have XU := X2.out.later g2
      have j0 := KU1.t.c0
      have b0 := KU.t.c0
      have bf := KU.t.f0
      have c0 := TU.t.c0
      have c1 := TU.t.c1
      have f0 := TU.t.f0
      have f1 := TU.t.f1
      have x0 := XU.t.c0
      have x1 := XU.t.c1
      have LF : Hid (RQW w r (.slice (some ⟨ob, off, none⟩) L.length cap) now L' (((u2.setCell ⟨r, 0, none⟩ (.slice ao2 N2 cap2)).setCell ⟨Z, 0, none⟩ (.int .u64 (t : Nat))).setCell ⟨Z, 1, none⟩ (.bool true))) := (by
        rw [← LE, ← CD.out]
        refine H.out.stored2 (G2.out.trans g2) ?_ ?_ l2 ?_ HZ.out ?_ _ _
        · rcases o2.2 with ⟨e, e'⟩ | ⟨_, _, _, e, _, _, e', _⟩
          · rw [LE]; injection e with _ _ e; omega
          · rw [LE]; injection e with _ _ e; omega
        · intro e
          subst e
          rcases o2.2 with ⟨e, e'⟩ | ⟨_, _, _, e, _⟩
          · injection e with _ _ e; rw [LE]; exact ⟨e', e⟩
          · injection e with e; cases e
        · rw [LE]; intro k hk; have := o2.lt k hk; have := Below.size G2.out; omega
        · rw [LE]; intro k hk e; have := o2.lt k hk; have := T2.out.lt; omega : RQW w r (.slice (some ⟨ob, off, none⟩) L.length cap) now L' (((u2.setCell ⟨r, 0, none⟩ (.slice ao2 N2 cap2)).setCell ⟨Z, 0, none⟩ (.int .u64 (t : Nat))).setCell ⟨Z, 1, none⟩ (.bool true)))
      replace r1 : (Builtin.append_ #[27, 27] 27 #[.slice (some ⟨w2.heap.size, 0, none⟩) 0 0, .slice (some ⟨ob, off, none⟩) k cap]).run Tryd.prog (w2.alloc (.cells #[] 42)).drew = .ok v1 u1 := r1
      rw [HJ.out, Nat.sub_self] at r2
      clear LI2 g1 g2 l2 LE hN2 o2 TU XU KU KU1
      go_region_law (first | (refine step_append_run rfl (.tmp 16) (.tmp 22) 27 rfl _ _ (by simp [Act.eval, Act.put]) (by simp [Act.eval, Act.put]) r1 ?_) | (refine step_append_run rfl (.tmp 23) (.tmp 30) 27 rfl _ _ (by simp [Act.eval, Act.put]) (by simp [Act.eval, Act.put]) r2 ?_))
      all_goals
        go_wp2_with fail
        exact bodyPost_ret (v := .agg #[.int .u64 (t : Nat), .bool true]) (by simp [results, Tryd.results12, go_sem, c0, c1, hrZ, hZr]) rfl ⟨rfl, LF.out⟩
    · obtain ⟨v1, u1, v2, u2, r1, r2, g1, g2, o2⟩ := WP.cp_drop w2 (w2.drew.alloc (.cells #[] 42)) ob off cap n k (n - (k + 1)) L (((Grw.rfl' w2).drew).alloc _) (heap_alloc_new w2.drew _) LI2 HN.out.1 (by have := HJ.out; have := HM.out; omega) hnc (by have := HN.out; omega) ⟨ob, off + (k + 1) * 2, none⟩ (cap - (k + 1)) (by rw [if_neg (by rw [HJ.out]; exact hck)])
      obtain ⟨N2, hN2⟩ : ∃ N2, k + (n - (k + 1)) = N2 := ⟨_, rfl⟩
      rw [hN2] at o2
      obtain ⟨ao2, cap2, hv2, l2⟩ := ownsRow_lies o2
      subst hv2
      have LE : (L.take k ++ L.drop (k + 1)).length = N2 := by rw [List.length_append, List.length_take, List.length_drop, HN.out.1]; have := HJ.out; have := HM.out; omega
      have KU1 := K.out u1 (G2.out.trans g1)
      have KU := K.out u2 (G2.out.trans g2)
      have TU := T2.out.later g2
      have XU := X2.out.later g2
      have j0 := KU1.t.c0
      have b0 := KU.t.c0
      have bf := KU.t.f0
      have c0 := TU.t.c0
      have c1 := TU.t.c1
      have f0 := TU.t.f0
      have f1 := TU.t.f1
      have x0 := XU.t.c0
      have x1 := XU.t.c1
      have LF : Hid (RQW w r (.slice (some ⟨ob, off, none⟩) L.length cap) now L' (((u2.setCell ⟨r, 0, none⟩ (.slice ao2 N2 cap2)).setCell ⟨Z, 0, none⟩ (.int .u64 (t : Nat))).setCell ⟨Z, 1, none⟩ (.bool true))) := (by
        rw [← LE, ← CD.out]
        refine H.out.stored2 (G2.out.trans g2) ?_ ?_ l2 ?_ HZ.out ?_ _ _
        · rcases o2.2 with ⟨e, e'⟩ | ⟨_, _, _, e, _, _, e', _⟩
          · rw [LE]; injection e with _ _ e; omega
          · rw [LE]; injection e with _ _ e; omega
        · intro e
          subst e
          rcases o2.2 with ⟨e, e'⟩ | ⟨_, _, _, e, _⟩
          · injection e with _ _ e; rw [LE]; exact ⟨e', e⟩
          · injection e with e; cases e
        · rw [LE]; intro k hk; have := o2.lt k hk; have := Below.size G2.out; omega
        · rw [LE]; intro k hk e; have := o2.lt k hk; have := T2.out.lt; omega : RQW w r (.slice (some ⟨ob, off, none⟩) L.length cap) now L' (((u2.setCell ⟨r, 0, none⟩ (.slice ao2 N2 cap2)).setCell ⟨Z, 0, none⟩ (.int .u64 (t : Nat))).setCell ⟨Z, 1, none⟩ (.bool true)))
      replace r1 : (Builtin.append_ #[27, 27] 27 #[.slice (some ⟨w2.heap.size, 0, none⟩) 0 0, .slice (some ⟨ob, off, none⟩) k cap]).run Tryd.prog (w2.alloc (.cells #[] 42)).drew = .ok v1 u1 := r1
      rw [HJ.out] at r2
      clear LI2 g1 g2 l2 LE hN2 o2 TU XU KU KU1
      go_region_law (first | (refine step_append_run rfl (.tmp 16) (.tmp 22) 27 rfl _ _ (by simp [Act.eval, Act.put]) (by simp [Act.eval, Act.put]) r1 ?_) | (refine step_append_run rfl (.tmp 23) (.tmp 30) 27 rfl _ _ (by simp [Act.eval, Act.put]) (by simp [Act.eval, Act.put]) r2 ?_))
      all_goals
        go_wp2_with fail
        exact bodyPost_ret (v := .agg #[.int .u64 (t : Nat), .bool true]) (by simp [results, Tryd.results12, go_sem, c0, c1, hrZ, hZr]) rfl ⟨rfl, LF.out⟩
end Go.Proofs.YtjkhgpdhhnfmlaaDoor

/- The contract of the document's Pop at this program. -/
namespace Go.Proofs.YtjkhgpdhhnfmlaaDoor
open Go.RowKit TM MK
open RG (Du Srt)
open VM (lvl idsD)
set_option linter.unusedSimpArgs false

/-- the document's wheel behind some stores, its row named. -/
def RX (w : World) (r : Nat) (v v' : Value) (now : Nat) (L : List Du) (y : World) : Prop := RW y r v' now L ∧ Frm (fun k => k = r) w y ∧ ∀ k, v'.ownBlock = some k → v.ownBlock = some k ∨ w.heap.size ≤ k
section
variable {w y : World} {r now : Nat} {v v' : Value} {L : List Du}
theorem RX.start (h : RW w r v now L) (g : Grw w y) : RX w r v v now L y := ⟨h.later g, g.frm _, fun _ e => Or.inl e⟩
theorem RX.q (h : RX w r v v' now L y) : RQW w r v now L y := ⟨v', h⟩
theorem RX.turn (h : RX w r v v' now L y) (tt : Nat) : RX w r v v' tt L (y.setCell ⟨r, 1, none⟩ (.int .u64 (tt : Nat))) :=
  ⟨h.1.turn tt, h.2.1.trans (frm_set (F := fun k => k = r) y _ _ rfl) (fun _ e => Or.inl e), h.2.2⟩
theorem RX.set (h : RX w r v v' now L y) {Z j : Nat} (hZ : w.heap.size ≤ Z) (hr : r ≠ Z) (hb : ∀ k, v'.ownBlock = some k → k ≠ Z) (a : Value) : RX w r v v' now L (y.setCell ⟨Z, j, none⟩ a) := by
  have f : Frm (fun k => k = Z) y (y.setCell ⟨Z, j, none⟩ a) := frm_set y _ _ rfl
  exact ⟨h.1.frm f hr (fun k hk => hb k hk), h.2.1.trans f (fun k e => Or.inr (e ▸ hZ)), h.2.2⟩
theorem RX.store (h : RX w r v v' now L y) {L' : List Du} {ao : Option Addr} {cap : Nat} (h1 : L'.length ≤ cap) (h2 : ao = none → L'.length = 0 ∧ cap = 0) (h3 : Lies y ao (cd L'))
    (hr : r < w.heap.size) (hb : ∀ k, (Value.slice ao L'.length cap).ownBlock = some k → w.heap.size ≤ k ∧ k < y.heap.size) : RX w r v (.slice ao L'.length cap) now L' (y.setCell ⟨r, 0, none⟩ (.slice ao L'.length cap)) := by
  have K := h.1.kp
  have f : Frm (fun k => k = r) y (y.setCell ⟨r, 0, none⟩ (.slice ao L'.length cap)) := frm_set y _ _ rfl
  refine ⟨⟨⟨⟨?_, ?_, ?_, ?_⟩, ?_⟩, ⟨ao, cap, rfl, h1, h2, ?_⟩, fun k hk => ⟨?_, ?_⟩⟩, h.2.1.trans f (fun _ e => Or.inl e), fun k hk => Or.inr (hb k hk).1⟩
  · have := K.t.c0; simp [go_sem, this]
  · exact (World.cell?_setCell_other y _ _ _ (fun e => by injection e with _ e; cases e)).trans K.t.c1
  · have := K.t.f0; simp [go_sem, this]
  · have := K.t.f1; simp [go_sem, this]
  · exact Nat.lt_of_lt_of_le K.lt f.size
  · exact h3.frm f (fun a e c => by
      have := (hb a.block (by rw [e]; rfl)).1
      omega)
  · have := (hb k hk).1
    omega
  · exact Nat.lt_of_lt_of_le (hb k hk).2 f.size
end
/-- what Pop tells. -/
def PopH (w : World) (r : Nat) (v : Value) (d : Du) (o : Bool) (now : Nat) (L : List Du) (e : Ending) (w' : World) : Prop := e = .returned (.tuple #[.agg #[.int .i64 d.id, .int .u64 (d.t : Nat)], .bool o]) ∧ RQW w r v now L w'

set_option maxHeartbeats 4000000 in
set_option maxRecDepth 100000 in
theorem rpop_empty (r now : Nat) (v : Value) (tt nw : Nat) (w : World) (h : RW w r v now []) (hm : max now tt = nw) :
    Calls Tryd.prog 14 #[.pointer (some ⟨r, 0, none⟩), .int .u64 (tt : Nat)] w (PopH w r v ⟨0, 0⟩ false nw []) := by
  have H := Lib.hid h
  obtain ⟨ao, cap, rfl, _, _, _⟩ := h.row
  have mx : max (now : Int) (tt : Int) = (nw : Int) := by omega
  have K := h.later ((Grw.rfl' w).alloc (.cells #[.int .i64 0, .int .u64 0] 42))
  have k0 := K.kp.t.c0
  have k1 := K.kp.t.c1
  have g1 := K.kp.t.f1
  have RL := Lib.hid h.kp.lt
  have hrw : ¬ r = w.heap.size := by have := RL.out; omega
  have hwr : ¬ w.heap.size = r := fun e => hrw e.symm
  clear h K hm
  have RQ : Hid (RQW w r (.slice ao 0 cap) nw [] ((((w.alloc (.cells #[.int .i64 0, .int .u64 0] 42)).setCell ⟨r, 1, none⟩ (.int .u64 (nw : Nat))).setCell ⟨w.heap.size, 0, none⟩ (.int .i64 0)).setCell ⟨w.heap.size, 1, none⟩ (.int .u64 0))) :=
    ((((RX.start H.out ((Grw.rfl' w).alloc (.cells #[.int .i64 0, .int .u64 0] 42))).turn nw).set (Z := w.heap.size) (j := 0) (Nat.le_refl _) hrw (fun k hk => Nat.ne_of_lt (H.out.blk k hk).2) (.int .i64 0)).set (Z := w.heap.size) (j := 1) (Nat.le_refl _) hrw (fun k hk => Nat.ne_of_lt (H.out.blk k hk).2) (.int .u64 0)).q
  simp only [List.length_nil] at k0
  go_enter Tryd.func14, Tryd.ntmps14
  go_wp2_with fail
  exact bodyPost_ret (v := .tuple #[.agg #[.int .i64 0, .int .u64 0], .bool false]) (by simp [results, Tryd.results14, go_sem, hrw, hwr]) rfl ⟨rfl, RQ.out⟩
set_option maxHeartbeats 4000000 in
set_option maxRecDepth 100000 in
theorem rpop_miss (r now : Nat) (v : Value) (tt nw : Nat) (d : Du) (l : List Du) (w : World) (h : RW w r v now (d :: l)) (hd : ¬ d.t ≤ tt) (hm : max now tt = nw) :
    Calls Tryd.prog 14 #[.pointer (some ⟨r, 0, none⟩), .int .u64 (tt : Nat)] w (PopH w r v ⟨0, 0⟩ false nw (d :: l)) := by
  have H := Lib.hid h
  obtain ⟨ao, cap, rfl, hnc, _, hl⟩ := h.row
  have mx : max (now : Int) (tt : Int) = (nw : Int) := by omega
  have K := h.later ((Grw.rfl' w).alloc (.cells #[.int .i64 0, .int .u64 0] 42))
  have k0 := K.kp.t.c0
  have k1 := K.kp.t.c1
  have g1 := K.kp.t.f1
  have RL := Lib.hid h.kp.lt
  have hrw : ¬ r = w.heap.size := by have := RL.out; omega
  have hwr : ¬ w.heap.size = r := fun e => hrw e.symm
  obtain ⟨ob, off, rfl, e0, e1⟩ := lies_at (hl.later ((Grw.rfl' w).alloc (.cells #[.int .i64 0, .int .u64 0] 42))) (j := 0) (by simp)
  obtain ⟨n, hn⟩ : ∃ n, (d :: l).length = n := ⟨_, rfl⟩
  have hn0 : 0 < n := by rw [← hn]; simp
  have hn1 : (0 : Int) < (n : Int) := by omega
  have hn2 : decide ((0 : Int) < (n : Int)) = true := by simp; omega
  simp only [Nat.zero_mul, Nat.add_zero, List.getElem_cons_zero] at e0 e1
  obtain ⟨di, dt⟩ := d
  simp only at hd e0 e1
  have t1 : decide ((dt : Int) ≤ (tt : Int)) = false := by simp; omega
  have t2 : ¬ (dt : Int) ≤ (tt : Int) := by omega
  rw [hn] at k0 hnc
  have RQ : Hid (RQW w r (.slice (some ⟨ob, off, none⟩) (l.length + 1) cap) nw (⟨di, dt⟩ :: l) ((((w.alloc (.cells #[.int .i64 0, .int .u64 0] 42)).setCell ⟨r, 1, none⟩ (.int .u64 (nw : Nat))).setCell ⟨w.heap.size, 0, none⟩ (.int .i64 0)).setCell ⟨w.heap.size, 1, none⟩ (.int .u64 0))) :=
    ((((RX.start H.out ((Grw.rfl' w).alloc (.cells #[.int .i64 0, .int .u64 0] 42))).turn nw).set (Z := w.heap.size) (j := 0) (Nat.le_refl _) hrw (fun k hk => Nat.ne_of_lt (H.out.blk k hk).2) (.int .i64 0)).set (Z := w.heap.size) (j := 1) (Nat.le_refl _) hrw (fun k hk => Nat.ne_of_lt (H.out.blk k hk).2) (.int .u64 0)).q
  clear h K hm hl hd hn
  go_enter Tryd.func14, Tryd.ntmps14
  go_wp2_with fail
  exact bodyPost_ret (v := .tuple #[.agg #[.int .i64 0, .int .u64 0], .bool false]) (by simp [results, Tryd.results14, go_sem, hrw, hwr]) rfl ⟨rfl, RQ.out⟩
set_option maxHeartbeats 4000000 in
set_option maxRecDepth 100000 in
theorem rpop_hit (r now : Nat) (v : Value) (tt : Nat) (d : Du) (l : List Du) (w : World) (h : RW w r v now (d :: l)) (hb : l.length < 1000) (hd : d.t ≤ tt) :
    Calls Tryd.prog 14 #[.pointer (some ⟨r, 0, none⟩), .int .u64 (tt : Nat)] w (PopH w r v d true d.t l) := by
  have H := Lib.hid h
  obtain ⟨ao, cap, rfl, hnc, _, hl⟩ := h.row
  have K := Lib.hid (fun x (q : Grw w x) => (h.later q).kp)
  have hrlt := h.kp.lt
  obtain ⟨Z, hZ⟩ : ∃ Z, w.heap.size = Z := ⟨_, rfl⟩
  have HZ := Lib.hid (Nat.le_of_eq hZ)
  obtain ⟨ob, off, rfl, e0, e1⟩ := lies_at (hl.later ((Grw.rfl' w).alloc (.cells #[.int .i64 0, .int .u64 0] 42))) (j := 0) (by simp)
  have LI := Lib.hid hl
  obtain ⟨n, hn⟩ : ∃ n, (d :: l).length = n := ⟨_, rfl⟩
  have hlm : l.length = n - 1 := by rw [← hn]; simp
  have hn0 : 0 < n := by rw [← hn]; simp
  have hn1 : (0 : Int) < (n : Int) := by omega
  have hn2 : decide ((0 : Int) < (n : Int)) = true := by simp; omega
  have hn3 : 1 ≤ n := hn0
  have hn4 : 1 ≤ cap := by omega
  simp only [Nat.zero_mul, Nat.add_zero, List.getElem_cons_zero] at e0 e1
  obtain ⟨di, dt⟩ := d
  simp only at hd e0 e1
  have t1 : decide ((dt : Int) ≤ (tt : Int)) = true := by simp; omega
  have t2 : (dt : Int) ≤ (tt : Int) := by omega
  rw [hn] at hnc K
  have HN := Lib.hid (And.intro hn (And.intro hlm hb))
  have k0 := (K.out _ ((Grw.rfl' w).alloc (.cells #[.int .i64 0, .int .u64 0] 42))).t.c0
  have k1 := (K.out _ ((Grw.rfl' w).alloc (.cells #[.int .i64 0, .int .u64 0] 42))).t.c1
  have hrZ : ¬ r = Z := by omega
  have hZr : ¬ Z = r := fun e => hrZ e.symm
  have hrZ1 : ¬ r = Z + 1 := by omega
  have hZ1r : ¬ Z + 1 = r := fun e => hrZ1 e.symm
  have G2 := Lib.hid (((Grw.rfl' w).alloc (.cells #[.int .i64 0, .int .u64 0] 42)).alloc (.cells #[.int .i64 di, .int .u64 (dt : Nat)] 42))
  have TZ := Lib.hid ((Kp.new w (.int .i64 0) (.int .u64 0) 42).later ((Grw.rfl' _).alloc (.cells #[.int .i64 di, .int .u64 (dt : Nat)] 42)))
  have TD := Lib.hid (Kp.new (w.alloc (.cells #[.int .i64 0, .int .u64 0] 42)) (.int .i64 di) (.int .u64 (dt : Nat)) 42)
  rw [size_new] at TD
  rw [hZ] at TZ TD
  clear h hl hd hn hlm hb hrlt
  go_enter Tryd.func14, Tryd.ntmps14
  go_upto_region 3 with fail
  clear e0 e1 k0 k1
  obtain ⟨w2, hw2⟩ : ∃ x, (w.alloc (.cells #[.int .i64 0, .int .u64 0] 42)).alloc (.cells #[.int .i64 di, .int .u64 (dt : Nat)] 42) = x := ⟨_, rfl⟩
  rw [hw2] at TZ TD G2 ⊢
  clear hw2
  have k0 := (K.out _ G2.out).t.c0
  have k0a := (K.out _ (G2.out.alloc (.cells #[] 42))).t.c0
  have x1 := TD.out.t.c1
  have x1a := (TD.out.later ((Grw.rfl' w2).alloc (.cells #[] 42))).t.c1
  have hrw : ¬ r = w2.heap.size := by have := (K.out _ G2.out).lt; omega
  have hDw : ¬ Z + 1 = w2.heap.size := by have := TD.out.lt; omega
  obtain ⟨ad, hac⟩ : ∃ ad : Addr, (if cap = 1 then ad = ⟨ob, off, none⟩ else ad = ⟨ob, off + 1 * 2, none⟩) := by
    by_cases c : cap = 1
    · exact ⟨_, by rw [if_pos c]⟩
    · exact ⟨_, by rw [if_neg c]⟩
  obtain ⟨v1, u1, r1, g1, o1⟩ := WP.cp_tail w2 (w2.drew.alloc (.cells #[] 42)) ob off cap (n - 1) ⟨di, dt⟩ l (((Grw.rfl' w2).drew).alloc _) (heap_alloc_new w2.drew _) (LI.out.later G2.out) HN.out.2.1 (by omega) (by have := HN.out.2.2; omega) ad (cap - 1) hac
  obtain ⟨N2, hN2⟩ : ∃ N2, n - 1 = N2 := ⟨_, rfl⟩
  rw [hN2] at o1
  obtain ⟨ao2, cap2, hv2, l2⟩ := ownsRow_lies o1
  subst hv2
  have LE : l.length = N2 := by rw [HN.out.2.1, hN2]
  have KU := K.out u1 (G2.out.trans g1)
  have ZU := TZ.out.later g1
  have DU := TD.out.later g1
  have b0 := KU.t.c0
  have bf0 := KU.t.f0
  have b1 := KU.t.c1
  have bf1 := KU.t.f1
  have z0 := ZU.t.c0
  have z1 := ZU.t.c1
  have zf0 := ZU.t.f0
  have zf1 := ZU.t.f1
  have d0 := DU.t.c0
  have d1 := DU.t.c1
  have hc1 : N2 ≤ cap2 := by
    rcases o1.2 with ⟨e, e'⟩ | ⟨_, _, _, e, _, _, e', _⟩
    · injection e with _ _ e; omega
    · injection e with _ _ e; omega
  have hc2 : ao2 = none → N2 = 0 ∧ cap2 = 0 := by
    intro e
    subst e
    rcases o1.2 with ⟨e, e'⟩ | ⟨_, _, _, e, _⟩
    · injection e with _ _ e; exact ⟨e', e⟩
    · injection e with e; cases e
  have hbk : ∀ k, (Value.slice ao2 N2 cap2).ownBlock = some k → w.heap.size ≤ k ∧ k < u1.heap.size ∧ Z + 1 < k := by
    intro k hk
    have := o1.lt k hk
    have := Below.size G2.out
    have := TD.out.lt
    omega
  have hrW : r < w.heap.size := H.out.kp.lt
  have RS := RX.start H.out (G2.out.trans g1)
  have QA : Hid (RQW w r (.slice (some ⟨ob, off, none⟩) (l.length + 1) cap) dt l ((((u1.setCell ⟨r, 0, none⟩ (.slice ao2 N2 cap2)).setCell ⟨r, 1, none⟩ (.int .u64 (dt : Nat))).setCell ⟨Z, 0, none⟩ (.int .i64 di)).setCell ⟨Z, 1, none⟩ (.int .u64 (dt : Nat)))) := (by
    subst LE
    exact ((((RS.store hc1 hc2 l2 hrW (fun k hk => ⟨(hbk k hk).1, (hbk k hk).2.1⟩)).turn dt).set (Z := Z) (j := 0) HZ.out hrZ (fun k hk => by have := (hbk k hk).2.2; omega) _).set (Z := Z) (j := 1) HZ.out hrZ (fun k hk => by have := (hbk k hk).2.2; omega) _).q : RQW w r (.slice (some ⟨ob, off, none⟩) (l.length + 1) cap) dt l ((((u1.setCell ⟨r, 0, none⟩ (.slice ao2 N2 cap2)).setCell ⟨r, 1, none⟩ (.int .u64 (dt : Nat))).setCell ⟨Z, 0, none⟩ (.int .i64 di)).setCell ⟨Z, 1, none⟩ (.int .u64 (dt : Nat))))
  have QB : Hid (RQW w r (.slice (some ⟨ob, off, none⟩) (l.length + 1) cap) dt l ((((u1.setCell ⟨r, 1, none⟩ (.int .u64 (dt : Nat))).setCell ⟨r, 0, none⟩ (.slice ao2 N2 cap2)).setCell ⟨Z, 0, none⟩ (.int .i64 di)).setCell ⟨Z, 1, none⟩ (.int .u64 (dt : Nat)))) := (by
    subst LE
    have f : Frm (fun k => k = r) u1 (u1.setCell ⟨r, 1, none⟩ (.int .u64 (dt : Nat))) := frm_set u1 _ _ rfl
    exact ((((RS.turn dt).store hc1 hc2 (l2.frm f (fun a e c => by have := (hbk a.block (by rw [e]; rfl)).1; omega)) hrW (fun k hk => ⟨(hbk k hk).1, Nat.lt_of_lt_of_le (hbk k hk).2.1 f.size⟩)).set (Z := Z) (j := 0) HZ.out hrZ (fun k hk => by have := (hbk k hk).2.2; omega) _).set (Z := Z) (j := 1) HZ.out hrZ (fun k hk => by have := (hbk k hk).2.2; omega) _).q : RQW w r (.slice (some ⟨ob, off, none⟩) (l.length + 1) cap) dt l ((((u1.setCell ⟨r, 1, none⟩ (.int .u64 (dt : Nat))).setCell ⟨r, 0, none⟩ (.slice ao2 N2 cap2)).setCell ⟨Z, 0, none⟩ (.int .i64 di)).setCell ⟨Z, 1, none⟩ (.int .u64 (dt : Nat))))
  replace r1 : (Builtin.append_ #[27, 27] 27 #[.slice (some ⟨w2.heap.size, 0, none⟩) 0 0, .slice (some ad) (n - 1) (cap - 1)]).run Tryd.prog (w2.alloc (.cells #[] 42)).drew = .ok (.slice ao2 N2 cap2) u1 := r1
  have hZ10 : ¬ Z + 1 = Z := by omega
  have hZ01 : ¬ Z = Z + 1 := by omega
  clear RS hrW hbk hc1 hc2 LE hN2 l2 o1 KU ZU DU g1
  by_cases hck : cap = 1
  · rw [if_pos hck] at hac
    subst hac
    subst hck
    obtain rfl : n = 1 := by omega
    simp only [Nat.sub_self] at r1
    go_region_law (first | (refine step_append_run rfl (.tmp 32) (.tmp 37) 27 rfl _ _ (by simp [Act.eval, Act.put]) (by simp [Act.eval, Act.put]) r1 ?_))
    all_goals
      go_wp2_with fail
      refine bodyPost_ret (v := .tuple #[.agg #[.int .i64 di, .int .u64 (dt : Nat)], .bool true]) (by simp [results, Tryd.results14, go_sem, z0, z1, hrZ, hZr]) rfl ⟨rfl, ?_⟩
      first | (with_reducible exact QA.out) | (with_reducible exact QB.out)
  · rw [if_neg hck] at hac
    subst hac
    have hn5 : (1 : Int) ≤ (n : Int) := by omega
    simp only [Nat.one_mul] at r1
    go_region_law (first | (refine step_append_run rfl (.tmp 32) (.tmp 37) 27 rfl _ _ (by simp [Act.eval, Act.put]) (by simp [Act.eval, Act.put]) r1 ?_))
    all_goals
      go_wp2_with fail
      refine bodyPost_ret (v := .tuple #[.agg #[.int .i64 di, .int .u64 (dt : Nat)], .bool true]) (by simp [results, Tryd.results14, go_sem, z0, z1, hrZ, hZr]) rfl ⟨rfl, ?_⟩
      first | (with_reducible exact QA.out) | (with_reducible exact QB.out)
end Go.Proofs.YtjkhgpdhhnfmlaaDoor

/- The contract of the document's Advance at this program. -/
namespace Go.Proofs.YtjkhgpdhhnfmlaaDoor
open Go.RowKit TM MK
open RG (Du Srt)
open VM (lvl idsD)
set_option linter.unusedSimpArgs false

theorem RX.later {w y x : World} {r now : Nat} {v v' : Value} {L : List Du} (h : RX w r v v' now L y) (g : Grw y x) : RX w r v v' now L x := ⟨h.1.later g, h.2.1.grw' g, h.2.2⟩
theorem RX.step {w y x : World} {r now now2 : Nat} {v v' v2 : Value} {L L2 : List Du} (h : RX w r v v' now L y) (q : RX y r v' v2 now2 L2 x) : RX w r v v2 now2 L2 x := by
  refine ⟨q.1, h.2.1.trans q.2.1 (fun _ e => Or.inl e), fun k hk => ?_⟩
  rcases q.2.2 k hk with c | c
  · exact h.2.2 k c
  · exact Or.inr (Nat.le_trans h.2.1.size c)
theorem rpop_no (r now : Nat) (v : Value) (tt nw : Nat) (M : List Du) (w : World) (h : RW w r v now M) (hM : ∀ d l, M = d :: l → ¬ d.t ≤ tt) (hm : max now tt = nw) :
    Calls Tryd.prog 14 #[.pointer (some ⟨r, 0, none⟩), .int .u64 (tt : Nat)] w (PopH w r v ⟨0, 0⟩ false nw M) := by
  cases M with
  | nil => exact rpop_empty r now v tt nw w h hm
  | cons d l => exact rpop_miss r now v tt nw d l w h (hM d l rfl) hm
/-- what Advance has in hand: what it has told (the row u), what is left. -/
structure AL (w wr : World) (r : Nat) (v : Value) (Z tt N : Nat) (T D : List Du) (u : Value) : Prop where
  ex : ∃ A M v' b, RX w r v v' b M wr ∧ b ≤ tt ∧ wr.ownsRow 0 42 2 u A.length (cd A) ∧ (∀ q, u.ownBlock = some q → v'.ownBlock ≠ some q) ∧ A ++ M.takeWhile (dueP tt) = T ∧ M.dropWhile (dueP tt) = D ∧ A.length + M.length = N
  ub : ∀ q, u.ownBlock = some q → q ≠ r ∧ q ≠ Z ∧ w.heap.size ≤ q
  kz : Kp wr Z (.int .u64 (tt : Nat)) (.bool true)
  zr : r < Z
def AdvH (w : World) (r : Nat) (v : Value) (tt : Nat) (T D : List Du) (e : Ending) (w' : World) : Prop := ∃ u, e = .returned (.tuple #[u, .int .i64 0]) ∧ RowD w' u T ∧ RQW w r v tt D w'
set_option maxHeartbeats 4000000 in
set_option maxRecDepth 100000 in
theorem radvance_R (r now : Nat) (v : Value) (n tt : Nat) (L T D : List Du) (w : World) (h : RW w r v now L) (hb : L.length ≤ 1000) (hs : tt < 2 ^ 64) (ht : now + n = tt) (h1 : L.takeWhile (dueP tt) = T) (h2 : L.dropWhile (dueP tt) = D) :
    Calls Tryd.prog 16 #[.pointer (some ⟨r, 0, none⟩), .int .u64 (n : Nat)] w (AdvH w r v tt T D) := by
  have H := Lib.hid h
  obtain ⟨i0, hi, hz0, hz1, hz2⟩ := info_parts Tryd.info42
  have SM := Lib.hid (rsum_is now n tt true w (by omega) (by omega) (by rw [(sum_in (by omega)).1, ht]) (sum_in (by omega)).2)
  obtain ⟨N, hN⟩ : ∃ N, L.length = N := ⟨_, rfl⟩
  rw [hN] at hb
  have HT := Lib.hid (And.intro h1 (And.intro h2 (And.intro hN (by omega : now ≤ tt))))
  have k1 := h.kp.t.c1
  obtain ⟨Q, hQ⟩ : ∃ Q : Ending → World → Prop, Q = AdvH w r v tt T D := ⟨_, rfl⟩
  rw [← hQ]
  have QQ := Lib.hid hQ
  clear h h1 h2 hN hQ ht
  go_enter Tryd.func16, Tryd.ntmps16
  go_wp2_with fail
  refine SM.out.mono ?_
  rintro _ w1 ⟨rfl, hg⟩
  have A0 : Hid (AL w (w1.alloc (.cells #[.int .u64 (tt : Nat), .bool true] 39)) r v w1.heap.size tt N T D (.slice none 0 0)) :=
    ⟨⟨[], L, v, now, RX.start H.out (hg.alloc _), HT.out.2.2.2, World.ownsRow_nil _ _ _ _, (fun q hq => by cases hq), HT.out.1, HT.out.2.1, by simp [HT.out.2.2.1]⟩, (fun q hq => by cases hq), Kp.new w1 _ _ 39, Nat.lt_of_lt_of_le H.out.kp.lt (Below.size hg)⟩
  obtain ⟨Z, hZ⟩ : ∃ Z, w1.heap.size = Z := ⟨_, rfl⟩
  rw [hZ] at A0
  clear hg k1
  go_wp2_with fail
  go_loopw [7] (fun u wr => AL w wr r v Z tt N T D u) (fun u _ => N - slen u)
  case atStart => exact A0.out
  case round =>
    obtain ⟨⟨A, M, v', b, hx, hbt, hown, hdis, hT, hD, hlen⟩, hub, hkz, hzr⟩ := hrel
    have kz0 := hkz.t.c0
    have kz1 := hkz.t.c1
    rcases JM.pop_cases M tt with ⟨d, l, rfl, hd, et, ed⟩ | ⟨hM, et, ed⟩
    · have P := Lib.hid (rpop_hit r b v' tt d l wr hx.1 (by simp at hlen; omega) hd)
      obtain ⟨di, dt⟩ := d
      obtain ⟨m, hm⟩ : ∃ m, A.length = m := ⟨_, rfl⟩
      rw [hm] at hown hlen
      obtain ⟨ao, cap, hu, _⟩ := ownsRow_lies hown
      have hml : m < N := by simp at hlen; omega
      have ST : Hid (∀ w2, RQW wr r v' dt l w2 → w2.ownsRow 0 42 2 u7 m (cd A) ∧ ∀ u3 w3, w3.ownsRow 0 42 2 u3 (m + 1) (cd A ++ cd [⟨di, dt⟩]) → ((w2.alloc (.cells #[.int .i64 di, .int .u64 (dt : Nat)] 42)).alloc (.cells #[.int .i64 di, .int .u64 (dt : Nat)] 42)).grownBy w3 u7.ownBlock → (u3.ownBlock = u7.ownBlock ∨ u3.ownBlock = some (w2.heap.size + 1 + 1)) → AL w w3 r v Z tt N T D u3) := (fun w2 hq => by
          obtain ⟨v2, q⟩ := hq
          have hq2 : RX wr r v' v2 dt l w2 := q
          have o2 : w2.ownsRow 0 42 2 u7 m (cd A) := ownsRow_frm hown hq2.2.1 (fun q hq => (hub q hq).1)
          refine ⟨o2, fun u3 w3 o3 g3 b3 => ?_⟩
          have ga : Grw w2 ((w2.alloc (.cells #[.int .i64 di, .int .u64 (dt : Nat)] 42)).alloc (.cells #[.int .i64 di, .int .u64 (dt : Nat)] 42)) := ((Grw.rfl' w2).alloc _).alloc _
          have f3 := grownBy_frm g3
          have R2 := (hx.step hq2).later ga
          have n2 : ∀ q, u7.ownBlock = some q → v2.ownBlock ≠ some q := fun q hq c => by
            rcases hq2.2.2 q c with e | e
            · exact hdis q hq e
            · have := (hown.lt q hq).2
              omega
          have R3 : RX w r v v2 dt l w3 := ⟨R2.1.frm f3 (fun e => (hub r e).1 rfl) (fun k hk e => n2 k e hk), R2.2.1.trans f3 (fun k e => Or.inr (by
            exact (hub k e).2.2)), R2.2.2⟩
          have s2 := hq2.2.1.size
          have rl := hx.1.kp.lt
          have zl := hkz.lt
          have wl := hx.2.1.size
          have gs := Below.size ga
          refine ⟨⟨A ++ [⟨di, dt⟩], l, v2, dt, R3, hd, ?_, fun q hq c => ?_, ?_, ?_, ?_⟩, fun q hq => ?_, ?_, hzr⟩
          · rw [cd_app, List.length_append, hm]
            exact o3
          · rcases b3 with e | e
            · exact n2 q (e ▸ hq) c
            · rw [e] at hq
              injection hq with hq
              have := (hq2.1.blk q c).2
              omega
          · rw [← hT, et, List.append_assoc]
            rfl
          · rw [← hD, ed]
          · rw [← hlen, List.length_append, hm]
            simp
            omega
          · rcases b3 with e | e
            · exact hub q (e ▸ hq)
            · rw [e] at hq
              injection hq with hq
              omega
          · exact ((hkz.frm hq2.2.1 (by omega)).later ga).frm f3 (fun e => (hub Z e).2.1 rfl) : ∀ w2, RQW wr r v' dt l w2 → w2.ownsRow 0 42 2 u7 m (cd A) ∧ ∀ u3 w3, w3.ownsRow 0 42 2 u3 (m + 1) (cd A ++ cd [⟨di, dt⟩]) → ((w2.alloc (.cells #[.int .i64 di, .int .u64 (dt : Nat)] 42)).alloc (.cells #[.int .i64 di, .int .u64 (dt : Nat)] 42)).grownBy w3 u7.ownBlock → (u3.ownBlock = u7.ownBlock ∨ u3.ownBlock = some (w2.heap.size + 1 + 1)) → AL w w3 r v Z tt N T D u3)
      subst hu
      have D2 := Lib.hid (cd_one [⟨di, dt⟩])
      clear hx hbt hown hdis hT hD hlen hub hkz hzr hm et ed hd
      go_wp2_with fail
      refine P.out.mono ?_
      rintro _ w2 ⟨rfl, hq⟩
      obtain ⟨ho2, hst⟩ := ST.out w2 hq
      have OW := Lib.hid (World.ownsRow.alloc ho2 (.cells #[.int .i64 di, .int .u64 (dt : Nat)] 42))
      have STT := Lib.hid hst
      have D1 := one_due (w2.alloc (.cells #[.int .i64 di, .int .u64 (dt : Nat)] 42)) ⟨di, dt⟩
      rw [size_new] at D1
      have D1 := Lib.hid D1
      clear hq ho2 hst
      go_wp2_with (at_builtin; refine wpList_append_mine _ rfl _ _ 27 rfl 42 i0 _ 2 16 Tryd.underlying27 hi hz0 hz1 hz2 rfl (by decide) _ _ _ rfl (World.ownsRow.alloc OW.out _) ⟨w2.heap.size + 1, 0, none⟩ 1 1 (cd [⟨di, dt⟩]) rfl rfl D1.out D2.out (by unfold maxLen; omega) (by omega) ?_)
      intro v3 w3 hown' hgrow hblk
      have AN := Lib.hid (STT.out v3 w3 hown' hgrow hblk)
      obtain ⟨ao', cap', rfl, _⟩ := ownsRow_lies hown'
      clear hown' hgrow hblk
      go_wp2_with fail
      go_roundw
      case rel => exact AN.out
      case measure => simp [slen]; omega
    · have P := Lib.hid (rpop_no r b v' tt tt M wr hx.1 hM (by omega))
      have EN : Hid (∀ w2, RQW wr r v' tt M w2 → Q (.returned (.tuple #[u7, .int .i64 0])) (w2.alloc (.cells #[.int .i64 0, .int .u64 0] 42))) := (fun w2 hq => by
          obtain ⟨v2, q⟩ := hq
          have hq2 : RX wr r v' v2 tt M w2 := q
          rw [QQ.out, ← hT, ← hD, et, ed, List.append_nil]
          exact ⟨u7, rfl, ownsRow_lies (World.ownsRow.alloc (ownsRow_frm hown hq2.2.1 (fun q hq => (hub q hq).1)) _), ((hx.step hq2).later ((Grw.rfl' w2).alloc _)).q⟩ : ∀ w2, RQW wr r v' tt M w2 → Q (.returned (.tuple #[u7, .int .i64 0])) (w2.alloc (.cells #[.int .i64 0, .int .u64 0] 42)))
      clear hx hbt hown hdis hT hD hlen hub hkz hzr et ed hM
      go_wp2_with fail
      refine P.out.mono ?_
      rintro _ w2 ⟨rfl, hq⟩
      have HQ := Lib.hid (EN.out w2 hq)
      clear hq
      go_wp2_with fail
      exact HQ.out
theorem radvance_no (r now : Nat) (v : Value) (n : Nat) (L : List Du) (w : World) (h : RW w r v now L) (hw : now < 2 ^ 64) (hn : n < 2 ^ 64) (hs : ¬ now + n < 2 ^ 64) :
    Calls Tryd.prog 16 #[.pointer (some ⟨r, 0, none⟩), .int .u64 (n : Nat)] w fun e w' => e = .returned (.tuple #[.slice none 0 0, .int .i64 14]) ∧ RQW w r v now L w' := by
  have H := Lib.hid h
  have SM := Lib.hid (rsum_is now n 0 false w (by omega) (by omega) (sum_out hs).1 (sum_out hs).2)
  have k1 := h.kp.t.c1
  clear h hw hn hs
  go_enter Tryd.func16, Tryd.ntmps16
  go_wp2_with fail
  refine SM.out.mono ?_
  rintro _ w1 ⟨rfl, hg⟩
  have HQ := Lib.hid (RQW.same H.out (hg.alloc (.cells #[.int .u64 0, .bool false] 39)))
  clear hg k1
  go_wp2_with fail
  go_ret2
  exact ⟨rfl, HQ.out⟩
end Go.Proofs.YtjkhgpdhhnfmlaaDoor
