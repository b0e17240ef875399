/- The contract of lease.Over at this program. -/
import Derived.Test.YtoejmopppkjaoaaTc
import Derived.Test.YtoejmopppkjaoaaOi
import Derived.OwnWalk
import Derived.Maps.RangeWalk
namespace Go.Proofs.Ytoejmopppkjaoaa
open Go.RowKit Go.Shelf Go.Sort
open Go.Maps (Keyed IsMap Tidy)
set_option linter.unusedSimpArgs false

theorem Try.info39 : (Try.prog.info? 39).map (fun i => (i.zero, i.size, i.bytes)) = some (some (.agg #[.int .i64 0, .int .i64 0, .int .u64 0]), 3, 24) := by kernel_rfl
theorem invK (key : Value) (kl : Lit) (h : keyOf Try.prog 3 key = some kl) : ∃ x : Int, key = .int .i64 x := by
  obtain ⟨x, e, _, _⟩ := Maps.keyOf_int_inv Try.underlying3 h
  exact ⟨x, e⟩
theorem invV (v : Value) (y : DataW Unit × List MemPlace) (h : grE v = some y) : ∃ c : Gr, v = gv c := by
  obtain ⟨g, e, _⟩ := grE_inv h
  exact ⟨g, e⟩
theorem keyL {x : Int} {kl : Lit} (h : keyOf Try.prog 3 (.int .i64 x) = some kl) : kl = ky x := by
  obtain ⟨y, e, h2, _⟩ := Maps.keyOf_int_inv Try.underlying3 h
  injection e with _ e
  rw [h2, ← e]; rfl
theorem Grw.of_grown {w x : World} (h : w.grownBy x none) : Grw w x := (Frm.grw (F := fun _ => False) (Grw.rfl' w) ((grownBy_frm h).mono (fun _ e => by cases e)) (fun _ e => e.elim))
theorem Grw.step {a w x : World} {r : Nat} (g : Grw a w) (h : w.grownBy x (some r)) (hr : a.heap.size ≤ r) : Grw a x :=
  Frm.grw g (grownBy_frm h) (fun k e => by injection e with e; omega)
theorem own_ne {w : World} {P : Program} {b r n m cnt B : Nat} {D : DataW Unit} {left : Lit → Bool} {v : Value} {xs : List Value} (h : w.ranges P 3 grE b r n D left cnt) (o : w.ownsRow B 39 3 v m xs) : some r ≠ v.ownBlock := by
  intro e
  obtain ⟨es, clock, since, seen, c0, _, _, _, _, hr, _⟩ := h
  rcases o.2 with ⟨h1, _⟩ | ⟨g, cap, cur, h1, _, h3, _⟩
  · rw [h1] at e; cases e
  · rw [h1] at e
    injection e with e
    subst e
    rw [hr] at h3
    cases h3
theorem own_nm {w : World} {P : Program} {b r n m cnt B : Nat} {D : DataW Unit} {left : Lit → Bool} {v : Value} {xs : List Value} (h : w.ranges P 3 grE b r n D left cnt) (o : w.ownsRow B 39 3 v m xs) : some b ≠ v.ownBlock := by
  intro e
  obtain ⟨es, clock, since, seen, c0, hb, _⟩ := h
  rcases o.2 with ⟨h1, _⟩ | ⟨g, cap, cur, h1, _, h3, _⟩
  · rw [h1] at e; cases e
  · rw [h1] at e
    injection e with e
    subst e
    rw [hb] at h3
    cases h3
theorem Grw.row {a w x : World} {v : Value} {n : Nat} {xs : List Value} (g : Grw a w) (h : w.grownBy x v.ownBlock) (o : w.ownsRow a.heap.size 39 3 v n xs) : Grw a x :=
  Frm.grw g (grownBy_frm h) (fun k e => by
    rcases o.2 with ⟨h1, _⟩ | ⟨b, cap, cur, h1, hb, _⟩
    · rw [h1] at e; cases e
    · rw [h1] at e; have e : some b = some k := e; injection e with e; omega)
/-- a row that was handed back: where it lies, in a block made since w. -/
def Told (w x : World) (v : Value) (l : List Gr) : Prop := ∃ ao cap, v = .slice ao l.length cap ∧ Lies x ao (cg l) ∧ ∀ a, ao = some a → w.heap.size ≤ a.block
theorem nodup_not {l : List Gr} (h : l.Nodup) {k : Nat} (hk : k < l.length) : l[k] ∉ l.take k := by
  intro hm
  obtain ⟨i, hi, e⟩ := List.mem_iff_getElem.1 hm
  rw [List.length_take] at hi
  rw [List.getElem_take] at e
  have := (List.getElem_inj h).1 e
  omega
set_option maxHeartbeats 2000000 in
set_option maxRecDepth 100000 in
theorem over_is {w : World} {p mb jb last : Nat} {L : List Gr} (h : TB w p mb jb last L) (t : Nat) :
    Calls Try.prog 15 #[.pointer (some ⟨p, 0, none⟩), .int .u64 (t : Nat)] w fun e w' => ∃ v, e = .returned v ∧ Told w w' v (ov t L) ∧ TB w' p mb jb last (lf t L) ∧ Frm (tf p mb jb) w w' := by
  obtain ⟨D, o1, q1⟩ := h.m1
  have c1 := h.c1
  have H := Lib.hid h
  have Q := Lib.hid q1
  have OW := Lib.hid o1
  obtain ⟨i0, hi, hz0, hz1, hz2⟩ := info_parts Try.info39
  have len0 : Maps.size D ≤ last := by rw [q1.size]; exact h.ok.len
  have top := h.ok.top
  clear h o1 q1
  go_enter Try.func15, Try.ntmps15
  go_wp2_with (at_range; refine wpList_range_own _ rfl _ 59 rfl 3 39 law3 Try.underlying59 _ mb _ D rfl OW.out ?_; intro w0 hrg0 hg0 hs0)
  go_frame
  go_loopw [5] (fun v wr => ∃ (left : Lit → Bool) (cnt : Nat) (os : List Gr), wr.ranges Try.prog 3 grE mb w.heap.size last D left cnt ∧ wr.ownsRow w.heap.size 39 3 v os.length (cg os) ∧ OvI (fun g => g.u ≤ t) D L left os ∧ os.length + cnt ≤ last ∧ Grw w wr)
    (fun _ wr => wr.rangeLeft mb w.heap.size)
  case atStart => exact ⟨_, _, [], hrg0, World.ownsRow_nil _ _ _ _, OvI.start Q.out, by simpa using len0, Grw.of_grown hg0⟩
  case round =>
    obtain ⟨left, cnt, os, hrg, hrow, hov, hlen, hgw⟩ := hrel
    have RG := Lib.hid hrg
    have RO := Lib.hid hrow
    have OV := Lib.hid hov
    have GW' := Lib.hid hgw
    clear hrg hrow hov hgw
    go_wp2_with (at_next; refine wpList_next_ranges _ rfl _ rfl 3 law3 grE (fun x : Int => Value.int .i64 x) gv invK invV mb w.heap.size last D left cnt rfl RG.out ?_ ?_)
    · intro _ hl0
      have AL := Lib.hid (OV.out.all hl0)
      have ND := Lib.hid OV.out.nd
      have lt := H.out.lt
      clear hl0 RG OV
      rcases RO.out.2 with ⟨rfl, h0⟩ | ⟨g, cap, cur, rfl, hgb, _, _⟩
      · have hos : os = [] := List.eq_nil_of_length_eq_zero h0
        subst hos
        have S := Lib.hid (fun w => sort_nil 26 w)
        have e0 : ov t L = [] := (ov_is H.out.ok List.nodup_nil (fun g => AL.out g) (List.Perm.refl _) List.Pairwise.nil).symm
        have e1 : lf t L = L := by rw [← off_ov t L [] (fun g => AL.out g), off_nil]
        have E := Lib.hid (And.intro e0 e1)
        clear e0 e1 lt h0 RO
        go_wp2_with fail
        refine wp_loop_rounds 1 ?_
        rw [rounds_succ]
        go_wp2_with fail
        refine (S.out _).mono ?_
        rintro _ w9 ⟨rfl, rfl⟩
        go_wp2_with fail
        go_ret
        exact ⟨_, rfl, ⟨none, 0, by rw [E.out.1]; rfl, by rw [E.out.1]; exact Or.inl rfl, fun a e => by cases e⟩, by rw [E.out.2]; exact H.out.later GW'.out, GW'.out.frm _⟩
      · have row := RO.out
        obtain ⟨n, hn⟩ : ∃ n, os.length = n := ⟨_, rfl⟩
        rw [hn] at row hlen ⊢
        have R := Lib.hid row
        have HN := Lib.hid hn
        have ng : ¬ tf p mb jb g := fun e => by have := lt g e; omega
        have NG := Lib.hid ng
        have GB := Lib.hid hgb
        clear row RO lt ng hgb hn
        go_wp2_with fail
        go_loopw [31] (fun u wr2 => ∃ k : Nat, k ≤ n ∧ u = .int .i64 k ∧ TB wr2 p mb jb last (off (os.take k) L) ∧ wr2.ownsRow w.heap.size 39 3 (.slice (some ⟨g, 0, none⟩) n cap) n (cg os) ∧ Frm (tf p mb jb) w wr2) (fun u _ => n - (intOf u).toNat)
        case atStart => exact ⟨0, Nat.zero_le _, rfl, by rw [List.take_zero, off_nil]; exact H.out.later GW'.out, R.out, GW'.out.frm _⟩
        case round =>
          obtain ⟨k, hk, rfl, htb, hrow, hfr⟩ := hrel
          have T := Lib.hid htb
          have R2 := Lib.hid hrow
          have F2 := Lib.hid hfr
          clear htb hrow hfr
          by_cases hk' : k < n
          · have hkl : k < os.length := by rw [HN.out]; exact hk'
            have hc := World.ownsRow.cells R2.out (g := g) rfl
            have e0 := hc _ _ (cg_id os k hkl)
            have e1 := hc _ _ (cg_cl os k hkl)
            have e2 := hc _ _ (cg_ca os k hkl)
            rw [Addr.add_lit, Nat.zero_add] at e0 e1 e2
            have hx1 : os[k] ∈ off (os.take k) L := mem_off.2 ⟨((AL.out _).1 (List.getElem_mem hkl)).1, nodup_not ND.out hkl⟩
            have hx2 : os.take (k + 1) = os.take k ++ [os[k]] := (List.take_append_getElem hkl).symm
            obtain ⟨x, hx⟩ : ∃ x, os[k] = x := ⟨_, rfl⟩
            rw [hx] at e0 e1 e2 hx1 hx2
            obtain ⟨xn, xj, xu⟩ := x
            simp only at e0 e1 e2
            have g2 : Grw wr (wr.alloc (.cells #[.int .i64 xn, .int .i64 xj, .int .u64 (xu : Nat)] 39)) := (Grw.rfl' wr).alloc _
            have RM := Lib.hid (remove_is (T.out.later g2) ⟨xn, xj, xu⟩ hx1)
            unfold gv at RM
            have X2 := Lib.hid hx2
            have q1 : IntKind.i64.wrap ((k : Int) + 1) = ((k + 1 : Nat) : Int) := by simp [IntKind.wrap_i64]; omega
            have hki : (k : Int) < (n : Int) := by omega
            clear hc hx hx1 hx2 hkl
            go_wp2_with fail
            refine RM.out.mono ?_
            rintro _ w5 ⟨rfl, t5, f5⟩
            have T5 := Lib.hid t5
            have F5 := Lib.hid ((g2.frm (tf p mb jb)).trans f5 (fun _ e => Or.inl e))
            clear e0 e1 e2 t5 f5 g2
            go_wp2_with fail
            go_roundw
            case rel => exact ⟨k + 1, hk', by rfl, by rw [X2.out, off_snoc]; exact T5.out, ownsRow_frm R2.out F5.out (fun q e => by have e : some g = some q := e; injection e with e; subst e; exact NG.out), F2.out.trans F5.out (fun _ e => Or.inl e)⟩
            case measure => simp only [intOf]; omega
          · have d1 : decide (k < n) = false := by simp [hk']
            obtain rfl : k = n := by omega
            have T6 : Hid (TB wr p mb jb last (lf t L)) := (by have := T.out; rw [List.take_of_length_le (by rw [HN.out]; exact Nat.le_refl _), off_ov t L os (fun g => AL.out g)] at this; exact this : TB wr p mb jb last (lf t L))
            have S := Lib.hid (sort_row 26 ordU swoU layU (enters_of Try.func26 (by kernel_rfl) rfl) w.heap.size g cap os k wr R2.out HN.out (by rw [HN.out]; omega))
            go_wp2_with fail
            refine S.out.mono ?_
            rintro _ w6 ⟨rfl, ks, hp, hs, hl, hf⟩
            have ks_eq : ks = ov t L := ov_is H.out.ok ND.out (fun g => AL.out g) hp (hs.imp (fun {a b} h => by rw [ltU] at h; simpa using h))
            have KL := Lib.hid (And.intro ks_eq (And.intro hl hf))
            have LN : Hid (ks.length = k) := (hp.length_eq.trans HN.out : ks.length = k)
            clear hp hs hl hf ks_eq
            go_wp2_with fail
            go_ret
            refine ⟨_, rfl, ⟨some ⟨g, 0, none⟩, cap, by rw [← KL.out.1, LN.out]; rfl, by rw [← KL.out.1]; exact KL.out.2.1, fun a e => by injection e with e; subst e; exact GB.out⟩, ?_, ?_⟩
            · exact T6.out.keep KL.out.2.2 (fun q hq e => NG.out (e ▸ hq))
            · exact F2.out.trans KL.out.2.2 (fun q e => Or.inr (by rw [e]; exact GB.out))
    · intro x c kl y1 y2 w1 cnt1 hkey hlk hv hat hrg1 hlt hg1 hs1 hen
      obtain rfl := keyL hkey
      obtain ⟨hc, rfl⟩ := OV.out.comes (y := (y1, y2)) Q.out hlk hv hat
      have gr1 : Grw w w1 := GW'.out.step hg1 (Nat.le_refl _)
      have row1 := RO.out.kept hg1 (Or.inr (own_ne RG.out RO.out).symm)
      have HC := Lib.hid hc
      have KL := Lib.hid hlk
      obtain ⟨cn, cj, cu⟩ := c
      obtain ⟨w2, hw2⟩ : ∃ w2, w1.alloc (.cells #[.int .i64 cn, .int .i64 cj, .int .u64 (cu : Nat)] 39) = w2 := ⟨_, rfl⟩
      have b0 : w2.cell? ⟨w1.heap.size, 0, none⟩ = some (.int .i64 cn) := by rw [← hw2]; simp [go_sem]
      have b1 : w2.cell? ⟨w1.heap.size, 1, none⟩ = some (.int .i64 cj) := by rw [← hw2]; simp [go_sem]
      have b2 : w2.cell? ⟨w1.heap.size, 2, none⟩ = some (.int .u64 (cu : Nat)) := by rw [← hw2]; simp [go_sem]
      have g12 : Grw w1 w2 := by rw [← hw2]; exact (Grw.rfl' w1).alloc _
      have RG2 := Lib.hid (hrg1.kept (w' := w2) (row := none) (by rw [← hw2]; exact World.grownBy_alloc _ _ _) (by simp) (by simp))
      have hrow2 := row1.alloc (.cells #[.int .i64 cn, .int .i64 cj, .int .u64 (cu : Nat)] 39)
      rw [hw2] at hrow2
      have G2 := Lib.hid (gr1.trans g12)
      have LT : Hid (cnt1 < cnt) := (hlt : cnt1 < cnt)
      clear hkey hlk hv hat hrg1 hg1 hs1 row1 g12 hc hlt gr1
      unfold gv at hen
      have TK : Hid (cu ≤ t → OvI (fun g => g.u ≤ t) D L (fun z => left z && !z.sameKey (ky cn)) (os ++ [(⟨cn, cj, cu⟩ : Gr)])) := (fun hu => OV.out.take H.out.ok HC.out KL.out hu : cu ≤ t → OvI (fun g => g.u ≤ t) D L (fun z => left z && !z.sameKey (ky cn)) (os ++ [(⟨cn, cj, cu⟩ : Gr)]))
      have SK : Hid (¬ cu ≤ t → OvI (fun g => g.u ≤ t) D L (fun z => left z && !z.sameKey (ky cn)) os) := (fun hu => OV.out.skip H.out.ok HC.out KL.out hu : ¬ cu ≤ t → OvI (fun g => g.u ≤ t) D L (fun z => left z && !z.sameKey (ky cn)) os)
      by_cases hu : cu ≤ t
      · have d1 : decide (cu ≤ t) = true := by simp [hu]
        have O3 := Lib.hid (hrow2.alloc (.cells #[.int .i64 cn, .int .i64 cj, .int .u64 (cu : Nat)] 39))
        have D1 : Hid (∀ j v, (cg [⟨cn, cj, cu⟩])[j]? = some v → (w2.alloc (.cells #[.int .i64 cn, .int .i64 cj, .int .u64 (cu : Nat)] 39)).cell? ((⟨w2.heap.size, 0, none⟩ : Addr).add j) = some v) := by
          refine (?_ : ∀ j v, (cg [⟨cn, cj, cu⟩])[j]? = some v → (w2.alloc (.cells #[.int .i64 cn, .int .i64 cj, .int .u64 (cu : Nat)] 39)).cell? ((⟨w2.heap.size, 0, none⟩ : Addr).add j) = some v)
          intro j v hj
          rw [cg_cells] at hj
          rcases j with _ | _ | _ | j
          · simp at hj; rw [← hj]; simp [go_sem]
          · simp at hj; rw [← hj]; simp [go_sem]
          · simp at hj; rw [← hj]; simp [go_sem]
          · simp at hj
        have D2 := Lib.hid (cg_one [⟨cn, cj, cu⟩])
        have RG3 := Lib.hid (RG2.out.alloc (.cells #[.int .i64 cn, .int .i64 cj, .int .u64 (cu : Nat)] 39))
        have NE := Lib.hid (And.intro (own_ne RG3.out O3.out) (own_nm RG3.out O3.out))
        clear hrow2
        go_wp2_with (at_builtin; refine wpList_append_own _ rfl _ _ 26 rfl w.heap.size 39 i0 _ 3 24 Try.underlying26 hi hz0 hz1 hz2 rfl (by decide) _ _ _ rfl O3.out ⟨w2.heap.size, 0, none⟩ 1 1 (cg [⟨cn, cj, cu⟩]) rfl rfl D1.out D2.out (by unfold maxLen; omega) (by omega) (by have := Below.size G2.out; simp only [size_new]; omega) ?_)
        intro v4 w4 hrow4 hg4 _
        go_wp2_with fail
        go_roundw
        case rel => exact ⟨_, cnt1, os ++ [⟨cn, cj, cu⟩], RG3.out.kept hg4 NE.out.2 NE.out.1, by rw [cg_app]; simpa using hrow4, TK.out hu, by have := LT.out; simp; omega, Grw.row (G2.out.alloc _) hg4 O3.out⟩
        case measure => have := LT.out; rw [(RG3.out.kept hg4 NE.out.2 NE.out.1).left_eq, RG.out.left_eq]; exact this
      · have d1 : decide (cu ≤ t) = false := by simp [hu]
        go_wp2_with fail
        go_roundw
        case rel => exact ⟨_, cnt1, os, RG2.out, hrow2, SK.out hu, by have := LT.out; omega, G2.out⟩
        case measure => have := LT.out; rw [RG2.out.left_eq, RG.out.left_eq]; exact this
end Go.Proofs.Ytoejmopppkjaoaa
