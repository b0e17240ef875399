/- The contracts of plan.distinct, plan.Good and plan.cut at this program. -/
import Derived.Test.YtjkhgpdhhnfmlaaDoorPa
import Derived.Test.YtjkhgpdhhnfmlaaDoorXs
import Derived.Test.YtjkhgpdhhnfmlaaDoorRb
import Derived.Deep.Upon
namespace Go.Proofs.YtjkhgpdhhnfmlaaDoor
namespace PL
open Go.RowKit
open Go.Maps (Keyed IsMap Tidy)
open RG (Du)
open PM
set_option linter.unusedSimpArgs false

theorem wpList_lookup_own_bool {H : Type} {P : Program} (w : World) {ops : Array Oper} {rest : List Oper} {o : Oper} {a : Act} {Q : Exit → Act → World → Prop}
    (hg : o.guard = none) (m x : Operand) (t : TypeId) (hop : o.op = Op.lookup t m x false)
    (k e : TypeId) (K : Keyed P k) (ht : P.underlying t = some (.map k e)) (he : P.underlying e = some .bool) (hz : (zeroValue e).run P w = .ok (.bool false) w) (b n : Nat) (D : DataW H)
    (hm : a.eval m = .map (some b)) (hown : w.ownsMap P k (plainElem P e) b n D) (key : Value) (kl : Lit) (hx : a.eval x = key) (hkey : keyOf P k key = some kl)
    (c : Bool) (hat : D.atKey kl (.lit (.bool false)) = .lit (.bool c)) (hK : wpList P ops Q rest (a.put o.dst (.bool c)) w) :
    wpList P ops Q (o :: rest) a w := by
  refine wpList_plain hg fun K' hK' => ?_
  obtain ⟨v, ps, hrun, hv⟩ := hown.lookup K ht hz (plainElem_bool he false) hkey
  rw [hat] at hv
  obtain rfl : v = .bool c := by
    unfold plainElem at hv
    rw [he] at hv
    cases v <;> simp at hv
    rw [hv.1]
  unfold Oper.wp
  simp [execOp, hop, hm, hx, hrun, Result.andThen]
  exact hK' _ _ hK

/-- the map holds true at the numbers of l, and nowhere else. -/
structure SetOf (D : DataW Unit) (s : List Int) : Prop where
  tidy : Tidy D
  look : ∀ i, D.atKey (ky i) (.lit (.bool false)) = .lit (.bool (decide (i ∈ s)))
theorem SetOf.nil : SetOf (.map []) [] := ⟨Maps.tidy_empty, fun _ => rfl⟩
theorem SetOf.put {D : DataW Unit} {s : List Int} (h : SetOf D s) (i : Int) : SetOf (D.put (ky i) (.lit (.bool true))) (s ++ [i]) := by
  refine ⟨h.tidy.put (ky_lit _) _, fun j => ?_⟩
  by_cases e : j = i
  · subst e
    rw [Maps.atKey_put_same h.tidy.isMap (ky_lit _)]
    simp
  · rw [Maps.atKey_put_other (ky_ne e), h.look j]
    simp [e]
/-- numbers that an int holds. -/
def Wis (l : List Du) : Prop := ∀ d ∈ l, Wi d.id
theorem Tryd.mkmap (n : Int) (w : World) : (Instr.makeMap 123 (some (.int .i64 n))).run Tryd.prog w = .ok (.map (some w.heap.size)) (w.alloc (.map #[] 0)) := by
  simp [Instr.makeMap, asInt, asIntOf, run_underlying Tryd.underlying123]
theorem Tryd.zero4 (w : World) : (zeroValue 4).run Tryd.prog w = .ok (.bool false) w := by kernel_rfl
set_option maxHeartbeats 2000000 in
set_option maxRecDepth 100000 in
theorem distinct_any (ao : Option Addr) (cap : Nat) (l : List Du) (w : World) (hl : Lies w ao (cd l)) (hb : l.length ≤ 1000000) (hw : Wis l) :
    Calls Tryd.prog 67 #[.slice ao l.length cap] w fun e w' => e = .returned (.bool (onceB l)) ∧ Grw w w' := by
  have LI := Lib.hid hl
  have WI := Lib.hid hw
  have M0 := Lib.hid (World.ownsMap_made (H := Unit) w Tryd.prog 3 (plainElem Tryd.prog 4))
  obtain ⟨n, hn⟩ : ∃ n, l.length = n := ⟨_, rfl⟩
  obtain ⟨r, hr⟩ : ∃ r, onceB l = r := ⟨_, rfl⟩
  rw [hn] at hb ⊢
  rw [hr]
  have HN := Lib.hid (And.intro hn hr)
  have hmk := Tryd.mkmap
  obtain ⟨mb, hmb⟩ : ∃ mb, w.heap.size = mb := ⟨_, rfl⟩
  rw [hmb] at M0
  have MB := Lib.hid hmb
  clear hl hn hr hw
  go_enter Tryd.func67, Tryd.ntmps67
  go_wp2_with fail
  clear hmb hmk
  go_loopw [11] (fun u wr => ∃ (k : Nat) (D : DataW Unit), k ≤ n ∧ u = .int .i64 k ∧ wr.ownsMap Tryd.prog 3 (plainElem Tryd.prog 4) mb k D ∧ SetOf D (ids (l.take k)) ∧ (ids (l.take k)).Nodup ∧ Grw w wr) (fun u _ => n - (intOf u).toNat)
  case atStart => exact ⟨0, _, Nat.zero_le _, rfl, M0.out, SetOf.nil, List.nodup_nil, (Grw.rfl' w).alloc _⟩
  case round =>
    obtain ⟨k, D, hk, rfl, hmap, hset, hnd, hg⟩ := hrel
    by_cases hk' : k < n
    · have hki : (k : Int) < (n : Int) := by omega
      have hkl : k < l.length := by rw [HN.out.1]; exact hk'
      obtain ⟨b, off, rfl, c0, c1⟩ := lies_at (LI.out.later hg) hkl
      have e1 := ids_take_succ hkl
      have nstep := nodup_step hkl hnd
      have nno := fun h => nodup_not hkl h
      have hwi := WI.out l[k] (List.getElem_mem hkl)
      obtain ⟨x, hx⟩ : ∃ x, l[k] = x := ⟨_, rfl⟩
      rw [hx] at c0 c1 e1 nstep nno hwi
      obtain ⟨xi, xt⟩ := x
      simp only at c0 c1 e1 nstep nno hwi
      have MP := Lib.hid (hmap.alloc (.cells #[.int .i64 xi, .int .u64 (xt : Nat)] 42))
      have K := Lib.hid (Maps.keyOf_int_mk Tryd.underlying3 (wi_wf hwi))
      have G := Lib.hid hg
      have ME := Lib.hid (plainElem_bool (H := Unit) Tryd.underlying4 true)
      by_cases hin : xi ∈ ids (l.take k)
      · have A : Hid (D.atKey (.int .i64 xi) (.lit (.bool false)) = .lit (.bool true)) := (by have := hset.look xi; rw [decide_eq_true hin] at this; exact this : D.atKey (.int .i64 xi) (.lit (.bool false)) = .lit (.bool true))
        have NN := Lib.hid (nno hin)
        clear hx hmap hset hnd hg e1 nstep nno hwi hin
        go_wp2_with (at_lookup; refine wpList_lookup_own_bool _ rfl _ _ 123 rfl 3 4 law3 Tryd.underlying123 Tryd.underlying4 (Tryd.zero4 _) mb _ D rfl MP.out _ _ rfl K.out true A.out ?_)
        go_ret
        exact ⟨by rw [← HN.out.2, onceB_f NN.out]; rfl, G.out.alloc _⟩
      · have A : Hid (D.atKey (.int .i64 xi) (.lit (.bool false)) = .lit (.bool false)) := (by have := hset.look xi; rw [decide_eq_false hin] at this; exact this : D.atKey (.int .i64 xi) (.lit (.bool false)) = .lit (.bool false))
        have NN := Lib.hid (nstep hin)
        have ST := Lib.hid (hset.put xi)
        rw [← e1] at ST
        clear hx hmap hset hnd hg e1 nstep nno hwi hin
        go_wp2_with (first | (at_lookup; refine wpList_lookup_own_bool _ rfl _ _ 123 rfl 3 4 law3 Tryd.underlying123 Tryd.underlying4 (Tryd.zero4 _) mb _ D rfl MP.out _ _ rfl K.out false A.out ?_) | (at_mapUpdate; refine wpList_mapUpdate_own _ rfl _ _ _ 123 rfl 3 4 law3 Tryd.underlying123 _ mb k D rfl MP.out (by unfold maxLen; omega) _ _ _ rfl rfl K.out _ [] ME.out ?_; intro w1 hown1 hgrow1))
        have U := Lib.hid (And.intro hown1 ((grownBy_frm hgrow1).grw (G.out.alloc (.cells #[.int .i64 xi, .int .u64 (xt : Nat)] 42)) (fun q hq => by injection hq with hq; rw [MB.out]; omega)))
        clear hown1 hgrow1
        go_wp2_with fail
        go_roundw
        case rel => exact ⟨k + 1, _, by omega, by go_num, U.out.1, ST.out, NN.out, U.out.2⟩
        case measure => simp [intOf]; omega
    · have hki : ¬ (k : Int) < (n : Int) := by omega
      obtain rfl : n = k := by omega
      have e : l.take n = l := List.take_of_length_le (by rw [HN.out.1]; exact Nat.le_refl _)
      rw [e] at hnd
      have NN := Lib.hid (And.intro hnd hg)
      clear hmap hset hnd hg e
      go_wp2_with fail
      go_ret
      exact ⟨by rw [← HN.out.2, onceB_t NN.out.1]; rfl, NN.out.2⟩
theorem distinct_is (ao : Option Addr) (cap : Nat) (l : List Du) (n : Nat) (o : Bool) (w : World) (hl : Lies w ao (cd l)) (hb : l.length ≤ 1000000) (hw : Wis l) (hn : l.length = n) (ho : onceB l = o) :
    Calls Tryd.prog 67 #[.slice ao n cap] w fun e w' => e = .returned (.bool o) ∧ Grw w w' := by rw [← hn, ← ho]; exact distinct_any ao cap l w hl hb hw
theorem sorted_is (ao : Option Addr) (cap : Nat) (l : List Du) (n : Nat) (o : Bool) (w : World) (hl : Lies w ao (cd l)) (hb : l.length ≤ 1000000) (hn : l.length = n) (ho : srtB l = o) :
    Calls Tryd.prog 66 #[.slice ao n cap, .func (.func 48) #[] #[]] w fun e w' => e = .returned (.bool o) ∧ Grw w w' := by rw [← hn, ← ho]; exact sorted_any ao cap l w hl hb
set_option maxHeartbeats 2000000 in
set_option maxRecDepth 100000 in
theorem good_is (ao : Option Addr) (cap : Nat) (l : List Du) (n : Nat) (o : Bool) (w : World) (hl : Lies w ao (cd l)) (hb : l.length ≤ 1000000) (hw : Wis l) (hn : l.length = n) (ho : gdB l = o) :
    Calls Tryd.prog 45 #[.slice ao n cap] w fun e w' => e = .returned (.bool o) ∧ Grw w w' := by
  by_cases hs : RG.Srt l
  · have S := Lib.hid (sorted_is ao cap l n true w hl hb hn (srtB_t hs))
    have D := Lib.hid (fun u (g : Grw w u) => distinct_is ao cap l n o u (hl.later g) hb hw hn (by
      rw [← ho]
      by_cases hd : (ids l).Nodup
      · rw [onceB_t hd, gdB_t ⟨hs, hd⟩]
      · rw [onceB_f hd, gdB_f (fun c => hd c.2)]))
    clear hl hb hw hn ho hs
    go_enter Tryd.func45, Tryd.ntmps45
    go_wp2_with fail
    refine S.out.mono ?_
    rintro _ w1 ⟨rfl, hg⟩
    have D1 := Lib.hid (D.out w1 hg)
    have G := Lib.hid hg
    clear hg
    go_wp2_with fail
    refine D1.out.mono ?_
    rintro _ w2 ⟨rfl, hg⟩
    have G2 := Lib.hid (G.out.trans hg)
    clear hg
    go_wp2_with fail
    go_ret
    exact ⟨rfl, G2.out⟩
  · have S := Lib.hid (sorted_is ao cap l n false w hl hb hn (srtB_f hs))
    have HO := Lib.hid (ho.symm.trans (gdB_f (fun c => hs c.1)))
    clear hl hb hw hn ho hs
    go_enter Tryd.func45, Tryd.ntmps45
    go_wp2_with fail
    refine S.out.mono ?_
    rintro _ w1 ⟨rfl, hg⟩
    have G := Lib.hid hg
    clear hg
    go_wp2_with fail
    go_ret
    exact ⟨by rw [HO.out]; rfl, G.out⟩
end PL
end Go.Proofs.YtjkhgpdhhnfmlaaDoor

/- append of a row of timers to a row of one's own, nil or not; a row of timers while others are made. -/
namespace Go.Proofs.YtjkhgpdhhnfmlaaDoor
namespace PL
open Go.RowKit
open RG (Du)

theorem app_nil (w : World) (ao : Option Addr) (n cap : Nat) (c : Nat) (h : n ≤ cap) : (Builtin.append_ #[27, 27] 27 #[.slice ao n cap, .slice none 0 c]).run Tryd.prog w = .ok (.slice ao n cap) w := by
  obtain ⟨i0, hi, hz0, hz1, hz2⟩ := info_parts Tryd.info42
  refine run_append_nothing w 27 27 27 42 i0 Tryd.underlying27 hi ao n cap h _ ?_
  constructor <;> simp [go_sem, Tryd.underlying27]
theorem own_cap {w : World} {ao : Option Addr} {n cap : Nat} {xs : List Value} (h : w.ownsRow 0 42 2 (.slice ao n cap) n xs) : n ≤ cap := by
  rcases h.2 with ⟨h1, h2⟩ | ⟨g', cap', cur, h1, _, h3, h4, h5, h6, h7⟩
  · omega
  · injection h1 with _ _ h1; omega
/-- append(v, u...), u a row of timers. -/
theorem app_ex (w : World) (v : Value) (l k : List Du) (ho : w.ownsRow 0 42 2 v l.length (cd l)) (u : Value) (hr : RowD w u k) (hb : l.length + k.length ≤ 1000000) :
    ∃ v' w', (Builtin.append_ #[27, 27] 27 #[v, u]).run Tryd.prog w = .ok v' w' ∧ w'.ownsRow 0 42 2 v' (l ++ k).length (cd (l ++ k)) ∧ w.grownBy w' v.ownBlock ∧ (v'.ownBlock = v.ownBlock ∨ v'.ownBlock = some w.heap.size) := by
  obtain ⟨i0, hi, hz0, hz1, hz2⟩ := info_parts Tryd.info42
  obtain ⟨uo, uc, rfl, hl⟩ := hr
  rw [List.length_append, cd_app]
  cases uo with
  | none =>
    have hk : k = [] := by
      rcases hl with h | ⟨b, off, e, _⟩
      · have := cd_len k
        rw [h] at this
        exact List.eq_nil_of_length_eq_zero (by simp at this; omega)
      · cases e
    subst hk
    obtain ⟨vo, vc, rfl, _⟩ := ownsRow_lies ho
    exact ⟨_, w, app_nil w vo l.length vc uc (own_cap ho), by simpa [cd] using ho, World.grownBy.refl _ _, Or.inl rfl⟩
  | some ad =>
    have hnews : ∀ j x, (cd k)[j]? = some x → w.cell? (ad.add j) = some x := by
      intro j x hj
      rcases hl with h | ⟨b, off, e, _, hc⟩
      · rw [h] at hj; cases hj
      · have e' : ad = ⟨b, off, none⟩ := Option.some.inj e
        subst e'
        rw [Addr.add_lit]
        exact hc j x hj
    obtain ⟨v', w', h1, h2, h3, h4⟩ := run_append_mine (P := Tryd.prog) w 27 27 42 i0 _ 2 16 Tryd.underlying27 hi hz0 hz1 hz2 rfl (by decide) v l.length (cd l) ho ad k.length uc (cd k) (cd_len k) hnews (cd_one k) (by unfold maxLen; omega) (by omega)
    exact ⟨v', w', h1, h2, h3, h4⟩
end PL
end Go.Proofs.YtjkhgpdhhnfmlaaDoor

/- The contracts of plan.cut, plan.Insert, slices.Grow, slices.Concat and plan.Cancel at this program. -/
namespace Go.Proofs.YtjkhgpdhhnfmlaaDoor
namespace PL
open Go.RowKit
open RG (Du)
open PM
set_option linter.unusedSimpArgs false

theorem lies_front {w : World} {ao : Option Addr} {l : List Du} (h : Lies w ao (cd l)) (p : Nat) : Lies w ao (cd (l.take p)) := by
  rcases h with h | ⟨b, off, e, hb, hc⟩
  · left
    rw [cd_take, h]; simp
  · refine Or.inr ⟨b, off, e, hb, fun j u hj => hc j u ?_⟩
    rw [cd_take, List.getElem?_take] at hj
    split at hj
    · exact hj
    · cases hj
theorem lies_back {w : World} {ao : Option Addr} {l : List Du} (h : Lies w ao (cd l)) (p : Nat) : Lies w (if l.length = p then ao else ao.map (·.add (p * 2))) (cd (l.drop p)) := by
  rcases h with h | ⟨b, off, e, hb, hc⟩
  · left
    rw [cd_drop, h]; simp
  · subst e
    by_cases hp : l.length = p
    · left
      rw [List.drop_of_length_le (by omega)]; rfl
    · rw [if_neg hp]
      refine Or.inr ⟨b, off + p * 2, ?_, hb, fun j u hj => ?_⟩
      · simp [Addr.add_lit]
      · rw [cd_drop, List.getElem?_drop] at hj
        have := hc _ _ hj
        rwa [← Nat.add_assoc] at this
def CutQ (l : List Du) (p q : Nat) (w : World) (e : Ending) (w' : World) : Prop :=
  ∃ a1 a2, e = .returned (.tuple #[.slice a1 p p, .slice a2 q q]) ∧ (a1 = none → p = 0) ∧ Lies w' a1 (cd (l.take p)) ∧ (a2 = none → q = 0) ∧ Lies w' a2 (cd (l.drop p)) ∧ Grw w w'
set_option maxRecDepth 100000 in
theorem cut_is (ao : Option Addr) (cap : Nat) (l : List Du) (n p q : Nat) (w : World) (hl : Lies w ao (cd l)) (hn : l.length = n) (hq : p + q = n) (hc : n ≤ cap) (hnil : ao = none → n = 0) :
    Calls Tryd.prog 49 #[.slice ao n cap, .int .i64 (p : Nat)] w (CutQ l p q w) := by
  have L1 := Lib.hid (lies_front hl p)
  have L2 := Lib.hid (lies_back hl p)
  rw [hn] at L2
  have A1 : Hid (ao = none → p = 0) := (fun h => by have := hnil h; omega : ao = none → p = 0)
  have A2 : Hid (ao = none → q = 0) := (fun h => by have := hnil h; omega : ao = none → q = 0)
  have f1 : (p : Int) ≤ (cap : Int) := by omega
  have f2 : (n : Int) ≤ (cap : Int) := by omega
  have f3 : (p : Int) ≤ (n : Int) := by omega
  have f4 : n - p = q := by omega
  clear hl hn hq hc hnil
  go_enter Tryd.func49, Tryd.ntmps49
  go_wp2_with fail
  go_quiet (fail)
  go_wp2_with fail
  · go_ret2
    have g := (Grw.rfl' w).drewN nq
    rw [if_pos h] at L2
    exact ⟨_, _, rfl, A1.out, L1.out.later g, A2.out, L2.out.later g, g⟩
  · go_ret2
    have g := (Grw.rfl' w).drewN nq
    rw [if_neg h] at L2
    exact ⟨_, _, rfl, A1.out, L1.out.later g, fun c => A2.out (Option.map_eq_none_iff.1 c), L2.out.later g, g⟩
theorem base_down {x : World} {B : Nat} {v : Value} {n : Nat} {xs : List Value} (h : x.ownsRow B 42 2 v n xs) : x.ownsRow 0 42 2 v n xs := by
  refine ⟨h.1, ?_⟩
  rcases h.2 with hn | ⟨b, cap, cur, rfl, _, r⟩
  · exact Or.inl hn
  · exact Or.inr ⟨b, cap, cur, rfl, Nat.zero_le _, r⟩
/-- both appends of Insert: w the world when the call began, x the world ahead of the statement. -/
theorem ins_appends (w x : World) (g : Grw w x) (a1 a2 : Option Addr) (l : List Du) (d : Du) (p q : Nat) (hq : p + q = l.length) (hb : l.length ≤ 100000) (h1 : a1 = none → p = 0) (l1 : Lies x a1 (cd (l.take p))) (l2 : Lies x a2 (cd (l.drop p))) :
    ∃ v1 y1 v2 y2, (Builtin.append_ #[27, 27] 27 #[.slice a1 p p, .slice (some ⟨x.heap.size, 0, none⟩) 1 1]).run Tryd.prog (x.alloc (.cells #[.int .i64 d.id, .int .u64 (d.t : Nat)] 42)) = .ok v1 y1 ∧
      (Builtin.append_ #[27, 27] 27 #[v1, .slice a2 q q]).run Tryd.prog y1 = .ok v2 y2 ∧ NewD w y2 v2 (l.take p ++ d :: l.drop p) ∧ Grw w y2 := by
  have g1 := (Grw.rfl' x).alloc (.cells #[.int .i64 d.id, .int .u64 (d.t : Nat)] 42)
  obtain ⟨v1, y1, hr1, ho1, gy1⟩ := append_fresh (P := Tryd.prog) 27 42 _ 2 16 Tryd.underlying27 Tryd.info42 rfl (x.alloc (.cells #[.int .i64 d.id, .int .u64 (d.t : Nat)] 42)) 27 a1 p h1 (cd (l.take p)) (by rw [cd_len, List.length_take]; omega) (l1.later g1)
    ⟨x.heap.size, 0, none⟩ 1 1 (cd [d]) rfl (blk_cells (xs := cd [d]) (t := 42) (heap_alloc_new x _)) (by omega) (by omega) (by omega)
  have e1 : p + 1 = (l.take p ++ [d]).length := by rw [List.length_append, List.length_take]; simp; omega
  have o1 := base_down ho1
  rw [e1, ← cd_app] at o1
  have eq : q = (l.drop p).length := by rw [List.length_drop]; omega
  obtain ⟨v2, y2, hr2, ho2, hgr2, hor⟩ := app_ex y1 v1 (l.take p ++ [d]) (l.drop p) o1 (.slice a2 q q) ⟨a2, q, by rw [← eq], (l2.later g1).later gy1⟩ (by rw [← e1, ← eq]; omega)
  have hs := Below.size (g.trans g1)
  have b1 : ∀ k, v1.ownBlock = some k → w.heap.size ≤ k := fun k hk => Nat.le_trans hs (World.ownsRow.lt ho1 k hk).1
  refine ⟨v1, y1, v2, y2, hr1, hr2, ?_, (grownBy_frm hgr2).grw ((g.trans g1).trans gy1) b1⟩
  rw [List.append_assoc] at ho2
  refine base_up ho2 (fun k hk => ?_)
  rcases hor with e | e
  · exact b1 k (e ▸ hk)
  · rw [e] at hk
    injection hk with hk
    have := Below.size ((g.trans g1).trans gy1)
    omega
def PlanQ (o : Bool) (l : List Du) (w : World) (e : Ending) (w' : World) : Prop := ∃ v, e = .returned (.tuple #[v, .bool o]) ∧ NewD w w' v l ∧ Grw w w'
set_option maxHeartbeats 2000000 in
set_option maxRecDepth 100000 in
theorem insert_bad (ao : Option Addr) (cap : Nat) (l : List Du) (d : Du) (n : Nat) (w : World) (hl : Lies w ao (cd l)) (hb : l.length ≤ 100000) (hw : Wis l) (hn : l.length = n) (ho : ¬ Gd l) :
    Calls Tryd.prog 27 #[.slice ao n cap, dv d] w (PlanQ false [] w) := by
  obtain ⟨di, dt⟩ := d
  unfold dv
  simp only
  have GD := Lib.hid (fun u (g : Grw w u) => good_is ao cap l n false u (hl.later g) (by omega) hw hn (gdB_f ho))
  clear hl hb hw hn ho
  have G0 := Lib.hid (GD.out _ ((Grw.rfl' w).alloc (.cells #[.int .i64 di, .int .u64 dt] 42)))
  go_enter Tryd.func27, Tryd.ntmps27
  go_wp2_with fail
  refine G0.out.mono ?_
  rintro _ w1 ⟨rfl, hg⟩
  have G := Lib.hid hg.two
  clear hg
  go_wp2_with fail
  go_ret2
  exact ⟨_, rfl, NewD.nil _ _, G.out⟩
set_option maxHeartbeats 2000000 in
set_option maxRecDepth 100000 in
theorem insert_twice (ao : Option Addr) (cap : Nat) (l : List Du) (d : Du) (n : Nat) (w : World) (hl : Lies w ao (cd l)) (hb : l.length ≤ 100000) (hw : Wis l) (hn : l.length = n) (ho : Gd l) (hi : d.id ∈ ids l) :
    Calls Tryd.prog 27 #[.slice ao n cap, dv d] w (PlanQ false [] w) := by
  obtain ⟨di, dt⟩ := d
  simp only at hi
  unfold dv
  simp only
  have GD := Lib.hid (fun u (g : Grw w u) => good_is ao cap l n true u (hl.later g) (by omega) hw hn (gdB_t ho))
  obtain ⟨r, hr⟩ : ∃ r, fx l di = r := ⟨_, rfl⟩
  have FD := Lib.hid (fun u (g : Grw w u) => find_is ao cap l n di r u (hl.later g) (by omega) hn hr)
  have hr0 : 0 ≤ r := by
    have := mt fx_neg.1 (fun c => c hi)
    omega
  have hrb : decide ((0 : Int) ≤ r) = true := by simp [hr0]
  clear hl hb hw hn ho hi hr
  have G0 := Lib.hid (GD.out _ ((Grw.rfl' w).alloc (.cells #[.int .i64 di, .int .u64 dt] 42)))
  go_enter Tryd.func27, Tryd.ntmps27
  go_wp2_with fail
  refine G0.out.mono ?_
  rintro _ w1 ⟨rfl, hg⟩
  have K := Kp.grown hg
  have c0 := K.t.c0
  have F0 := Lib.hid (FD.out w1 hg.two)
  have G := Lib.hid hg.two
  clear hg K
  go_wp2_with fail
  refine F0.out.mono ?_
  rintro _ w2 ⟨rfl, hg⟩
  have G2 := Lib.hid (G.out.trans hg)
  clear hg c0
  go_wp2_with fail
  go_ret2
  exact ⟨_, rfl, NewD.nil _ _, G2.out⟩
set_option maxHeartbeats 2000000 in
set_option maxRecDepth 100000 in
theorem insert_yes (ao : Option Addr) (cap : Nat) (l : List Du) (d : Du) (n : Nat) (w : World) (hl : Lies w ao (cd l)) (hb : l.length ≤ 100000) (hw : Wis l) (hn : l.length = n) (hcap : n ≤ cap) (hnil : ao = none → n = 0) (ho : Gd l) (hi : d.id ∉ ids l) :
    Calls Tryd.prog 27 #[.slice ao n cap, dv d] w (PlanQ true (RG.put d l) w) := by
  obtain ⟨Q, hQ⟩ : ∃ Q, PlanQ true (RG.put d l) w = Q := ⟨_, rfl⟩
  rw [hQ]
  have QQ := Lib.hid hQ
  obtain ⟨di, dt⟩ := d
  simp only at hi
  unfold dv
  simp only
  have GD := Lib.hid (fun u (g : Grw w u) => good_is ao cap l n true u (hl.later g) (by omega) hw hn (gdB_t ho))
  have hr := (fx_or l di).resolve_right (fun ⟨k, hk, _, h2, _⟩ => hi (mem_ids.2 ⟨_, List.getElem_mem hk, h2⟩))
  have FD := Lib.hid (fun u (g : Grw w u) => find_is ao cap l n di (-1) u (hl.later g) (by omega) hn hr.1)
  have SE := Lib.hid (fun u (g : Grw w u) => search_any ao cap l ⟨di, dt⟩ u (hl.later g) ho.1 (by omega))
  have CT := Lib.hid (fun u (g : Grw w u) p q (h : p + q = n) => cut_is ao cap l n p q u (hl.later g) hn h hcap hnil)
  have HS := Lib.hid (And.intro ho.1 (And.intro hn hb))
  rw [hn] at SE
  unfold dv at SE
  simp only at SE
  clear hl hb hw hn ho hi hr hcap hnil hQ
  have G0 := Lib.hid (GD.out _ ((Grw.rfl' w).alloc (.cells #[.int .i64 di, .int .u64 dt] 42)))
  go_enter Tryd.func27, Tryd.ntmps27
  go_wp2_with fail
  refine G0.out.mono ?_
  rintro _ w1 ⟨rfl, hg⟩
  have K1 := Lib.hid (Kp.grown hg)
  have c0 := K1.out.t.c0
  have F0 := Lib.hid (FD.out w1 hg.two)
  have G1 := Lib.hid hg.two
  clear hg
  go_wp2_with fail
  refine F0.out.mono ?_
  rintro _ w2 ⟨rfl, hg⟩
  have K2 := Lib.hid (K1.out.later hg)
  have G2 := Lib.hid (G1.out.trans hg)
  have S0 := Lib.hid (SE.out w2 G2.out)
  clear hg c0
  have c0 := K2.out.t.c0
  have c1 := K2.out.t.c1
  go_wp2_with fail
  refine S0.out.mono ?_
  rintro _ w3 ⟨p, o, rfl, hp, hg⟩
  have K3 := Lib.hid (K2.out.later hg)
  have G3 := Lib.hid (G2.out.trans hg)
  have hpn : p ≤ n := by have := hp.1; rw [HS.out.2.1] at this; exact this
  obtain ⟨q, hq⟩ : ∃ q, p + q = n := ⟨n - p, by omega⟩
  have C0 := Lib.hid (CT.out w3 G3.out p q hq)
  have HP := Lib.hid (And.intro hp hq)
  clear hg c0 c1 hp hpn hq
  go_wp2_with fail
  refine C0.out.mono ?_
  rintro _ w4 ⟨a1, a2, rfl, h1, l1, h2, l2, hg⟩
  have K4 := K3.out.later hg
  obtain ⟨v1, y1, v2, y2, hr1, hr2, hnew, gy⟩ := ins_appends w w4 (G3.out.trans hg) a1 a2 l ⟨di, dt⟩ p q (by rw [HS.out.2.1]; exact HP.out.2) HS.out.2.2 h1 l1 l2
  rw [plc_sort HS.out.1 HP.out.1] at hnew
  have U := Lib.hid (And.intro hnew gy)
  have R1 := Lib.hid hr1
  have R2 := Lib.hid hr2
  have c0 := K4.t.c0
  have c1 := K4.t.c1
  clear hg h1 l1 h2 l2 K4 hr1 hr2 hnew gy
  go_wp2_with (at_builtin; first | refine Lib.wpList_append_run _ rfl _ _ _ _ rfl _ _ rfl rfl _ _ R1.out ?_ | refine Lib.wpList_append_run _ rfl _ _ _ _ rfl _ _ rfl rfl _ _ R2.out ?_)
  rw [← QQ.out]
  exact ⟨_, rfl, U.out.1, U.out.2⟩
end PL
end Go.Proofs.YtjkhgpdhhnfmlaaDoor

/- The contracts of slices.Grow, slices.Concat and plan.Cancel at this program. -/
namespace Go.Proofs.YtjkhgpdhhnfmlaaDoor
namespace PL
open Go.RowKit
open RG (Du)
open PM
set_option linter.unusedSimpArgs false

theorem grow_ex (m : Nat) (w : World) (h0 : 0 < m) (hm : m ≤ 1000000) :
    ∃ c w', (Builtin.append_ #[27, 3] 27 #[.slice none 0 0, .int .i64 (m : Nat)]).run Tryd.prog w = .ok (.slice (some ⟨w.heap.size, 0, none⟩) m c) w' ∧ NewD w w' (.slice (some ⟨w.heap.size, 0, none⟩) 0 c) [] ∧ Grw w w' := by
  obtain ⟨i0, hi, hz0, hz1, hz2⟩ := info_parts Tryd.info42
  have hr := Lib.run_append_nil_zeros (P := Tryd.prog) w 27 3 27 42 i0 _ .i64 .i64 Tryd.underlying27 Tryd.underlying3 hi hz0 m h0 (by rw [hz1]; decide) (by omega) (by rw [hz2]; omega)
  have hge := grownCap_ge w m 0 42
  have hcm := grownCap_le_maxLen w m 0 42 (by unfold maxLen; omega)
  refine ⟨_, _, hr, ⟨rfl, .inr ⟨w.heap.size, _, _, rfl, Nat.le_refl _, heap_alloc_new w.drew _, Nat.zero_le _, hcm, ?_, ?_⟩⟩, ((Grw.rfl' w).drew).alloc _⟩
  · simp only [Array.size_append, size_zeroCells]
    show m * 2 + (grownCap w m 0 42 - m) * 2 = _
    omega
  · simp [cd]
set_option maxRecDepth 100000 in
theorem grow_is (m : Nat) (w : World) (hm : m ≤ 1000000) : Calls Tryd.prog 73 #[.slice none 0 0, .int .i64 (m : Nat)] w fun e w' => ∃ v, e = .returned v ∧ NewD w w' v [] ∧ Grw w w' := by
  have w0 : IntKind.i64.wrap (m : Int) = m := by rw [IntKind.wrap_i64]; omega
  have hneg : decide ((m : Int) < 0) = false := by simp
  obtain ⟨Q, hQ⟩ : ∃ Q : Ending → World → Prop, Q = fun e w' => ∃ v, e = .returned v ∧ NewD w w' v [] ∧ Grw w w' := ⟨_, rfl⟩
  rw [← hQ]
  have QQ := Lib.hid hQ
  by_cases h0 : 0 < m
  · obtain ⟨c, w', hr, hnew, hg⟩ := grow_ex m w h0 hm
    have R := Lib.hid hr
    have U := Lib.hid (And.intro hnew hg)
    have hp : decide ((0 : Int) < (m : Int)) = true := by simp; omega
    have hp2 : decide (0 < m) = true := by simp; omega
    have hc : (0 : Int) ≤ (c : Int) := by omega
    clear hr hnew hg hQ
    go_enter Tryd.func73, Tryd.ntmps73
    go_wp2_with (at_builtin; refine Lib.wpList_append_run _ rfl _ _ _ _ rfl _ _ rfl rfl _ _ R.out ?_)
    rw [QQ.out]
    exact ⟨_, rfl, U.out.1, U.out.2⟩
  · obtain rfl : m = 0 := by omega
    clear hQ
    go_enter Tryd.func73, Tryd.ntmps73
    go_wp2_with fail
    rw [QQ.out]
    exact ⟨_, rfl, NewD.nil _ _, Grw.rfl' _⟩
/-- both appends of Concat. -/
theorem cat_appends (w x y : World) (g : Grw w x) (v : Value) (h : NewD x y v []) (gy : Grw x y) (u1 u2 : Value) (l1 l2 : List Du) (r1 : RowD w u1 l1) (r2 : RowD w u2 l2) (hb : l1.length + l2.length ≤ 1000000) :
    ∃ v1 y1 v2 y2, (Builtin.append_ #[27, 27] 27 #[v, u1]).run Tryd.prog y = .ok v1 y1 ∧ (Builtin.append_ #[27, 27] 27 #[v1, u2]).run Tryd.prog y1 = .ok v2 y2 ∧ NewD w y2 v2 (l1 ++ l2) ∧ Grw w y2 ∧ Grw w y1 := by
  have gxy := g.trans gy
  have hs := Below.size g
  have hs2 := Below.size gy
  obtain ⟨v1, y1, hr1, o1, gr1, or1⟩ := app_ex y v [] l1 (base_down h) u1 (r1.later gxy) (by simp; omega)
  have b0 : ∀ k, v.ownBlock = some k → w.heap.size ≤ k := fun k hk => Nat.le_trans hs (NewD.ge h hk).1
  have g1 := (grownBy_frm gr1).grw gxy b0
  have b1 : ∀ k, v1.ownBlock = some k → w.heap.size ≤ k := fun k hk => by
    rcases or1 with e | e
    · exact b0 k (e ▸ hk)
    · rw [e] at hk
      injection hk with hk
      omega
  rw [List.nil_append] at o1
  obtain ⟨v2, y2, hr2, o2, gr2, or2⟩ := app_ex y1 v1 l1 l2 o1 u2 (r2.later g1) (by omega)
  refine ⟨v1, y1, v2, y2, hr1, hr2, base_up o2 (fun k hk => ?_), (grownBy_frm gr2).grw g1 b1, g1⟩
  rcases or2 with e | e
  · exact b1 k (e ▸ hk)
  · rw [e] at hk
    injection hk with hk
    have := Below.size g1
    omega
set_option maxHeartbeats 2000000 in
set_option maxRecDepth 100000 in
theorem concat_is (g : Nat) (u1 u2 : Value) (l1 l2 : List Du) (w : World) (c0 : w.cell? ⟨g, 0, none⟩ = some u1) (c1 : w.cell? ⟨g, 1, none⟩ = some u2) (r1 : RowD w u1 l1) (r2 : RowD w u2 l2) (hb : l1.length + l2.length ≤ 1000000) :
    Calls Tryd.prog 50 #[.slice (some ⟨g, 0, none⟩) 2 2] w fun e w' => ∃ v, e = .returned v ∧ NewD w w' v (l1 ++ l2) ∧ Grw w w' := by
  obtain ⟨Q, hQ⟩ : ∃ Q : Ending → World → Prop, Q = fun e w' => ∃ v, e = .returned v ∧ NewD w w' v (l1 ++ l2) ∧ Grw w w' := ⟨_, rfl⟩
  rw [← hQ]
  have QQ := Lib.hid hQ
  have AP := Lib.hid (fun y v (h : NewD w y v []) (gy : Grw w y) => cat_appends w w y (Grw.rfl' w) v h gy u1 u2 l1 l2 r1 r2 hb)
  obtain ⟨a1, k1, rfl, _⟩ := r1
  obtain ⟨a2, k2, rfl, _⟩ := r2
  obtain ⟨n1, hn1⟩ : ∃ n1, l1.length = n1 := ⟨_, rfl⟩
  obtain ⟨n2, hn2⟩ : ∃ n2, l2.length = n2 := ⟨_, rfl⟩
  rw [hn1] at AP c0 hb
  rw [hn2] at AP c1 hb
  obtain ⟨s, hs⟩ : ∃ s, n1 + n2 = s := ⟨_, rfl⟩
  have e0 : IntKind.i64.wrap (n1 : Int) = n1 := by rw [IntKind.wrap_i64]; omega
  have e1 : (n1 : Int) + (n2 : Int) = s := by omega
  have e2 : IntKind.i64.wrap (s : Int) = s := by rw [IntKind.wrap_i64]; omega
  have d1 : decide ((n1 : Int) < 0) = false := by simp
  have d2 : decide ((s : Int) < 0) = false := by simp
  have GR := Lib.hid (grow_is s w (by omega))
  clear hQ hn1 hn2 hs hb
  go_enter Tryd.func50, Tryd.ntmps50
  go_wp2_with fail
  refine wp_loop_rounds 3 ?_
  rw [rounds_succ]
  go_wp2_with fail
  rw [rounds_succ]
  go_wp2_with fail
  rw [rounds_succ]
  go_wp2_with fail
  refine GR.out.mono ?_
  rintro _ w1 ⟨v, rfl, hv, hg⟩
  obtain ⟨v1, y1, v2, y2, hr1, hr2, hnew, gy, gy1⟩ := AP.out w1 v hv hg
  have R1 := Lib.hid hr1
  have R2 := Lib.hid hr2
  have U := Lib.hid (And.intro hnew gy)
  have C1 := Lib.hid (gy1.cell c1)
  have k0 := hg.cell c0
  clear hr1 hr2 hnew gy hv hg c0 c1 gy1
  go_wp2_with fail
  refine wp_loop_rounds 3 ?_
  rw [rounds_succ]
  go_wp2_with (at_builtin; refine Lib.wpList_append_run _ rfl _ _ _ _ rfl _ _ rfl rfl _ _ R1.out ?_)
  have k1 := C1.out
  rw [rounds_succ]
  go_wp2_with (at_builtin; refine Lib.wpList_append_run _ rfl _ _ _ _ rfl _ _ rfl rfl _ _ R2.out ?_)
  rw [rounds_succ]
  go_wp2_with fail
  rw [QQ.out]
  exact ⟨_, rfl, U.out.1, U.out.2⟩
set_option maxHeartbeats 2000000 in
set_option maxRecDepth 100000 in
theorem cancel_none (ao : Option Addr) (cap : Nat) (l : List Du) (n : Nat) (i : Int) (w : World) (hl : Lies w ao (cd l)) (hb : l.length ≤ 100000) (hn : l.length = n) (hi : i ∉ ids l) :
    Calls Tryd.prog 28 #[.slice ao n cap, .int .i64 i] w (PlanQ false [] w) := by
  have hr := (fx_or l i).resolve_right (fun ⟨k, hk, _, h2, _⟩ => hi (mem_ids.2 ⟨_, List.getElem_mem hk, h2⟩))
  have F := Lib.hid (find_is ao cap l n i (-1) w hl (by omega) hn hr.1)
  clear hl hb hn hi hr
  go_enter Tryd.func28, Tryd.ntmps28
  go_wp2_with fail
  refine F.out.mono ?_
  rintro _ w1 ⟨rfl, hg⟩
  have G := Lib.hid hg
  clear hg
  go_wp2_with fail
  go_ret2
  exact ⟨_, rfl, NewD.nil _ _, G.out⟩
set_option maxHeartbeats 2000000 in
set_option maxRecDepth 100000 in
theorem cancel_bad (ao : Option Addr) (cap : Nat) (l : List Du) (n : Nat) (i : Int) (w : World) (hl : Lies w ao (cd l)) (hb : l.length ≤ 100000) (hw : Wis l) (hn : l.length = n) (hi : i ∈ ids l) (ho : ¬ Gd l) :
    Calls Tryd.prog 28 #[.slice ao n cap, .int .i64 i] w (PlanQ false [] w) := by
  obtain ⟨r, hr⟩ : ∃ r, fx l i = r := ⟨_, rfl⟩
  have F := Lib.hid (find_is ao cap l n i r w hl (by omega) hn hr)
  have GD := Lib.hid (fun u (g : Grw w u) => good_is ao cap l n false u (hl.later g) (by omega) hw hn (gdB_f ho))
  have hr0 : 0 ≤ r := by
    have := mt fx_neg.1 (fun c => c hi)
    omega
  have hrb : decide (r < 0) = false := by simp; omega
  clear hl hb hw hn ho hi hr
  go_enter Tryd.func28, Tryd.ntmps28
  go_wp2_with fail
  refine F.out.mono ?_
  rintro _ w1 ⟨rfl, hg⟩
  have G0 := Lib.hid (GD.out w1 hg)
  have G := Lib.hid hg
  clear hg
  go_wp2_with fail
  refine G0.out.mono ?_
  rintro _ w2 ⟨rfl, hg⟩
  have G2 := Lib.hid (G.out.trans hg)
  clear hg
  go_wp2_with fail
  go_ret2
  exact ⟨_, rfl, NewD.nil _ _, G2.out⟩
theorem lies_tail {w : World} {a : Option Addr} {l : List Du} {d : Du} (h : Lies w a (cd (d :: l))) (q : Nat) (hq : l.length = q) : Lies w (if q + 1 = 1 then a else a.map (·.add (1 * 2))) (cd l) := by
  rcases h with h | ⟨b, off, e, hb, hc⟩
  · cases h
  · subst e
    by_cases h0 : q + 1 = 1
    · left
      have : l = [] := List.eq_nil_of_length_eq_zero (by omega)
      rw [this]; rfl
    · rw [if_neg h0]
      refine Or.inr ⟨b, off + 2, by simp [Addr.add_lit], hb, fun j u hj => ?_⟩
      have := hc (j + 2) u (by simpa [cd] using hj)
      rwa [show off + (j + 2) = off + 2 + j by omega] at this
set_option maxHeartbeats 2000000 in
set_option maxRecDepth 100000 in
theorem cancel_yes (ao : Option Addr) (cap : Nat) (l : List Du) (n : Nat) (i : Int) (w : World) (hl : Lies w ao (cd l)) (hb : l.length ≤ 100000) (hw : Wis l) (hn : l.length = n) (hcap : n ≤ cap) (hnil : ao = none → n = 0) (hi : i ∈ ids l) (ho : Gd l) :
    Calls Tryd.prog 28 #[.slice ao n cap, .int .i64 i] w (PlanQ true (del i l) w) := by
  obtain ⟨Q, hQ⟩ : ∃ Q, PlanQ true (del i l) w = Q := ⟨_, rfl⟩
  rw [hQ]
  have QQ := Lib.hid hQ
  obtain ⟨k, hk, hr, he, _⟩ := (fx_or l i).resolve_left (fun c => c.2 hi)
  have F := Lib.hid (find_is ao cap l n i k w hl (by omega) hn hr)
  have GD := Lib.hid (fun u (g : Grw w u) => good_is ao cap l n true u (hl.later g) (by omega) hw hn (gdB_t ho))
  obtain ⟨q, hq⟩ : ∃ q, k + (q + 1) = n := ⟨n - k - 1, by omega⟩
  have CT := Lib.hid (fun u (g : Grw w u) => cut_is ao cap l n k (q + 1) u (hl.later g) hn hq hcap hnil)
  have hdrop : l.drop k = l[k] :: l.drop (k + 1) := (List.getElem_cons_drop hk).symm
  have hlen : (l.drop (k + 1)).length = q := by rw [List.length_drop]; omega
  have hlen1 : (l.take k).length = k := by rw [List.length_take]; omega
  have CD := cut_del ho.2 hk he
  have hbk : k + q ≤ 100000 := by omega
  have HH := Lib.hid (And.intro hdrop (And.intro hlen (And.intro hlen1 CD)))
  have hrb : decide ((k : Int) < 0) = false := by simp
  have hkk : ¬ (k : Int) < 0 := by omega
  clear hl hb hw hn hcap hnil hi ho hr hQ hdrop hlen hlen1 CD hq
  go_enter Tryd.func28, Tryd.ntmps28
  go_wp2_with fail
  refine F.out.mono ?_
  rintro _ w1 ⟨rfl, hg⟩
  have G0 := Lib.hid (GD.out w1 hg)
  have G1 := Lib.hid hg
  clear hg
  go_wp2_with fail
  refine G0.out.mono ?_
  rintro _ w2 ⟨rfl, hg⟩
  have G2 := Lib.hid (G1.out.trans hg)
  have C0 := Lib.hid (CT.out w2 G2.out)
  clear hg
  go_wp2_with fail
  refine C0.out.mono ?_
  rintro _ w3 ⟨a1, a2, rfl, h1, l1, h2, l2, hg⟩
  have G3 := Lib.hid (G2.out.trans hg)
  rw [HH.out.1] at l2
  have l3 := lies_tail l2 q HH.out.2.1
  have CC : Hid (∀ a3, (if q + 1 = 1 then a2 else a2.map (·.add (1 * 2))) = a3 → Calls Tryd.prog 50 #[.slice (some ⟨w3.heap.size, 0, none⟩) 2 2] (w3.alloc (.cells #[.slice a1 k k, .slice a3 q q] 27)) fun e w' => ∃ v, e = .returned v ∧ NewD w w' v (del i l) ∧ Grw w w') := (fun a3 h3 => by
    rw [h3] at l3
    have gx := (Grw.rfl' w3).alloc (.cells #[.slice a1 k k, .slice a3 q q] 27)
    refine (concat_is w3.heap.size (.slice a1 k k) (.slice a3 q q) (l.take k) (l.drop (k + 1)) _ (by simp [go_sem]) (by simp [go_sem]) ⟨a1, k, by rw [HH.out.2.2.1], l1.later gx⟩ ⟨a3, q, by rw [HH.out.2.1], l3.later gx⟩ (by rw [HH.out.2.1, HH.out.2.2.1]; omega)).mono ?_
    rintro e w' ⟨v, he, hnew, hg'⟩
    rw [HH.out.2.2.2] at hnew
    refine ⟨v, he, base_up (base_down hnew) (fun c hc => ?_), (G3.out.trans gx).trans hg'⟩
    exact Nat.le_trans (Below.size (G3.out.trans gx)) (NewD.ge hnew hc).1 : ∀ a3, (if q + 1 = 1 then a2 else a2.map (·.add (1 * 2))) = a3 → Calls Tryd.prog 50 #[.slice (some ⟨w3.heap.size, 0, none⟩) 2 2] (w3.alloc (.cells #[.slice a1 k k, .slice a3 q q] 27)) fun e w' => ∃ v, e = .returned v ∧ NewD w w' v (del i l) ∧ Grw w w')
  have hs1 : (1 : Int) ≤ ((q + 1 : Nat) : Int) := by omega
  by_cases hq0 : q = 0
  · subst hq0
    have C3 := Lib.hid (CC.out a2 (by simp))
    clear hg h1 l1 h2 l2 l3 CC
    go_wp2_with fail
    refine C3.out.mono ?_
    rintro _ w4 ⟨v, rfl, hnew, hg⟩
    have U := Lib.hid (And.intro hnew hg)
    clear hnew hg
    go_wp2_with fail
    rw [← QQ.out]
    exact ⟨_, rfl, U.out.1, U.out.2⟩
  · have C3 := Lib.hid (CC.out (a2.map (·.add 2)) (by simp [hq0]))
    clear hg h1 l1 h2 l2 l3 CC
    go_wp2_with fail
    refine C3.out.mono ?_
    rintro _ w4 ⟨v, rfl, hnew, hg⟩
    have U := Lib.hid (And.intro hnew hg)
    clear hnew hg
    go_wp2_with fail
    rw [← QQ.out]
    exact ⟨_, rfl, U.out.1, U.out.2⟩
end PL
end Go.Proofs.YtjkhgpdhhnfmlaaDoor

/- The contract of wakes at this program; a row that was made, taken apart; append behind a guard. -/
namespace Go.Proofs.YtjkhgpdhhnfmlaaDoor
namespace PL
open Go.RowKit
open RG (Du)
open PM
set_option linter.unusedSimpArgs false

/-- a row that was made, taken apart. -/
theorem NewD.out {w w' : World} {v : Value} {l : List Du} (h : NewD w w' v l) : ∃ ao cap, v = .slice ao l.length cap ∧ Lies w' ao (cd l) ∧ l.length ≤ cap ∧ (ao = none → l.length = 0) := by
  obtain ⟨ao, cap, rfl, hl⟩ := NewD.row h
  refine ⟨ao, cap, rfl, hl, own_cap (base_down h), fun e => ?_⟩
  subst e
  rcases h.2 with ⟨_, h2⟩ | ⟨g', cap', cur, h1, _⟩
  · exact h2
  · injection h1 with h1; cases h1
/-- append as an operation whose guard holds, with what it does at hand. -/
theorem wp_append_guarded {P : Program} (w : World) {ops : Array Oper} {rest : List Oper} {o : Oper} {a : Act} {Q : Exit → Act → World → Prop} (hgd : Region.wanted o (yielded ops a.tmps) = true) (s x : Operand) (t : TypeId)
    (ho : o.op = .call { callee := .builtin .append, args := #[s, x], argTypes := #[t, t] }) (vs vx : Value) (hs : a.eval s = vs) (hx : a.eval x = vx) (v' : Value) (w' : World)
    (hr : (Builtin.append_ #[t, t] o.type #[vs, vx]).run P w = .ok v' w') (h : wpList P ops Q rest (a.put o.dst v') w') : wpList P ops Q (o :: rest) a w := by
  refine wpList_step fun K hK => ?_
  rw [if_pos hgd]
  unfold Oper.wp execOp
  simp only [ho, resolve, invoke, builtin, Sem.run_bind, Sem.run_pure, Result.andThen_ok, List.map_toArray, List.map_cons, List.map_nil, hs, hx, hr]
  exact hK _ _ h
/-- two timers as they are laid. -/
theorem two_lies (w : World) (a b : Du) : Lies (w.alloc (.cells #[.int .i64 a.id, .int .u64 (a.t : Nat), .int .i64 b.id, .int .u64 (b.t : Nat)] 42)) (some ⟨w.heap.size, 0, none⟩) (cd [a, b]) := by
  refine Or.inr ⟨w.heap.size, 0, rfl, by rw [size_new]; omega, fun j u hj => ?_⟩
  have := blk_cells (xs := cd [a, b]) (t := 42) (heap_alloc_new w _) j u hj
  rwa [Addr.add_lit] at this
def wl : List Du := [⟨1, 5⟩, ⟨3, 7⟩]
def wm : List Du := [⟨1, 5⟩, ⟨2, 5⟩, ⟨3, 7⟩]
theorem put_wl : RG.put ⟨2, 5⟩ wl = wm := by decide
theorem upto_wm : upto 5 wm = [⟨1, 5⟩, ⟨2, 5⟩] := by decide
theorem past_wm : past 5 wm = [⟨3, 7⟩] := by decide
theorem gd_wl : Gd wl := ⟨srt_adj (by intro j g; have : j = 0 := by simp [wl] at g; omega
                                      subst this; rfl), by decide⟩
theorem gd_wm : Gd wm := by rw [← put_wl]; exact gd_put gd_wl (by decide)
theorem gd_not : ¬ Gd [⟨2, 0⟩, ⟨1, 0⟩] := fun h => not_srt (l := [⟨2, 0⟩, ⟨1, 0⟩]) (j := 0) (by decide) rfl h.1
theorem wis_of {l : List Du} (h : ∀ d ∈ l, -100 ≤ d.id ∧ d.id ≤ 100) : Wis l := fun d hd => ⟨by have := h d hd; omega, by have := h d hd; omega⟩
set_option maxHeartbeats 2000000 in
set_option maxRecDepth 100000 in
theorem wakes_any (w : World) : Calls Tryd.prog 31 #[] w fun e w' => e = .returned (.bool true) ∧ Grw w w' := by
  have I := Lib.hid (insert_yes (some ⟨w.heap.size, 0, none⟩) 2 wl ⟨2, 5⟩ 2 _ (two_lies w ⟨1, 5⟩ ⟨3, 7⟩) (by decide) (wis_of (by decide)) rfl (Nat.le_refl _) (fun h => by cases h) gd_wl (by decide))
  rw [put_wl] at I
  unfold dv PlanQ at I
  simp only at I
  have GB := Lib.hid (fun u => good_is (some ⟨u.heap.size, 0, none⟩) 2 [⟨2, 0⟩, ⟨1, 0⟩] 2 false _ (two_lies u ⟨2, 0⟩ ⟨1, 0⟩) (by decide) (wis_of (by decide)) rfl (gdB_f gd_not))
  go_enter Tryd.func31, Tryd.ntmps31
  go_wp2_with fail
  refine I.out.mono ?_
  rintro _ w1 ⟨v, rfl, hnew, hg⟩
  obtain ⟨ao, cap, rfl, hl, hc, hnil⟩ := hnew.out
  have hS := split_any ao cap 5 wm w1 hl (by decide)
  unfold SplitQ at hS
  rw [upto_wm, past_wm] at hS
  have S := Lib.hid hS
  have G := Lib.hid hg.two
  have LI := Lib.hid hl
  clear hnew hl hc hnil hS hg
  have e3 : wm.length = 3 := rfl
  rw [e3] at S ⊢
  go_wp2_with fail
  refine S.out.mono ?_
  rintro _ w2 ⟨u, v, rfl, hu, hv, hg⟩
  obtain ⟨a1, c1, rfl, _⟩ := hu.row
  obtain ⟨a2, c2, rfl, _⟩ := hv.row
  have l2 := LI.out.later hg
  obtain ⟨b, off, rfl, k0, k1⟩ := lies_at (j := 1) l2 (by decide)
  have k0' : w2.cell? ⟨b, off + 1 * 2, none⟩ = some (.int .i64 2) := k0
  have GM := Lib.hid (good_is (some ⟨b, off, none⟩) cap wm 3 true w2 l2 (by decide) (wis_of (by decide)) rfl (gdB_t gd_wm))
  have G2 := Lib.hid (G.out.trans hg)
  clear hu hv hg l2 k0 k1
  have n1 : ([⟨1, 5⟩, ⟨2, 5⟩] : List Du).length = 2 := rfl
  have n2 : ([⟨3, 7⟩] : List Du).length = 1 := rfl
  rw [n1, n2]
  go_wp2_with fail
  refine GM.out.mono ?_
  rintro _ w3 ⟨rfl, hg⟩
  have G3 := Lib.hid (G2.out.trans hg)
  have GN := Lib.hid (GB.out w3)
  clear hg k0'
  go_wp2_with fail
  refine GN.out.mono ?_
  rintro _ w4 ⟨rfl, hg⟩
  have G4 := Lib.hid (G3.out.trans hg.two)
  clear hg
  go_wp2_with fail
  go_ret
  exact ⟨rfl, G4.out⟩
end PL
end Go.Proofs.YtjkhgpdhhnfmlaaDoor
