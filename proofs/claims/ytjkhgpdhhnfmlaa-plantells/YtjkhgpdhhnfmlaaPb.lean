/- The contracts of plan.distinct, plan.Good and plan.cut at this program. -/
import Derived.Test.YtjkhgpdhhnfmlaaPa
import Derived.Test.YtjkhgpdhhnfmlaaPw
namespace Go.Proofs.Ytjkhgpdhhnfmlaa
open Go.RowKit
open Go.Maps (Keyed IsMap Tidy)
open RG (Du)
open PM
set_option linter.unusedSimpArgs false

theorem wpList_lookup_own_bool {H : Type} {P : Program} (w : World) {ops : Array Oper} {rest : List Oper} {o : Oper} {a : Act} {Q : Exit → Act → World → Prop}
    (hg : o.guard = none) (m x : Operand) (t : TypeId) (hop : o.op = Op.lookup t m x false)
    (k e : TypeId) (K : Keyed P k) (ht : P.underlying t = some (.map k e)) (he : P.underlying e = some .bool) (hz : (zeroValue e).run P w = .ok (.bool false) w) (b n : Nat) (D : DataW H)
    (hm : a.eval m = .map (some b)) (hown : w.ownsMap P k (plainElem P e) b n D) (key : Value) (kl : Lit) (hx : a.eval x = key) (hkey : keyOf P k key = some kl)
    (c : Bool) (hat : D.atKey kl (.lit (.bool false)) = .lit (.bool c)) (hK : wpList P ops Q rest (a.put o.dst (.bool c)) w) :
    wpList P ops Q (o :: rest) a w := by
  refine wpList_plain hg fun K' hK' => ?_
  obtain ⟨v, ps, hrun, hv⟩ := hown.lookup K ht hz (plainElem_bool he false) hkey
  rw [hat] at hv
  obtain rfl : v = .bool c := by
    unfold plainElem at hv
    rw [he] at hv
    cases v <;> simp at hv
    rw [hv.1]
  unfold Oper.wp
  simp [execOp, hop, hm, hx, hrun, Result.andThen]
  exact hK' _ _ hK

/-- the map holds true at the numbers of l, and nowhere else. -/
structure SetOf (D : DataW Unit) (s : List Int) : Prop where
  tidy : Tidy D
  look : ∀ i, D.atKey (ky i) (.lit (.bool false)) = .lit (.bool (decide (i ∈ s)))
theorem SetOf.nil : SetOf (.map []) [] := ⟨Maps.tidy_empty, fun _ => rfl⟩
theorem SetOf.put {D : DataW Unit} {s : List Int} (h : SetOf D s) (i : Int) : SetOf (D.put (ky i) (.lit (.bool true))) (s ++ [i]) := by
  refine ⟨h.tidy.put (ky_lit _) _, fun j => ?_⟩
  by_cases e : j = i
  · subst e
    rw [Maps.atKey_put_same h.tidy.isMap (ky_lit _)]
    simp
  · rw [Maps.atKey_put_other (ky_ne e), h.look j]
    simp [e]
/-- numbers that an int holds. -/
def Wis (l : List Du) : Prop := ∀ d ∈ l, Wi d.id
theorem Try.mkmap (n : Int) (w : World) : (Instr.makeMap 64 (some (.int .i64 n))).run Try.prog w = .ok (.map (some w.heap.size)) (w.alloc (.map #[] 0)) := by
  simp [Instr.makeMap, asInt, asIntOf, run_underlying Try.underlying64]
theorem Try.zero4 (w : World) : (zeroValue 4).run Try.prog w = .ok (.bool false) w := by kernel_rfl
set_option maxHeartbeats 2000000 in
set_option maxRecDepth 100000 in
theorem distinct_any (ao : Option Addr) (cap : Nat) (l : List Du) (w : World) (hl : Lies w ao (cd l)) (hb : l.length ≤ 1000000) (hw : Wis l) :
    Calls Try.prog 27 #[.slice ao l.length cap] w fun e w' => e = .returned (.bool (onceB l)) ∧ Grw w w' := by
  have LI := Lib.hid hl
  have WI := Lib.hid hw
  have M0 := Lib.hid (World.ownsMap_made (H := Unit) w Try.prog 3 (plainElem Try.prog 4))
  obtain ⟨n, hn⟩ : ∃ n, l.length = n := ⟨_, rfl⟩
  obtain ⟨r, hr⟩ : ∃ r, onceB l = r := ⟨_, rfl⟩
  rw [hn] at hb ⊢
  rw [hr]
  have HN := Lib.hid (And.intro hn hr)
  have hmk := Try.mkmap
  obtain ⟨mb, hmb⟩ : ∃ mb, w.heap.size = mb := ⟨_, rfl⟩
  rw [hmb] at M0
  have MB := Lib.hid hmb
  clear hl hn hr hw
  go_enter Try.func27, Try.ntmps27
  go_wp2_with fail
  clear hmb hmk
  go_loopw [11] (fun u wr => ∃ (k : Nat) (D : DataW Unit), k ≤ n ∧ u = .int .i64 k ∧ wr.ownsMap Try.prog 3 (plainElem Try.prog 4) mb k D ∧ SetOf D (ids (l.take k)) ∧ (ids (l.take k)).Nodup ∧ Grw w wr) (fun u _ => n - (intOf u).toNat)
  case atStart => exact ⟨0, _, Nat.zero_le _, rfl, M0.out, SetOf.nil, List.nodup_nil, (Grw.rfl' w).alloc _⟩
  case round =>
    obtain ⟨k, D, hk, rfl, hmap, hset, hnd, hg⟩ := hrel
    by_cases hk' : k < n
    · have hki : (k : Int) < (n : Int) := by omega
      have hkl : k < l.length := by rw [HN.out.1]; exact hk'
      obtain ⟨b, off, rfl, c0, c1⟩ := lies_at (LI.out.later hg) hkl
      have e1 := ids_take_succ hkl
      have nstep := nodup_step hkl hnd
      have nno := fun h => nodup_not hkl h
      have hwi := WI.out l[k] (List.getElem_mem hkl)
      obtain ⟨x, hx⟩ : ∃ x, l[k] = x := ⟨_, rfl⟩
      rw [hx] at c0 c1 e1 nstep nno hwi
      obtain ⟨xi, xt⟩ := x
      simp only at c0 c1 e1 nstep nno hwi
      have MP := Lib.hid (hmap.alloc (.cells #[.int .i64 xi, .int .u64 (xt : Nat)] 25))
      have K := Lib.hid (Maps.keyOf_int_mk Try.underlying3 (wi_wf hwi))
      have G := Lib.hid hg
      have ME := Lib.hid (plainElem_bool (H := Unit) Try.underlying4 true)
      by_cases hin : xi ∈ ids (l.take k)
      · have A : Hid (D.atKey (.int .i64 xi) (.lit (.bool false)) = .lit (.bool true)) := (by have := hset.look xi; rw [decide_eq_true hin] at this; exact this : D.atKey (.int .i64 xi) (.lit (.bool false)) = .lit (.bool true))
        have NN := Lib.hid (nno hin)
        clear hx hmap hset hnd hg e1 nstep nno hwi hin
        go_wp2_with (at_lookup; refine wpList_lookup_own_bool _ rfl _ _ 64 rfl 3 4 law3 Try.underlying64 Try.underlying4 (Try.zero4 _) mb _ D rfl MP.out _ _ rfl K.out true A.out ?_)
        go_ret
        exact ⟨by rw [← HN.out.2, onceB_f NN.out]; rfl, G.out.alloc _⟩
      · have A : Hid (D.atKey (.int .i64 xi) (.lit (.bool false)) = .lit (.bool false)) := (by have := hset.look xi; rw [decide_eq_false hin] at this; exact this : D.atKey (.int .i64 xi) (.lit (.bool false)) = .lit (.bool false))
        have NN := Lib.hid (nstep hin)
        have ST := Lib.hid (hset.put xi)
        rw [← e1] at ST
        clear hx hmap hset hnd hg e1 nstep nno hwi hin
        go_wp2_with (first | (at_lookup; refine wpList_lookup_own_bool _ rfl _ _ 64 rfl 3 4 law3 Try.underlying64 Try.underlying4 (Try.zero4 _) mb _ D rfl MP.out _ _ rfl K.out false A.out ?_) | (at_mapUpdate; refine wpList_mapUpdate_own _ rfl _ _ _ 64 rfl 3 4 law3 Try.underlying64 _ mb k D rfl MP.out (by unfold maxLen; omega) _ _ _ rfl rfl K.out _ [] ME.out ?_; intro w1 hown1 hgrow1))
        have U := Lib.hid (And.intro hown1 ((grownBy_frm hgrow1).grw (G.out.alloc (.cells #[.int .i64 xi, .int .u64 (xt : Nat)] 25)) (fun q hq => by injection hq with hq; rw [MB.out]; omega)))
        clear hown1 hgrow1
        go_wp2_with fail
        go_roundw
        case rel => exact ⟨k + 1, _, by omega, by go_num, U.out.1, ST.out, NN.out, U.out.2⟩
        case measure => simp [intOf]; omega
    · have hki : ¬ (k : Int) < (n : Int) := by omega
      obtain rfl : n = k := by omega
      have e : l.take n = l := List.take_of_length_le (by rw [HN.out.1]; exact Nat.le_refl _)
      rw [e] at hnd
      have NN := Lib.hid (And.intro hnd hg)
      clear hmap hset hnd hg e
      go_wp2_with fail
      go_ret
      exact ⟨by rw [← HN.out.2, onceB_t NN.out.1]; rfl, NN.out.2⟩
theorem distinct_is (ao : Option Addr) (cap : Nat) (l : List Du) (n : Nat) (o : Bool) (w : World) (hl : Lies w ao (cd l)) (hb : l.length ≤ 1000000) (hw : Wis l) (hn : l.length = n) (ho : onceB l = o) :
    Calls Try.prog 27 #[.slice ao n cap] w fun e w' => e = .returned (.bool o) ∧ Grw w w' := by rw [← hn, ← ho]; exact distinct_any ao cap l w hl hb hw
theorem sorted_is (ao : Option Addr) (cap : Nat) (l : List Du) (n : Nat) (o : Bool) (w : World) (hl : Lies w ao (cd l)) (hb : l.length ≤ 1000000) (hn : l.length = n) (ho : srtB l = o) :
    Calls Try.prog 26 #[.slice ao n cap, .func (.func 22) #[] #[]] w fun e w' => e = .returned (.bool o) ∧ Grw w w' := by rw [← hn, ← ho]; exact sorted_any ao cap l w hl hb
set_option maxHeartbeats 2000000 in
set_option maxRecDepth 100000 in
theorem good_is (ao : Option Addr) (cap : Nat) (l : List Du) (n : Nat) (o : Bool) (w : World) (hl : Lies w ao (cd l)) (hb : l.length ≤ 1000000) (hw : Wis l) (hn : l.length = n) (ho : gdB l = o) :
    Calls Try.prog 14 #[.slice ao n cap] w fun e w' => e = .returned (.bool o) ∧ Grw w w' := by
  by_cases hs : RG.Srt l
  · have S := Lib.hid (sorted_is ao cap l n true w hl hb hn (srtB_t hs))
    have D := Lib.hid (fun u (g : Grw w u) => distinct_is ao cap l n o u (hl.later g) hb hw hn (by
      rw [← ho]
      by_cases hd : (ids l).Nodup
      · rw [onceB_t hd, gdB_t ⟨hs, hd⟩]
      · rw [onceB_f hd, gdB_f (fun c => hd c.2)]))
    clear hl hb hw hn ho hs
    go_enter Try.func14, Try.ntmps14
    go_wp2_with fail
    refine S.out.mono ?_
    rintro _ w1 ⟨rfl, hg⟩
    have D1 := Lib.hid (D.out w1 hg)
    have G := Lib.hid hg
    clear hg
    go_wp2_with fail
    refine D1.out.mono ?_
    rintro _ w2 ⟨rfl, hg⟩
    have G2 := Lib.hid (G.out.trans hg)
    clear hg
    go_wp2_with fail
    go_ret
    exact ⟨rfl, G2.out⟩
  · have S := Lib.hid (sorted_is ao cap l n false w hl hb hn (srtB_f hs))
    have HO := Lib.hid (ho.symm.trans (gdB_f (fun c => hs c.1)))
    clear hl hb hw hn ho hs
    go_enter Try.func14, Try.ntmps14
    go_wp2_with fail
    refine S.out.mono ?_
    rintro _ w1 ⟨rfl, hg⟩
    have G := Lib.hid hg
    clear hg
    go_wp2_with fail
    go_ret
    exact ⟨by rw [HO.out]; rfl, G.out⟩
end Go.Proofs.Ytjkhgpdhhnfmlaa
