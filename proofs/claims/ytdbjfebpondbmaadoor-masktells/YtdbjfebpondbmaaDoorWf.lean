/- The contracts of the document's With, Without, Next, Round at this program. -/
import Derived.Test.YtdbjfebpondbmaaDoorWe
namespace Go.Proofs.YtdbjfebpondbmaaDoor
open Go.RowKit MK
set_option linter.unusedSimpArgs false

/-- a slice that reads as a list. -/
def RowL (w : World) (v : Value) (l : List Int) : Prop := ∃ ao cap, v = .slice ao l.length cap ∧ RowF w ao l.length (fun j => l.getD j 0)
theorem RowL.later {w x : World} {v : Value} {l : List Int} (h : RowL w v l) (g : Grw w x) : RowL x v l :=
  let ⟨ao, cap, e, r⟩ := h; ⟨ao, cap, e, r.later g⟩
theorem rof_list {v : Value} {l : List Int} {w : World} (hl : l.length ≤ 9223372036854775807) (h : RowL w v l) :
    Calls Tryd.prog 23 #[v] w fun e w' => e = .returned (.int .u64 (ofL l : Nat)) ∧ Grw w w' := by
  obtain ⟨ao, cap, rfl, r⟩ := h
  have := rof_any ao l.length cap _ w hl r
  rw [fl_of] at this; exact this
theorem of_list {v : Value} {l : List Int} {w : World} (hl : l.length ≤ 9223372036854775807) (h : RowL w v l) :
    Calls Tryd.prog 22 #[v] w fun e w' => e = .returned (.int .u64 (ofL l : Nat)) ∧ w = w' := by
  obtain ⟨ao, cap, rfl, r⟩ := h
  have := of_any ao l.length cap _ w hl r
  rw [fl_of] at this; exact this
theorem ints_list {u v : Value} {l : List Int} {w : World} (hl : l.length ≤ 9223372036854775807) (h : RowL w u l) (g : RowL w v l) :
    Calls Tryd.prog 19 #[u, v] w fun e w' => e = .returned (.bool true) ∧ Grw w w' := by
  obtain ⟨ao, cap, rfl, r⟩ := h
  obtain ⟨bo, cap', rfl, s⟩ := g
  exact ints_same ao bo l.length cap cap' _ w hl r s
theorem ofL_els {m : Nat} (hm : m < 2 ^ 64) : ofL (els m) = m :=
  ofL_eq hm _ fun k hk => by rw [mem_els, has_nat m k hk]
theorem ofL_with {m : Nat} (hm : m < 2 ^ 64) (i : Int) : ofL (els m ++ [i]) = wth m i := by
  rw [ofL_snoc, ofL_els hm]; rfl
theorem ofL_without {m : Nat} (hm : m < 2 ^ 64) (i : Int) : ofL ((els m).filter (fun z => decide (z ≠ i))) = wot m i :=
  ofL_eq (wot_lt hm i) _ fun k hk => by
    rw [List.mem_filter, mem_els, has_nat m k hk, wot_bit m i k hk, Bool.and_eq_true]
    by_cases e : (k : Int) = i
    · simp [e]
    · simp [e, Ne.symm e]

set_option maxHeartbeats 1000000 in
set_option maxRecDepth 100000 in
theorem rwith_any (m : Nat) (i : Int) (w : World) (hm : m < 18446744073709551616) :
    Calls Tryd.prog 12 #[.int .u64 m, .int .i64 i] w fun e w' => e = .returned (.int .u64 (wth m i : Nat)) ∧ Grw w w' := by
  obtain ⟨i0, hi, hz0, hz1, hz2⟩ := info_parts Tryd.info3
  have hl := els_len m
  have A := Lib.hid (rlist_any m w)
  have V := Lib.hid (ofL_with hm i)
  go_enter Tryd.func12, Tryd.ntmps12
  go_wp2_with fail
  refine A.out.mono ?_
  rintro _ w1 ⟨v, rfl, hown, hg1⟩
  have hsz := Below.size hg1
  have R := Lib.hid (And.intro hown hg1)
  clear hown hg1
  go_wp2_with (at_builtin; refine wpList_append_own _ rfl _ _ 23 rfl w.heap.size 3 i0 (.int .i64 0) 1 8 Tryd.underlying23 hi hz0 hz1 hz2 rfl (by decide) _ _ _ rfl (World.ownsRow.alloc R.out.1 _) ⟨w1.heap.size, 0, none⟩ 1 1 [.int .i64 i] rfl rfl (one_cell _ _) (int_cells [i]) (by unfold maxLen; omega) (by omega) (by simp; omega) ?_)
  intro v' w2 hown' hgrow _
  have S := Lib.hid (own_append (news := [i]) R.out.2 R.out.1 hown' hgrow)
  clear hown' hgrow
  have B := Lib.hid (rof_list (by rw [List.length_append]; simp; omega) S.out.2.row)
  go_wp2_with fail
  refine B.out.mono ?_
  rintro _ w3 ⟨rfl, hw3⟩
  have G := Lib.hid (S.out.1.trans hw3)
  clear hw3
  go_wp2_with fail
  go_ret
  exact ⟨by rw [V.out]; rfl, G.out⟩

set_option maxHeartbeats 1000000 in
set_option maxRecDepth 100000 in
theorem rwithout_any (m : Nat) (i : Int) (w : World) (hm : m < 18446744073709551616) :
    Calls Tryd.prog 14 #[.int .u64 m, .int .i64 i] w fun e w' => e = .returned (.int .u64 (wot m i : Nat)) ∧ Grw w w' := by
  obtain ⟨i0, hi, hz0, hz1, hz2⟩ := info_parts Tryd.info3
  have A := Lib.hid (rlist_any m w)
  have hv := ofL_without hm i
  go_enter Tryd.func14, Tryd.ntmps14
  go_wp2_with fail
  refine A.out.mono ?_
  rintro _ w1 ⟨v, rfl, hown, hg1⟩
  have hl := els_len m
  obtain ⟨ao, cap, rfl, hrow⟩ := hown.row
  obtain ⟨n, hn⟩ : ∃ n, (els m).length = n := ⟨_, rfl⟩
  obtain ⟨f, hf⟩ : ∃ f : Nat → Int, (fun j => (els m).getD j 0) = f := ⟨_, rfl⟩
  have hfl : fl n f = els m := by rw [← hn, ← hf]; exact fl_of _
  rw [hf, hn] at hrow
  rw [← hfl] at hv
  rw [hn] at hl
  rw [hn]
  have R := Lib.hid hrow
  have G := Lib.hid hg1
  have V := Lib.hid hv
  clear hrow hg1 hv hfl hf hown hn
  go_wp2_with fail
  go_loopw [5, 11] (fun u c wr => ∃ k : Nat, k ≤ n ∧ c = .int .i64 k ∧ Own wr w1.heap.size u ((fl k f).filter (fun z => decide (z ≠ i))) ∧ Grw w1 wr) (fun _ c _ => n - (intOf c).toNat)
  case atStart => exact ⟨0, Nat.zero_le _, rfl, Own.nil _ _, Grw.rfl' _⟩
  case round =>
    obtain ⟨k, hk, rfl, hown, hg⟩ := hrel
    have hsz := Below.size hg
    have hlf : ((fl k f).filter (fun z => decide (z ≠ i))).length ≤ k := Nat.le_trans (List.length_filter_le _ _) (by rw [fl_len]; exact Nat.le_refl _)
    by_cases hk' : k < n
    · have hki : (k : Int) < (n : Int) := by omega
      obtain ⟨b, off, rfl, hc⟩ := (R.out.later hg).at (by omega : 0 < n)
      have hcx := hc k hk'
      have hs : (fl (k + 1) f).filter (fun z => decide (z ≠ i)) = (fl k f).filter (fun z => decide (z ≠ i)) ++ [f k].filter (fun z => decide (z ≠ i)) := by rw [fl_succ, List.filter_append]
      obtain ⟨z, hz⟩ : ∃ z, f k = z := ⟨_, rfl⟩
      rw [hz] at hcx hs
      obtain ⟨l, hle⟩ : ∃ l, (fl k f).filter (fun z => decide (z ≠ i)) = l := ⟨_, rfl⟩
      rw [hle] at hs hown hlf
      have Q := Lib.hid (And.intro hown hg)
      clear hc hz hown hg hle
      by_cases hzi : z = i
      · have ht : (z != i) = false := by simp [hzi]
        rw [show [z].filter (fun z => decide (z ≠ i)) = [] by simp [hzi], List.append_nil] at hs
        have S := Lib.hid hs
        clear hzi hs
        go_wp2_with fail
        go_roundw
        case rel => exact ⟨k + 1, by omega, by go_num, by rw [S.out]; exact Q.out.1, Q.out.2⟩
        case measure => simp [intOf]; omega
      · have ht : (z != i) = true := by simp [hzi]
        rw [show [z].filter (fun z => decide (z ≠ i)) = [z] by simp [hzi]] at hs
        have S := Lib.hid hs
        clear hzi hs
        go_wp2_with (at_builtin; refine wpList_append_own _ rfl _ _ 23 rfl w1.heap.size 3 i0 (.int .i64 0) 1 8 Tryd.underlying23 hi hz0 hz1 hz2 rfl (by decide) _ _ _ rfl (World.ownsRow.alloc Q.out.1 _) ⟨wr.heap.size, 0, none⟩ 1 1 [.int .i64 z] rfl rfl (one_cell _ _) (int_cells [z]) (by unfold maxLen; omega) (by omega) (by simp; omega) ?_)
        intro v' w2 hown' hgrow _
        have U := Lib.hid (own_append (news := [z]) Q.out.2 Q.out.1 hown' hgrow)
        clear hown' hgrow
        go_wp2_with fail
        go_roundw
        case rel => exact ⟨k + 1, by omega, by go_num, by rw [S.out]; exact U.out.2, U.out.1⟩
        case measure => simp [intOf]; omega
    · have hki : ¬ (k : Int) < (n : Int) := by omega
      have hke : k = n := by omega
      subst hke
      have B := Lib.hid (rof_list (by omega) hown.row)
      have Q := Lib.hid (G.out.trans hg)
      rw [V.out] at B
      clear hown hg hlf
      go_wp2_with fail
      refine B.out.mono ?_
      rintro _ w3 ⟨rfl, hw3⟩
      have H := Lib.hid (Q.out.trans hw3)
      clear hw3
      go_wp2_with fail
      go_ret
      exact ⟨rfl, H.out⟩
end Go.Proofs.YtdbjfebpondbmaaDoor
