/- The contracts of cycle.Past and of the document's own Good and Past at this program. -/
import Derived.Test.YtcdfjheklggfhaaDoorXa
import Derived.Test.YtcdfjheklggfhaaDoorCells
import Derived.RegionTactic
namespace Go.Proofs.YtcdfjheklggfhaaDoor
open Go.RowKit SM
set_option linter.unusedSimpArgs false

set_option maxHeartbeats 1000000 in
theorem rgood_any (n : Int) (x : Nat) (w : World) :
    Calls Tryd.prog 14 #[.agg #[.int .i64 n, .int .u64 x]] w fun e w' => e = .returned (.bool (goodB n x)) ∧ Grw w w' := by
  by_cases h1 : 1 ≤ n
  · by_cases h2 : n ≤ 1000000
    · by_cases h3 : (1 : Int) ≤ x
      · have e : goodB n x = decide ((x : Int) ≤ 1125899906842624) := by
          unfold goodB; rw [decide_eq_decide]; omega
        rw [e]
        clear e
        go_enter Tryd.func14, Tryd.ntmps14
        go_wp2_with fail
        go_ret
        exact ⟨rfl, (Grw.rfl' _).alloc _⟩
      · have e : goodB n x = false := decide_eq_false (by omega)
        rw [e]
        clear e
        have h3' : decide ((1 : Int) ≤ x) = false := decide_eq_false h3
        go_enter Tryd.func14, Tryd.ntmps14
        go_wp2_with fail
        go_ret
        exact ⟨rfl, (Grw.rfl' _).alloc _⟩
    · have e : goodB n x = false := decide_eq_false (by omega)
      rw [e]
      clear e
      have h3' : decide (n ≤ 1000000) = false := decide_eq_false h2
      go_enter Tryd.func14, Tryd.ntmps14
      go_wp2_with fail
      go_ret
      exact ⟨rfl, (Grw.rfl' _).alloc _⟩
  · have e : goodB n x = false := decide_eq_false (by omega)
    rw [e]
    clear e
    have h3' : decide (1 ≤ n) = false := decide_eq_false h1
    go_enter Tryd.func14, Tryd.ntmps14
    go_wp2_with fail
    go_ret
    exact ⟨rfl, (Grw.rfl' _).alloc _⟩

/-- how many rounds are over. -/
def pastV (n : Int) (x f t : Nat) : Nat := if goodB n x then (if t < f then 0 else min ((t - f) / x) n.toNat) else 0

set_option maxHeartbeats 1000000 in
set_option maxRecDepth 100000 in
theorem past_bad (n : Int) (x f t : Nat) (w : World) (h0 : -9223372036854775808 ≤ n) (h5 : n ≤ 9223372036854775807) (h6 : x < 18446744073709551616) (h : goodB n x = false) :
    Calls Tryd.prog 17 #[.agg #[.int .i64 n, .int .u64 x], .int .u64 f, .int .u64 t] w fun e w' => e = .returned (.int .i64 0) ∧ Grw w w' := by
  have E := fun w => good_any n x w h0 h5 h6
  rw [h] at E
  replace E := Lib.hid E
  clear h
  go_enter Tryd.func17, Tryd.ntmps17
  go_wp2_with fail
  refine (E.out _).mono ?_
  rintro _ w1 ⟨rfl, hw1⟩
  go_wp2_with fail
  go_ret
  exact ⟨rfl, hw1.two⟩

set_option maxHeartbeats 1000000 in
set_option maxRecDepth 100000 in
theorem past_early (n : Nat) (x f t : Nat) (w : World) (h6 : x < 18446744073709551616) (h : goodB n x = true) (ht : (t : Int) < f) :
    Calls Tryd.prog 17 #[.agg #[.int .i64 n, .int .u64 x], .int .u64 f, .int .u64 t] w fun e w' => e = .returned (.int .i64 0) ∧ Grw w w' := by
  have hh := of_decide_eq_true h
  have E := fun w => good_any n x w (by omega) (by omega) h6
  rw [h] at E
  replace E := Lib.hid E
  clear h
  go_enter Tryd.func17, Tryd.ntmps17
  go_wp2_with fail
  refine (E.out _).mono ?_
  rintro _ w1 ⟨rfl, hw1⟩
  go_wp2_with fail
  go_ret
  exact ⟨rfl, hw1.two⟩

set_option maxHeartbeats 1000000 in
set_option maxRecDepth 100000 in
theorem past_late (n : Nat) (x f t q : Nat) (w : World) (h6 : x < 18446744073709551616) (h : goodB n x = true) (ht : ¬ (t : Int) < f) (htt : t < 18446744073709551616) (hq : (t - f) / x = q) :
    Calls Tryd.prog 17 #[.agg #[.int .i64 n, .int .u64 x], .int .u64 f, .int .u64 t] w fun e w' => e = .returned (.int .i64 (min q n : Nat)) ∧ Grw w w' := by
  have hh := of_decide_eq_true h
  obtain ⟨h1, h2, h3, h4⟩ := hh
  have E := fun w => good_any n x w (by omega) (by omega) h6
  rw [h] at E
  replace E := Lib.hid E
  have hx0 : (x : Int) ≠ 0 := by omega
  have hx1 : ¬ x = 0 := by omega
  have ht' : ¬ t < f := by omega
  have htd : decide (t < f) = false := decide_eq_false ht'
  have e0 : (t : Int) - f = ((t - f : Nat) : Int) := by omega
  have hq' : ((t : Int) - f) / x = q := by rw [← hq, e0]; exact (Int.natCast_ediv _ _).symm
  have hqq : q ≤ t - f := by rw [← hq]; exact Nat.div_le_self _ _
  have f1 : IntKind.u64.wrap ((t : Int) - f) = t - f := by rw [IntKind.wrap_u64]; omega
  have f2 : ((t : Int) - f).tdiv x = q := by rw [Int.tdiv_eq_ediv_of_nonneg (by omega)]; exact hq'
  have f3 : IntKind.u64.wrap (q : Int) = q := by rw [IntKind.wrap_u64]; omega
  have f4 : IntKind.u64.wrap (n : Int) = n := by rw [IntKind.wrap_u64]; omega
  clear h e0 hq hqq hq' h6 htt h4
  by_cases hm : n < q
  · have e : min q n = n := by omega
    rw [e]
    clear e
    go_enter Tryd.func17, Tryd.ntmps17
    go_wp2_with fail
    refine (E.out _).mono ?_
    rintro _ w1 ⟨rfl, hw1⟩
    have T := Two.grown hw1
    have G := hw1.two
    have c0 := T.c0
    have c1 := T.c1
    clear T hw1 E
    go_wp2_with fail
    have p0 := gw_cell c0
    have p1 := gw_cell c1
    refine wp_region_grown (by kernel_rfl) (by kernel_rfl) ?_
    repeat (go_big_quiet_step (fail))
    refine wpQuiet_nil ?_
    rintro _ ⟨q', rfl⟩
    have hq' := q'.h
    clear p0 p1 c0 c1
    go_wp2_with fail
    go_ret
    exact ⟨rfl, G.trans hq'⟩
  · have e : min q n = q := by omega
    rw [e]
    clear e
    go_enter Tryd.func17, Tryd.ntmps17
    go_wp2_with fail
    refine (E.out _).mono ?_
    rintro _ w1 ⟨rfl, hw1⟩
    have T := Two.grown hw1
    have G := hw1.two
    have c0 := T.c0
    have c1 := T.c1
    clear T hw1 E
    go_wp2_with fail
    have p0 := gw_cell c0
    have p1 := gw_cell c1
    refine wp_region_grown (by kernel_rfl) (by kernel_rfl) ?_
    repeat (go_big_quiet_step (fail))
    refine wpQuiet_nil ?_
    rintro _ ⟨q', rfl⟩
    have hq' := q'.h
    clear p0 p1 c0 c1
    go_wp2_with fail
    go_ret
    exact ⟨rfl, G.trans hq'⟩

theorem past_any (n : Int) (x f t : Nat) (w : World) (h0 : -9223372036854775808 ≤ n) (h5 : n ≤ 9223372036854775807) (h6 : x < 18446744073709551616) (htt : t < 18446744073709551616) :
    Calls Tryd.prog 17 #[.agg #[.int .i64 n, .int .u64 x], .int .u64 f, .int .u64 t] w fun e w' => e = .returned (.int .i64 (pastV n x f t)) ∧ Grw w w' := by
  rcases h : goodB n x with _ | _
  · have e : pastV n x f t = 0 := by unfold pastV; rw [h]; rfl
    rw [e]; exact past_bad n x f t w h0 h5 h6 h
  · have hh := of_decide_eq_true h
    obtain ⟨m, rfl⟩ := Int.eq_ofNat_of_zero_le (show 0 ≤ n by omega)
    by_cases ht : t < f
    · have e : pastV m x f t = 0 := by unfold pastV; rw [h, if_pos rfl, if_pos ht]
      rw [e]; exact past_early m x f t w h6 h (by omega)
    · have e : pastV m x f t = min ((t - f) / x) m := by unfold pastV; rw [h, if_pos rfl, if_neg ht]; rfl
      rw [e]; exact past_late m x f t _ w h6 h (by omega) htt rfl

theorem rgood_of (n : Int) (x : Nat) (w : World) (_ : -9223372036854775808 ≤ n) (_ : n ≤ 9223372036854775807) (_ : x < 18446744073709551616) :
    Calls Tryd.prog 14 #[.agg #[.int .i64 n, .int .u64 x]] w fun e w' => e = .returned (.bool (goodB n x)) ∧ Grw w w' := rgood_any n x w

set_option maxHeartbeats 1000000 in
set_option maxRecDepth 100000 in
theorem rpast_bad (n : Int) (x f t : Nat) (w : World) (h0 : -9223372036854775808 ≤ n) (h5 : n ≤ 9223372036854775807) (h6 : x < 18446744073709551616) (h : goodB n x = false) :
    Calls Tryd.prog 18 #[.agg #[.int .i64 n, .int .u64 x], .int .u64 f, .int .u64 t] w fun e w' => e = .returned (.int .i64 0) ∧ Grw w w' := by
  have E := fun w => rgood_of n x w h0 h5 h6
  rw [h] at E
  replace E := Lib.hid E
  clear h
  go_enter Tryd.func18, Tryd.ntmps18
  go_wp2_with fail
  refine (E.out _).mono ?_
  rintro _ w1 ⟨rfl, hw1⟩
  go_wp2_with fail
  go_ret
  exact ⟨rfl, hw1.two⟩

set_option maxHeartbeats 1000000 in
set_option maxRecDepth 100000 in
theorem rpast_early (n : Nat) (x f t : Nat) (w : World) (h6 : x < 18446744073709551616) (h : goodB n x = true) (ht : (t : Int) < f) :
    Calls Tryd.prog 18 #[.agg #[.int .i64 n, .int .u64 x], .int .u64 f, .int .u64 t] w fun e w' => e = .returned (.int .i64 0) ∧ Grw w w' := by
  have hh := of_decide_eq_true h
  have E := fun w => rgood_of n x w (by omega) (by omega) h6
  rw [h] at E
  replace E := Lib.hid E
  clear h
  go_enter Tryd.func18, Tryd.ntmps18
  go_wp2_with fail
  refine (E.out _).mono ?_
  rintro _ w1 ⟨rfl, hw1⟩
  go_wp2_with fail
  go_ret
  exact ⟨rfl, hw1.two⟩

set_option maxHeartbeats 1000000 in
set_option maxRecDepth 100000 in
theorem rpast_late (n : Nat) (x f t q : Nat) (w : World) (h6 : x < 18446744073709551616) (h : goodB n x = true) (ht : ¬ (t : Int) < f) (htt : t < 18446744073709551616) (hq : (t - f) / x = q) :
    Calls Tryd.prog 18 #[.agg #[.int .i64 n, .int .u64 x], .int .u64 f, .int .u64 t] w fun e w' => e = .returned (.int .i64 (min q n : Nat)) ∧ Grw w w' := by
  have hh := of_decide_eq_true h
  obtain ⟨h1, h2, h3, h4⟩ := hh
  have E := fun w => rgood_of n x w (by omega) (by omega) h6
  rw [h] at E
  replace E := Lib.hid E
  have hx0 : (x : Int) ≠ 0 := by omega
  have hx1 : ¬ x = 0 := by omega
  have ht' : ¬ t < f := by omega
  have htd : decide (t < f) = false := decide_eq_false ht'
  have e0 : (t : Int) - f = ((t - f : Nat) : Int) := by omega
  have hq' : ((t : Int) - f) / x = q := by rw [← hq, e0]; exact (Int.natCast_ediv _ _).symm
  have hqq : q ≤ t - f := by rw [← hq]; exact Nat.div_le_self _ _
  have f1 : IntKind.u64.wrap ((t : Int) - f) = t - f := by rw [IntKind.wrap_u64]; omega
  have f2 : ((t : Int) - f).tdiv x = q := by rw [Int.tdiv_eq_ediv_of_nonneg (by omega)]; exact hq'
  have f3 : IntKind.u64.wrap (q : Int) = q := by rw [IntKind.wrap_u64]; omega
  have f4 : IntKind.u64.wrap (n : Int) = n := by rw [IntKind.wrap_u64]; omega
  clear h e0 hq hqq hq' h6 htt h4
  by_cases hm : n < q
  · have e : min q n = n := by omega
    rw [e]
    clear e
    go_enter Tryd.func18, Tryd.ntmps18
    go_wp2_with fail
    refine (E.out _).mono ?_
    rintro _ w1 ⟨rfl, hw1⟩
    have T := Two.grown hw1
    have G := hw1.two
    have c0 := T.c0
    have c1 := T.c1
    clear T hw1 E
    go_wp2_with fail
    have p0 := gw_cell c0
    have p1 := gw_cell c1
    refine wp_region_grown (by kernel_rfl) (by kernel_rfl) ?_
    repeat (go_big_quiet_step (fail))
    refine wpQuiet_nil ?_
    rintro _ ⟨q', rfl⟩
    have hq' := q'.h
    clear p0 p1 c0 c1
    go_wp2_with fail
    go_ret
    exact ⟨rfl, G.trans hq'⟩
  · have e : min q n = q := by omega
    rw [e]
    clear e
    go_enter Tryd.func18, Tryd.ntmps18
    go_wp2_with fail
    refine (E.out _).mono ?_
    rintro _ w1 ⟨rfl, hw1⟩
    have T := Two.grown hw1
    have G := hw1.two
    have c0 := T.c0
    have c1 := T.c1
    clear T hw1 E
    go_wp2_with fail
    have p0 := gw_cell c0
    have p1 := gw_cell c1
    refine wp_region_grown (by kernel_rfl) (by kernel_rfl) ?_
    repeat (go_big_quiet_step (fail))
    refine wpQuiet_nil ?_
    rintro _ ⟨q', rfl⟩
    have hq' := q'.h
    clear p0 p1 c0 c1
    go_wp2_with fail
    go_ret
    exact ⟨rfl, G.trans hq'⟩

theorem rpast_any (n : Int) (x f t : Nat) (w : World) (h0 : -9223372036854775808 ≤ n) (h5 : n ≤ 9223372036854775807) (h6 : x < 18446744073709551616) (htt : t < 18446744073709551616) :
    Calls Tryd.prog 18 #[.agg #[.int .i64 n, .int .u64 x], .int .u64 f, .int .u64 t] w fun e w' => e = .returned (.int .i64 (pastV n x f t)) ∧ Grw w w' := by
  rcases h : goodB n x with _ | _
  · have e : pastV n x f t = 0 := by unfold pastV; rw [h]; rfl
    rw [e]; exact rpast_bad n x f t w h0 h5 h6 h
  · have hh := of_decide_eq_true h
    obtain ⟨m, rfl⟩ := Int.eq_ofNat_of_zero_le (show 0 ≤ n by omega)
    by_cases ht : t < f
    · have e : pastV m x f t = 0 := by unfold pastV; rw [h, if_pos rfl, if_pos ht]
      rw [e]; exact rpast_early m x f t w h6 h (by omega)
    · have e : pastV m x f t = min ((t - f) / x) m := by unfold pastV; rw [h, if_pos rfl, if_neg ht]; rfl
      rw [e]; exact rpast_late m x f t _ w h6 h (by omega) htt rfl
end Go.Proofs.YtcdfjheklggfhaaDoor
