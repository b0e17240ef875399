/- The contracts of cycle.Print and cycle.When at this program. -/
import Derived.Test.YtcdfjheklggfhaaDoorXb
import Derived.Test.YtcdfjheklggfhaaDoorWp
import Derived.Test.YtcdfjheklggfhaaDoorMf
namespace Go.Proofs.YtcdfjheklggfhaaDoor
open Go.RowKit SM Go.Sort
set_option linter.unusedSimpArgs false

theorem grw_grow (w : World) (k : Nat) (os : Array Obj) : Grw w (grow (w.drewN k) os) := by
  refine ⟨rfl, rfl, rfl, ?_, fun i hi => ?_⟩
  · simp [grow, World.drewN]
  · simp [grow, World.drewN, Array.getElem?_append, hi]

theorem itoa_ba (n : Nat) (b : ByteArray) (w : World) (h : n ≤ 1000000) (t : Tab w) (hb : b.data.toList = Lib.decDigits n) :
    Calls Tryd.prog 27 #[.int .i64 n] w fun e w' => e = .returned (.string b) ∧ Grw w w' := by
  have e : (⟨(Lib.itoa n).toArray⟩ : ByteArray) = b := ba_ext (by rw [hb]; simp [Lib.itoa])
  have g := Tryd.strconv_Itoa n (by omega) (by omega) w t
  rw [e] at g
  refine g.mono ?_
  rintro _ _ ⟨rfl, k, os, rfl⟩
  exact ⟨rfl, grw_grow w k os⟩

theorem good_of {n x : Nat} (h1 : 1 ≤ n) (h2 : n ≤ 1000000) (h3 : 1 ≤ x) (h4 : x ≤ top) : goodB n x = true := by
  unfold top at h4
  exact decide_eq_true ⟨by omega, by omega, h3, h4⟩

set_option maxHeartbeats 1000000 in
set_option maxRecDepth 100000 in
theorem cprint_no (n : Int) (x : Nat) (w : World) (h0 : -9223372036854775808 ≤ n) (h5 : n ≤ 9223372036854775807) (h6 : x < 18446744073709551616) (h : goodB n x = false) :
    Calls Tryd.prog 11 #[.agg #[.int .i64 n, .int .u64 x]] w fun e w' => e = .returned (.tuple #[.string ⟨#[]⟩, .bool false]) ∧ Grw w w' := by
  have E := fun w => good_any n x w h0 h5 h6
  rw [h] at E
  replace E := Lib.hid E
  clear h
  go_enter Tryd.func11, Tryd.ntmps11
  go_wp2_with fail
  refine (E.out _).mono ?_
  rintro _ w1 ⟨rfl, hw1⟩
  go_wp2_with fail
  go_ret2
  exact ⟨rfl, hw1.two⟩

set_option maxHeartbeats 1000000 in
set_option maxRecDepth 100000 in
theorem cprint_yes (n x : Nat) (b : ByteArray) (w : World) (h1 : 1 ≤ n) (h2 : n ≤ 1000000) (h3 : 1 ≤ x) (h4 : x ≤ top) (t : Tab w) (hb : b.data.toList = cycS n x) :
    Calls Tryd.prog 11 #[.agg #[.int .i64 n, .int .u64 x]] w fun e w' => e = .returned (.tuple #[.string b, .bool true]) ∧ Grw w w' := by
  have E := fun w => good_any n x w (by omega) (by omega) (by unfold top at h4; omega)
  rw [good_of h1 h2 h3 h4] at E
  replace E := Lib.hid E
  obtain ⟨p, hp⟩ := ba_of (printS x)
  obtain ⟨i, hi⟩ := ba_of (Lib.decDigits n)
  have P := Lib.hid (fun w' (g : Grw w w') => print_yes x p w' h4 (tab_grw g t) hp)
  have I := Lib.hid (fun w' (g : Grw w w') => itoa_ba n i w' h2 (tab_grw g t) hi)
  have zp : (p.size : Int) ≤ 40 := by have := print_len x h4; rw [← hp, ← size_len] at this; omega
  have zi : (i.size : Int) ≤ 7 := by have := dec_le n 7 (by omega) (by omega); rw [← hi, ← size_len] at this; omega
  have q1 : (((⟨#[82]⟩ : ByteArray).size : Nat) : Int) ≤ 8388608 := by rw [size_len]; simp
  have q2 : (((⟨#[47]⟩ : ByteArray).size : Nat) : Int) ≤ 8388608 := by rw [size_len]; simp
  have eb : b = ⟨#[82]⟩ ++ i ++ ⟨#[47]⟩ ++ p := ba_ext (by rw [hb, ba_app, ba_app, ba_app, hp, hi]; simp [cycS])
  have EB := Lib.hid eb
  clear hb eb hp hi t h4
  go_enter Tryd.func11, Tryd.ntmps11
  go_wp2_with fail
  refine (E.out _).mono ?_
  rintro _ w1 ⟨rfl, hw1⟩
  have T := Two.grown hw1
  have G := hw1.two
  have c0 := T.c0
  have c1 := T.c1
  clear T hw1 E
  go_wp2_with fail
  refine (P.out _ G).mono ?_
  rintro _ w2 ⟨rfl, hw2⟩
  have G2 := Grw.trans G hw2
  replace c0 := hw2.cell c0
  replace c1 := hw2.cell c1
  clear hw2 G P
  go_wp2_with fail
  refine (I.out _ G2).mono ?_
  rintro _ w3 ⟨rfl, hw3⟩
  go_wp2_with fail
  rw [EB.out]
  go_ret2
  exact ⟨rfl, Grw.trans G2 hw3⟩

/-- a round's time. -/
def whenB (n : Int) (x f : Nat) (k : Int) : Bool := goodB n x && decide (1 ≤ k ∧ k ≤ n) && decide (f + k.toNat * x < 18446744073709551616)
def whenV (n : Int) (x f : Nat) (k : Int) : Nat := if whenB n x f k then f + k.toNat * x else 0
theorem when_no {n : Int} {x f : Nat} {k : Int} (h : whenB n x f k = false) : whenV n x f k = 0 := by unfold whenV; rw [h]; rfl
theorem when_yes {n : Int} {x f : Nat} {k : Int} (h : whenB n x f k = true) : whenV n x f k = f + k.toNat * x := by unfold whenV; rw [h]; rfl

set_option maxHeartbeats 1000000 in
set_option maxRecDepth 100000 in
theorem when_bad (n : Int) (x f : Nat) (k : Int) (w : World) (h0 : -9223372036854775808 ≤ n) (h5 : n ≤ 9223372036854775807) (h6 : x < 18446744073709551616) (h : goodB n x = false) :
    Calls Tryd.prog 12 #[.agg #[.int .i64 n, .int .u64 x], .int .u64 f, .int .i64 k] w fun e w' => e = .returned (.tuple #[.int .u64 0, .bool false]) ∧ Grw w w' := by
  have E := fun w => good_any n x w h0 h5 h6
  rw [h] at E
  replace E := Lib.hid E
  clear h
  go_enter Tryd.func12, Tryd.ntmps12
  go_wp2_with fail
  refine (E.out _).mono ?_
  rintro _ w1 ⟨rfl, hw1⟩
  go_wp2_with fail
  go_ret2
  exact ⟨rfl, hw1.two⟩

set_option maxHeartbeats 1000000 in
set_option maxRecDepth 100000 in
theorem when_off (n : Int) (x f : Nat) (k : Int) (w : World) (h0 : -9223372036854775808 ≤ n) (h5 : n ≤ 9223372036854775807) (h6 : x < 18446744073709551616) (h : goodB n x = true) (hk : ¬ (1 ≤ k ∧ k ≤ n)) :
    Calls Tryd.prog 12 #[.agg #[.int .i64 n, .int .u64 x], .int .u64 f, .int .i64 k] w fun e w' => e = .returned (.tuple #[.int .u64 0, .bool false]) ∧ Grw w w' := by
  have E := fun w => good_any n x w h0 h5 h6
  rw [h] at E
  replace E := Lib.hid E
  clear h
  by_cases hk1 : k < 1
  · clear hk
    go_enter Tryd.func12, Tryd.ntmps12
    go_wp2_with fail
    refine (E.out _).mono ?_
    rintro _ w1 ⟨rfl, hw1⟩
    go_wp2_with fail
    go_ret2
    exact ⟨rfl, hw1.two⟩
  · have hk2 : n < k := by omega
    clear hk
    have hk3 : decide (k < 1) = false := decide_eq_false hk1
    go_enter Tryd.func12, Tryd.ntmps12
    go_wp2_with fail
    refine (E.out _).mono ?_
    rintro _ w1 ⟨rfl, hw1⟩
    have T := Two.grown hw1
    have G := hw1.two
    have c0 := T.c0
    clear T hw1 E
    go_wp2_with fail
    go_ret2
    exact ⟨rfl, G⟩

set_option maxHeartbeats 1000000 in
set_option maxRecDepth 100000 in
theorem when_times (n x f k : Nat) (w : World) (h6 : x < 18446744073709551616) (h : goodB n x = true) (hk1 : 1 ≤ k) (hk2 : k ≤ n) (m : ¬ k * x < 18446744073709551616) :
    Calls Tryd.prog 12 #[.agg #[.int .i64 n, .int .u64 x], .int .u64 f, .int .i64 k] w fun e w' => e = .returned (.tuple #[.int .u64 0, .bool false]) ∧ Grw w w' := by
  have hh := of_decide_eq_true h
  obtain ⟨g1, g2, g3, g4⟩ := hh
  have E := fun w => good_any n x w (by omega) (by omega) h6
  rw [h] at E
  replace E := Lib.hid E
  have ek : (k : Int) * x = ((k * x : Nat) : Int) := by simp
  have M := Lib.hid (fun w => times_no k x w ⟨by omega, by omega⟩ ⟨by omega, by omega⟩ (by rw [ek]; omega))
  have k1 : ¬ (k : Int) < 1 := by omega
  have k2 : ¬ (n : Int) < k := by omega
  have k3 : ¬ n < k := by omega
  clear h ek m
  go_enter Tryd.func12, Tryd.ntmps12
  go_wp2_with fail
  refine (E.out _).mono ?_
  rintro _ w1 ⟨rfl, hw1⟩
  have T := Two.grown hw1
  have G := hw1.two
  have c0 := T.c0
  have c1 := T.c1
  clear T hw1 E
  go_wp2_with fail
  refine (M.out _).mono ?_
  rintro _ _ ⟨rfl, rfl⟩
  go_wp2_with fail
  go_ret2
  exact ⟨rfl, G⟩

set_option maxHeartbeats 1000000 in
set_option maxRecDepth 100000 in
theorem when_sum (n x f k m v : Nat) (b : Bool) (w : World) (h6 : x < 18446744073709551616) (h : goodB n x = true) (hk1 : 1 ≤ k) (hk2 : k ≤ n) (hm : k * x = m) (hm2 : m < 18446744073709551616)
    (S' : ∀ w, Calls Tryd.prog 29 #[.int .u64 f, .int .u64 m] w fun e w' => e = .returned (.tuple #[.int .u64 v, .bool b]) ∧ w = w') :
    Calls Tryd.prog 12 #[.agg #[.int .i64 n, .int .u64 x], .int .u64 f, .int .i64 k] w fun e w' => e = .returned (.tuple #[.int .u64 v, .bool b]) ∧ Grw w w' := by
  have hh := of_decide_eq_true h
  obtain ⟨g1, g2, g3, g4⟩ := hh
  have E := fun w => good_any n x w (by omega) (by omega) h6
  rw [h] at E
  replace E := Lib.hid E
  have ek : (k : Int) * x = ((m : Nat) : Int) := by rw [← hm]; simp
  have M := fun w => times_yes k x w ⟨by omega, by omega⟩ ⟨by omega, by omega⟩ (by rw [ek]; omega)
  rw [ek] at M
  replace M := Lib.hid M
  have S := Lib.hid S'
  have k1 : ¬ (k : Int) < 1 := by omega
  have k2 : ¬ (n : Int) < k := by omega
  have k3 : ¬ n < k := by omega
  clear h ek S' hm
  go_enter Tryd.func12, Tryd.ntmps12
  go_wp2_with fail
  refine (E.out _).mono ?_
  rintro _ w1 ⟨rfl, hw1⟩
  have T := Two.grown hw1
  have G := hw1.two
  have c0 := T.c0
  have c1 := T.c1
  clear T hw1 E
  go_wp2_with fail
  refine (M.out _).mono ?_
  rintro _ _ ⟨rfl, rfl⟩
  go_wp2_with fail
  refine (S.out _).mono ?_
  rintro _ _ ⟨rfl, rfl⟩
  go_wp2_with fail
  go_ret2
  exact ⟨rfl, G⟩

theorem when_any (n : Int) (x f : Nat) (k : Int) (w : World) (h0 : -9223372036854775808 ≤ n) (h5 : n ≤ 9223372036854775807) (h6 : x < 18446744073709551616) (hf : f < 18446744073709551616) :
    Calls Tryd.prog 12 #[.agg #[.int .i64 n, .int .u64 x], .int .u64 f, .int .i64 k] w fun e w' => e = .returned (.tuple #[.int .u64 (whenV n x f k), .bool (whenB n x f k)]) ∧ Grw w w' := by
  rcases h : goodB n x with _ | _
  · have e : whenB n x f k = false := by unfold whenB; rw [h]; rfl
    rw [when_no e, e]; exact when_bad n x f k w h0 h5 h6 h
  · by_cases hk : 1 ≤ k ∧ k ≤ n
    · obtain ⟨j, rfl⟩ := Int.eq_ofNat_of_zero_le (show 0 ≤ k by omega)
      obtain ⟨m, rfl⟩ := Int.eq_ofNat_of_zero_le (show 0 ≤ n by omega)
      have ej : ((j : Nat) : Int).toNat = j := by simp
      by_cases ht : j * x < 18446744073709551616
      · by_cases hs : f + j * x < 18446744073709551616
        · have e : whenB m x f j = true := by unfold whenB; rw [h, decide_eq_true hk, ej, decide_eq_true hs]; rfl
          rw [when_yes e, e, ej]
          refine when_sum m x f j _ _ true w h6 h (by omega) (by omega) rfl ht ?_
          have g := fun w => sum_yes f ((j * x : Nat) : Int) w (by omega) (by omega) (by omega)
          have e2 : (f : Int) + ((j * x : Nat) : Int) = ((f + j * x : Nat) : Int) := by omega
          rw [e2] at g; exact g
        · have e : whenB m x f j = false := by unfold whenB; rw [ej, decide_eq_false hs]; simp
          rw [when_no e, e]
          exact when_sum m x f j _ 0 false w h6 h (by omega) (by omega) rfl ht (fun w => sum_no f ((j * x : Nat) : Int) w ⟨by omega, by omega⟩ ⟨by omega, by omega⟩ (by omega))
      · have e : whenB m x f j = false := by unfold whenB; rw [ej, decide_eq_false (by omega : ¬ f + j * x < 18446744073709551616)]; simp
        rw [when_no e, e]
        exact when_times m x f j w h6 h (by omega) (by omega) ht
    · have e : whenB n x f k = false := by unfold whenB; rw [h, decide_eq_false hk]; rfl
      rw [when_no e, e]; exact when_off n x f k w h0 h5 h6 h hk
end Go.Proofs.YtcdfjheklggfhaaDoor
