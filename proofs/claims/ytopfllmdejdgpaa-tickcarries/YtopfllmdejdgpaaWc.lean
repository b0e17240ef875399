/- The contracts of tick.Digits and tick.Top and of the law's own wakes at this program. -/
import Derived.Test.YtopfllmdejdgpaaWb
import Derived.Test.YtopfllmdejdgpaaGrow
namespace Go.Proofs.Ytopfllmdejdgpaa
open Go.RowKit TM
def dcells (x : Int) (k : Nat) : Array Value := ((List.range 11).map fun i => Value.int .i64 (if i < k then dig x i else 0)).toArray

theorem dcells_get (x : Int) (k i : Nat) (h : i < 11) : (dcells x k)[i]? = some (.int .i64 (if i < k then dig x i else 0)) := by
  unfold dcells; simp [h]
theorem dcells_set (x : Int) (k : Nat) (h : k < 11) : (dcells x k).setIfInBounds k (.int .i64 (dig x k)) = dcells x (k + 1) := by
  apply Array.ext_getElem?
  intro i
  rw [Array.getElem?_setIfInBounds]
  by_cases hi : i < 11
  · rw [dcells_get x (k+1) i hi]
    by_cases e : k = i
    · subst e; simp [dcells, h]
    · rw [if_neg e, dcells_get x k i hi]
      by_cases hh : i < k
      · rw [if_pos hh, if_pos (by omega)]
      · rw [if_neg hh, if_neg (by omega)]
  · have h1 : (dcells x (k+1))[i]? = none := by simp [dcells]; omega
    have h2 : (dcells x k)[i]? = none := by simp [dcells]; omega
    rw [h1, h2, if_neg (by omega)]
theorem dcells_zero (x : Int) : dcells x 0 = #[.int .i64 0, .int .i64 0, .int .i64 0, .int .i64 0, .int .i64 0, .int .i64 0, .int .i64 0, .int .i64 0, .int .i64 0, .int .i64 0, .int .i64 0] := by
  simp [dcells, List.range, List.range.loop]
theorem dcells_all (x : Int) : dcells x 11 = #[.int .i64 (dig x 0), .int .i64 (dig x 1), .int .i64 (dig x 2), .int .i64 (dig x 3), .int .i64 (dig x 4), .int .i64 (dig x 5), .int .i64 (dig x 6), .int .i64 (dig x 7), .int .i64 (dig x 8), .int .i64 (dig x 9), .int .i64 (dig x 10)] := by
  simp [dcells, List.range, List.range.loop]
set_option maxHeartbeats 400000 in
theorem digits_any (x : Int) (w : World) (hx : Wd x) :
    Calls Try.prog 16 #[.int .u64 x] w fun e w' => e = .returned (.agg #[.int .i64 (dig x 0), .int .i64 (dig x 1), .int .i64 (dig x 2), .int .i64 (dig x 3), .int .i64 (dig x 4), .int .i64 (dig x 5), .int .i64 (dig x 6), .int .i64 (dig x 7), .int .i64 (dig x 8), .int .i64 (dig x 9), .int .i64 (dig x 10)]) ∧ ∃ c1 c2 : Array Value, w' = (w.alloc (.cells c1 23)).alloc (.cells c2 23) := by
  obtain ⟨hx, hx'⟩ := hx
  go_enter Try.func16, Try.ntmps16
  go_wp2
  go_loopw [0, 5] (fun v i wr => ∃ k : Nat, k ≤ 11 ∧ i = .int .i64 k ∧ v = .int .u64 (x / 64 ^ k) ∧ wr = (w.alloc (.cells #[.int .i64 0, .int .i64 0, .int .i64 0, .int .i64 0, .int .i64 0, .int .i64 0, .int .i64 0, .int .i64 0, .int .i64 0, .int .i64 0, .int .i64 0] 23)).alloc (.cells (dcells x k) 23)) (fun _ i _ => 11 - (intOf i).toNat)
  case atStart => exact ⟨0, by omega, rfl, by simp, by rw [dcells_zero]⟩
  case round =>
    obtain ⟨k, hk, rfl, rfl, rfl⟩ := hrel
    have q0 : 0 ≤ x / 64 ^ k := Int.ediv_nonneg hx (Int.le_of_lt (p64 k))
    have q1 : x / 64 ^ k < 18446744073709551616 := Int.lt_of_le_of_lt (Int.ediv_le_self _ hx) hx'
    have hs := quo_succ x k
    have hset := dcells_set x k
    have hd : dig x k = x / 64 ^ k % 64 := rfl
    by_cases hlt : k < 11
    · have hg := dcells_get x k k hlt
      have hset := hset hlt
      rw [if_neg (by omega)] at hg
      obtain ⟨q, hq⟩ : ∃ q, q = x / 64 ^ k := ⟨_, rfl⟩
      rw [← hq] at q0 q1 hs hd ⊢
      have HS := Lib.hid hs
      have HD := Lib.hid hd
      have HE := Lib.hid hset
      clear hs hd hq hset hx hx'
      go_wp2
      go_roundw
      case rel => exact ⟨k + 1, by omega, by go_num, by rw [HS.out], by rw [← HE.out, HD.out]⟩
      case measure => simp [intOf]; omega
    · have e : k = 11 := by omega
      subst e
      clear hset hs hd
      rw [dcells_all]
      go_wp2
      exact bodyPost_ret (v := .agg #[.int .i64 (dig x 0), .int .i64 (dig x 1), .int .i64 (dig x 2), .int .i64 (dig x 3), .int .i64 (dig x 4), .int .i64 (dig x 5), .int .i64 (dig x 6), .int .i64 (dig x 7), .int .i64 (dig x 8), .int .i64 (dig x 9), .int .i64 (dig x 10)]) (by simp [results, Try.results16, go_sem]) rfl ⟨rfl, _, _, rfl⟩

theorem xor_int (a b : Int) (ha : Wd a) (hb : Wd b) : bits .xor .u64 a b = ((a.toNat ^^^ b.toNat : Nat) : Int) := by
  obtain ⟨a, rfl, ga⟩ := wd_nat ha
  obtain ⟨b, rfl, gb⟩ := wd_nat hb
  exact bits_xor_u64_nat a b ga gb

set_option maxHeartbeats 400000 in
theorem top_any (a b : Int) (w : World) (ha : Wd a) (hb : Wd b) :
    Calls Try.prog 18 #[.int .u64 a, .int .u64 b] w fun e w' => e = .returned (.int .i64 (topV a b)) ∧ w = w' := by
  by_cases h : a = b
  · subst h
    rw [topV_self]
    go_enter Try.func18, Try.ntmps18
    go_wp2
    go_ret
    exact ⟨rfl, rfl⟩
  · have hx := xor_int a b ha hb
    obtain ⟨X, hX⟩ : ∃ X, X = a.toNat ^^^ b.toNat := ⟨_, rfl⟩
    have hX64 : X < 2 ^ 64 := by
      obtain ⟨a, rfl, ga⟩ := wd_nat ha
      obtain ⟨b, rfl, gb⟩ := wd_nat hb
      rw [hX]; exact xor_lt64 ga gb
    have hX0 : X ≠ 0 := by
      obtain ⟨a, rfl, ga⟩ := wd_nat ha
      obtain ⟨b, rfl, gb⟩ := wd_nat hb
      rw [hX]; exact xor_ne (by omega)
    have ht : topV a b = ((Lib.bitLen X : Int) - 1) / 6 := by unfold topV; rw [if_neg h, hX]
    rw [ht]
    rw [← hX] at hx
    have hL := bitLen_pos X hX0 hX64
    have hL' := Lib.bitLen_le X 64 (by omega) hX64
    have C := Lib.hid (len64 (X : Int) w (by omega) (by omega))
    have hne : (a == b) = false := by simpa using h
    clear ht hX hX0 hX64 ha hb h
    simp only [Int.toNat_natCast] at C
    generalize Lib.bitLen X = L at *
    go_enter Try.func18, Try.ntmps18
    go_wp2_with (go_at_call 23; refine C.out.mono ?_; rintro e w' ⟨rfl, rfl⟩)
    go_ret
    exact ⟨rfl, rfl⟩

theorem dig130 : dig 130 0 = 2 ∧ dig 130 1 = 2 ∧ dig 130 2 = 0 := by unfold dig; decide
theorem top130 : topV 130 129 = 0 := by decide
theorem wd_lit (n : Nat) (h : n < 18446744073709551616) : Wd n := ⟨by omega, by omega⟩

set_option maxHeartbeats 1000000 in
theorem wakes_any (w : World) : Calls Try.prog 20 #[] w fun e w' => e = .returned (.bool true) ∧ ∃ c1 c2 c3 : Array Value, w' = ((w.alloc (.cells c1 23)).alloc (.cells c2 23)).alloc (.cells c3 23) := by
  have D := Lib.hid (fun w => digits_any 130 w (wd_lit 130 (by omega)))
  have S := Lib.hid (fun w => sum_no 18446744073709551615 1 w (wd_lit 18446744073709551615 (by omega)) (wd_lit 1 (by omega)) (by omega))
  have T := Lib.hid (fun w => times_yes 3 4 w (wd_lit 3 (by omega)) (wd_lit 4 (by omega)) (by omega))
  have P := Lib.hid (fun w => top_any 130 129 w (wd_lit 130 (by omega)) (wd_lit 129 (by omega)))
  simp only [dig130.1, dig130.2.1, dig130.2.2] at D
  rw [top130] at P
  go_enter Try.func20, Try.ntmps20
  go_wp2_with (first
    | (go_at_call 16; refine (D.out _).mono ?_; rintro _ _ ⟨rfl, c1, c2, rfl⟩)
    | (go_at_call 8; refine (S.out _).mono ?_; rintro e w' ⟨rfl, rfl⟩)
    | (go_at_call 9; refine (T.out _).mono ?_; rintro e w' ⟨rfl, rfl⟩)
    | (go_at_call 18; refine (P.out _).mono ?_; rintro e w' ⟨rfl, rfl⟩))
  go_ret
  exact ⟨rfl, _, _, _, rfl⟩

theorem wakes_grw (w : World) : Calls Try.prog 20 #[] w fun e w' => e = .returned (.bool true) ∧ Grw w w' :=
  (wakes_any w).mono fun _ _ ⟨he, _, _, _, hw⟩ => ⟨he, by rw [hw]; exact (((Grw.rfl' _).alloc _).alloc _).alloc _⟩
end Go.Proofs.Ytopfllmdejdgpaa
