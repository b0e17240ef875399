/- The contracts of tick.Sum, Digits, Top at this program. -/
import Derived.Test.YtjkhgpdhhnfmlaaDoorRows
import Derived.Test.YtjkhgpdhhnfmlaaDoorShelf
import Derived.Test.YtjkhgpdhhnfmlaaDoorTm
import Derived.Test.YtjkhgpdhhnfmlaaDoorGrow
import Derived.WalkKit
import Derived.WalkSpells
import Derived.Laws.Externs
import Derived.Laws.Bits64b
import Derived.Lib.BitFns
import Derived.Lib.Hide
namespace Go.Proofs.YtjkhgpdhhnfmlaaDoor
open Go.RowKit TM
theorem add64_0 (x y : Int) (hx : 0 ≤ x) (hy : 0 ≤ y) (w : World) : (callFunc 61 #[.int .u64 x, .int .u64 y, .int .u64 0]).run Tryd.prog w =
    .ok (.value (.tuple #[.int .u64 ((x + y) % 18446744073709551616), .int .u64 ((x + y) / 18446744073709551616)])) w := by
  rw [run_callFunc_extern Tryd.func61 (by kernel_rfl) (by kernel_rfl) (by kernel_rfl) (e := add64Entry) (by kernel_rfl), run_add64 x y 0 hx hy (by omega) (by omega)]
  simp [Result.andThen]

set_option maxHeartbeats 400000 in
theorem sum_yes (a b : Int) (w : World) (ha : 0 ≤ a) (hb : 0 ≤ b) (h : a + b < 18446744073709551616) :
    Calls Tryd.prog 39 #[.int .u64 a, .int .u64 b] w fun e w' => e = .returned (.tuple #[.int .u64 (a + b), .bool true]) ∧ w = w' := by
  have h1 : (a + b) % 18446744073709551616 = a + b := by omega
  have h2 : (a + b) / 18446744073709551616 = 0 := by omega
  have e := fun w => add64_0 a b ha hb w
  rw [h1, h2] at e
  have E := Lib.hid e
  clear h1 h2 e
  go_enter Tryd.func39, Tryd.ntmps39
  go_wp2_with (simp only [E.out])
  go_ret2
  exact ⟨rfl, rfl⟩

set_option maxHeartbeats 400000 in
theorem sum_no (a b : Int) (w : World) (ha : Wd a) (hb : Wd b) (h : ¬ a + b < 18446744073709551616) :
    Calls Tryd.prog 39 #[.int .u64 a, .int .u64 b] w fun e w' => e = .returned (.tuple #[.int .u64 0, .bool false]) ∧ w = w' := by
  obtain ⟨ha, ha'⟩ := ha
  obtain ⟨hb, hb'⟩ := hb
  have h2 : (a + b) / 18446744073709551616 = 1 := by omega
  have e := fun w => add64_0 a b ha hb w
  rw [h2] at e
  have E := Lib.hid e
  clear h2 e h ha' hb'
  go_enter Tryd.func39, Tryd.ntmps39
  go_wp2_with (simp only [E.out])
  go_ret2
  exact ⟨rfl, rfl⟩

theorem sum_any (a b : Int) (w : World) (ha : Wd a) (hb : Wd b) :
    Calls Tryd.prog 39 #[.int .u64 a, .int .u64 b] w fun e w' => e = .returned (.tuple #[.int .u64 (sumV a b), .bool (sumB a b)]) ∧ w = w' := by
  by_cases h : a + b < 18446744073709551616
  · have h1 : sumV a b = a + b := by unfold sumV; rw [if_pos h]
    have h2 : sumB a b = true := by unfold sumB; exact decide_eq_true h
    rw [h1, h2]; exact sum_yes a b w ha.1 hb.1 h
  · have h1 : sumV a b = 0 := by unfold sumV; rw [if_neg h]
    have h2 : sumB a b = false := by unfold sumB; exact decide_eq_false h
    rw [h1, h2]; exact sum_no a b w ha hb h
theorem len64 (x : Int) (w : World) (h0 : 0 ≤ x) (h1 : x ≤ 18446744073709551615) :
    Calls Tryd.prog 83 #[.int .u64 x] w fun e w' => e = .returned (.int .i64 (Lib.bitLen x.toNat)) ∧ w = w' :=
  (Tryd.bits_Len64 x w h0 h1).mono fun _ _ ⟨he, hw⟩ => ⟨he, hw.symm⟩
def dcells (x : Int) (k : Nat) : Array Value := ((List.range 11).map fun i => Value.int .i64 (if i < k then dig x i else 0)).toArray

theorem dcells_get (x : Int) (k i : Nat) (h : i < 11) : (dcells x k)[i]? = some (.int .i64 (if i < k then dig x i else 0)) := by
  unfold dcells; simp [h]
theorem dcells_set (x : Int) (k : Nat) (h : k < 11) : (dcells x k).setIfInBounds k (.int .i64 (dig x k)) = dcells x (k + 1) := by
  apply Array.ext_getElem?
  intro i
  rw [Array.getElem?_setIfInBounds]
  by_cases hi : i < 11
  · rw [dcells_get x (k+1) i hi]
    by_cases e : k = i
    · subst e; simp [dcells, h]
    · rw [if_neg e, dcells_get x k i hi]
      by_cases hh : i < k
      · rw [if_pos hh, if_pos (by omega)]
      · rw [if_neg hh, if_neg (by omega)]
  · have h1 : (dcells x (k+1))[i]? = none := by simp [dcells]; omega
    have h2 : (dcells x k)[i]? = none := by simp [dcells]; omega
    rw [h1, h2, if_neg (by omega)]
theorem dcells_zero (x : Int) : dcells x 0 = #[.int .i64 0, .int .i64 0, .int .i64 0, .int .i64 0, .int .i64 0, .int .i64 0, .int .i64 0, .int .i64 0, .int .i64 0, .int .i64 0, .int .i64 0] := by
  simp [dcells, List.range, List.range.loop]
theorem dcells_all (x : Int) : dcells x 11 = #[.int .i64 (dig x 0), .int .i64 (dig x 1), .int .i64 (dig x 2), .int .i64 (dig x 3), .int .i64 (dig x 4), .int .i64 (dig x 5), .int .i64 (dig x 6), .int .i64 (dig x 7), .int .i64 (dig x 8), .int .i64 (dig x 9), .int .i64 (dig x 10)] := by
  simp [dcells, List.range, List.range.loop]
set_option maxHeartbeats 400000 in
theorem digits_any (x : Int) (w : World) (hx : Wd x) :
    Calls Tryd.prog 63 #[.int .u64 x] w fun e w' => e = .returned (.agg #[.int .i64 (dig x 0), .int .i64 (dig x 1), .int .i64 (dig x 2), .int .i64 (dig x 3), .int .i64 (dig x 4), .int .i64 (dig x 5), .int .i64 (dig x 6), .int .i64 (dig x 7), .int .i64 (dig x 8), .int .i64 (dig x 9), .int .i64 (dig x 10)]) ∧ ∃ c1 c2 : Array Value, w' = (w.alloc (.cells c1 85)).alloc (.cells c2 85) := by
  obtain ⟨hx, hx'⟩ := hx
  go_enter Tryd.func63, Tryd.ntmps63
  go_wp2
  go_loopw [0, 5] (fun v i wr => ∃ k : Nat, k ≤ 11 ∧ i = .int .i64 k ∧ v = .int .u64 (x / 64 ^ k) ∧ wr = (w.alloc (.cells #[.int .i64 0, .int .i64 0, .int .i64 0, .int .i64 0, .int .i64 0, .int .i64 0, .int .i64 0, .int .i64 0, .int .i64 0, .int .i64 0, .int .i64 0] 85)).alloc (.cells (dcells x k) 85)) (fun _ i _ => 11 - (intOf i).toNat)
  case atStart => exact ⟨0, by omega, rfl, by simp, by rw [dcells_zero]⟩
  case round =>
    obtain ⟨k, hk, rfl, rfl, rfl⟩ := hrel
    have q0 : 0 ≤ x / 64 ^ k := Int.ediv_nonneg hx (Int.le_of_lt (p64 k))
    have q1 : x / 64 ^ k < 18446744073709551616 := Int.lt_of_le_of_lt (Int.ediv_le_self _ hx) hx'
    have hs := quo_succ x k
    have hset := dcells_set x k
    have hd : dig x k = x / 64 ^ k % 64 := rfl
    by_cases hlt : k < 11
    · have hg := dcells_get x k k hlt
      have hset := hset hlt
      rw [if_neg (by omega)] at hg
      obtain ⟨q, hq⟩ : ∃ q, q = x / 64 ^ k := ⟨_, rfl⟩
      rw [← hq] at q0 q1 hs hd ⊢
      have HS := Lib.hid hs
      have HD := Lib.hid hd
      have HE := Lib.hid hset
      clear hs hd hq hset hx hx'
      go_wp2
      go_roundw
      case rel => exact ⟨k + 1, by omega, by go_num, by rw [HS.out], by rw [← HE.out, HD.out]⟩
      case measure => simp [intOf]; omega
    · have e : k = 11 := by omega
      subst e
      clear hset hs hd
      rw [dcells_all]
      go_wp2
      exact bodyPost_ret (v := .agg #[.int .i64 (dig x 0), .int .i64 (dig x 1), .int .i64 (dig x 2), .int .i64 (dig x 3), .int .i64 (dig x 4), .int .i64 (dig x 5), .int .i64 (dig x 6), .int .i64 (dig x 7), .int .i64 (dig x 8), .int .i64 (dig x 9), .int .i64 (dig x 10)]) (by simp [results, Tryd.results63, go_sem]) rfl ⟨rfl, _, _, rfl⟩

theorem xor_int (a b : Int) (ha : Wd a) (hb : Wd b) : bits .xor .u64 a b = ((a.toNat ^^^ b.toNat : Nat) : Int) := by
  obtain ⟨a, rfl, ga⟩ := wd_nat ha
  obtain ⟨b, rfl, gb⟩ := wd_nat hb
  exact bits_xor_u64_nat a b ga gb

set_option maxHeartbeats 400000 in
theorem top_any (a b : Int) (w : World) (ha : Wd a) (hb : Wd b) :
    Calls Tryd.prog 62 #[.int .u64 a, .int .u64 b] w fun e w' => e = .returned (.int .i64 (topV a b)) ∧ w = w' := by
  by_cases h : a = b
  · subst h
    rw [topV_self]
    go_enter Tryd.func62, Tryd.ntmps62
    go_wp2
    go_ret
    exact ⟨rfl, rfl⟩
  · have hx := xor_int a b ha hb
    obtain ⟨X, hX⟩ : ∃ X, X = a.toNat ^^^ b.toNat := ⟨_, rfl⟩
    have hX64 : X < 2 ^ 64 := by
      obtain ⟨a, rfl, ga⟩ := wd_nat ha
      obtain ⟨b, rfl, gb⟩ := wd_nat hb
      rw [hX]; exact xor_lt64 ga gb
    have hX0 : X ≠ 0 := by
      obtain ⟨a, rfl, ga⟩ := wd_nat ha
      obtain ⟨b, rfl, gb⟩ := wd_nat hb
      rw [hX]; exact xor_ne (by omega)
    have ht : topV a b = ((Lib.bitLen X : Int) - 1) / 6 := by unfold topV; rw [if_neg h, hX]
    rw [ht]
    rw [← hX] at hx
    have hL := bitLen_pos X hX0 hX64
    have hL' := Lib.bitLen_le X 64 (by omega) hX64
    have C := Lib.hid (len64 (X : Int) w (by omega) (by omega))
    have hne : (a == b) = false := by simpa using h
    clear ht hX hX0 hX64 ha hb h
    simp only [Int.toNat_natCast] at C
    generalize Lib.bitLen X = L at *
    go_enter Tryd.func62, Tryd.ntmps62
    go_wp2_with (go_at_call 83; refine C.out.mono ?_; rintro e w' ⟨rfl, rfl⟩)
    go_ret
    exact ⟨rfl, rfl⟩

def arr (d : Nat → Int) : Array Value := ((List.range 11).map fun i => Value.int .i64 (d i)).toArray
theorem arr_get (d : Nat → Int) (i : Nat) (h : i < 11) : (arr d)[i]? = some (.int .i64 (d i)) := by
  unfold arr; simp [h]
theorem arr_lit (d : Nat → Int) : arr d = #[.int .i64 (d 0), .int .i64 (d 1), .int .i64 (d 2), .int .i64 (d 3), .int .i64 (d 4), .int .i64 (d 5), .int .i64 (d 6), .int .i64 (d 7), .int .i64 (d 8), .int .i64 (d 9), .int .i64 (d 10)] := by
  simp [arr, List.range, List.range.loop]
end Go.Proofs.YtjkhgpdhhnfmlaaDoor
