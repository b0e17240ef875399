/- The contracts of tick.Times, Held, Top and of math/bits.Mul64, Len64 at this program. -/
import Derived.Test.YtopfllmdejdgpaaWa
import Derived.Test.YtopfllmdejdgpaaShelf
namespace Go.Proofs.Ytopfllmdejdgpaa
open Go.RowKit TM

def hiOf (x y : Int) : Int := x * y / 18446744073709551616
def loOf (x y : Int) : Int := x * y % 18446744073709551616

theorem mul64 (x y : Int) (w : World) (hx : Wd x) (hy : Wd y) :
    Calls Try.prog 22 #[.int .u64 x, .int .u64 y] w fun e w' => e = .returned (.tuple #[.int .u64 (hiOf x y), .int .u64 (loOf x y)]) ∧ w = w' := by
  obtain ⟨hx, hx'⟩ := hx
  obtain ⟨hy, hy'⟩ := hy
  obtain ⟨x, rfl⟩ := Int.eq_ofNat_of_zero_le hx
  obtain ⟨y, rfl⟩ := Int.eq_ofNat_of_zero_le hy
  have h := (Try.bits_Mul64 x y (by omega) (by omega) w).mono fun _ _ ⟨he, hw⟩ => And.intro he hw.symm
  have e1 : hiOf x y = ((x * y / 18446744073709551616 : Nat) : Int) := by unfold hiOf; simp
  have e2 : loOf x y = ((x * y % 18446744073709551616 : Nat) : Int) := by unfold loOf; simp
  rw [e1, e2]; exact h

set_option maxHeartbeats 400000 in
theorem times_yes (a b : Int) (w : World) (ha : Wd a) (hb : Wd b) (h : a * b < 18446744073709551616) :
    Calls Try.prog 9 #[.int .u64 a, .int .u64 b] w fun e w' => e = .returned (.tuple #[.int .u64 (a * b), .bool true]) ∧ w = w' := by
  have h0 : 0 ≤ a * b := Int.mul_nonneg ha.1 hb.1
  have c := mul64 a b w ha hb
  have h1 : hiOf a b = 0 := by unfold hiOf; omega
  have h2 : loOf a b = a * b := by unfold loOf; omega
  rw [h1, h2] at c
  have C := Lib.hid c
  clear h1 h2 c h h0
  go_enter Try.func9, Try.ntmps9
  go_wp2_with (go_at_call 22; refine C.out.mono ?_; rintro e w' ⟨rfl, rfl⟩)
  go_ret2
  exact ⟨rfl, rfl⟩

set_option maxHeartbeats 400000 in
theorem times_no (a b : Int) (w : World) (ha : Wd a) (hb : Wd b) (h : ¬ a * b < 18446744073709551616) :
    Calls Try.prog 9 #[.int .u64 a, .int .u64 b] w fun e w' => e = .returned (.tuple #[.int .u64 0, .bool false]) ∧ w = w' := by
  have c := mul64 a b w ha hb
  have h1 : 0 < hiOf a b := by unfold hiOf; omega
  have h2 : (hiOf a b != 0) = true := by simp; omega
  have C := Lib.hid c
  clear c h h1
  go_enter Try.func9, Try.ntmps9
  go_wp2_with (go_at_call 22; refine C.out.mono ?_; rintro e w' ⟨rfl, rfl⟩)
  go_ret2
  exact ⟨rfl, rfl⟩

theorem times_any (a b : Int) (w : World) (ha : Wd a) (hb : Wd b) :
    Calls Try.prog 9 #[.int .u64 a, .int .u64 b] w fun e w' => e = .returned (.tuple #[.int .u64 (mulV a b), .bool (mulB a b)]) ∧ w = w' := by
  by_cases h : a * b < 18446744073709551616
  · have h1 : mulV a b = a * b := by unfold mulV; rw [if_pos h]
    have h2 : mulB a b = true := by unfold mulB; exact decide_eq_true h
    rw [h1, h2]; exact times_yes a b w ha hb h
  · have h1 : mulV a b = 0 := by unfold mulV; rw [if_neg h]
    have h2 : mulB a b = false := by unfold mulB; exact decide_eq_false h
    rw [h1, h2]; exact times_no a b w ha hb h

set_option maxHeartbeats 400000 in
theorem held_any (a b : Int) (w : World) (ha : Wd a) (hb : Wd b) :
    Calls Try.prog 14 #[.int .u64 a, .int .u64 b] w fun e w' => e = .returned (.int .u64 (heldV a b)) ∧ w = w' := by
  by_cases h : a + b < 18446744073709551616
  · have h1 : heldV a b = a + b := by unfold heldV; rw [if_pos h]
    rw [h1]
    have C := Lib.hid (sum_yes a b w ha.1 hb.1 h)
    clear h1 h
    go_enter Try.func14, Try.ntmps14
    go_wp2_with (go_at_call 8; refine C.out.mono ?_; rintro e w' ⟨rfl, rfl⟩)
    go_ret
    exact ⟨rfl, rfl⟩
  · have h1 : heldV a b = 18446744073709551615 := by unfold heldV; rw [if_neg h]
    rw [h1]
    have C := Lib.hid (sum_no a b w ha hb h)
    clear h1 h
    go_enter Try.func14, Try.ntmps14
    go_wp2_with (go_at_call 8; refine C.out.mono ?_; rintro e w' ⟨rfl, rfl⟩)
    go_ret
    exact ⟨rfl, rfl⟩

theorem len64 (x : Int) (w : World) (h0 : 0 ≤ x) (h1 : x ≤ 18446744073709551615) :
    Calls Try.prog 23 #[.int .u64 x] w fun e w' => e = .returned (.int .i64 (Lib.bitLen x.toNat)) ∧ w = w' :=
  (Try.bits_Len64 x w h0 h1).mono fun _ _ ⟨he, hw⟩ => ⟨he, hw.symm⟩
end Go.Proofs.Ytopfllmdejdgpaa
