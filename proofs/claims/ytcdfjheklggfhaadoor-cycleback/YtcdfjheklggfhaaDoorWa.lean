/- The contracts of tick.Sum, Times, Held and of span.longer at this program. -/
import Derived.Test.YtcdfjheklggfhaaDoorRows
import Derived.Test.YtcdfjheklggfhaaDoorShelf
import Derived.Test.YtcdfjheklggfhaaDoorMath
import Derived.Test.YtcdfjheklggfhaaDoorGrow
import Derived.WalkKit
import Derived.WalkSpells
import Derived.WalkLawsBesides
import Derived.Laws.Externs
import Derived.Laws.Bits64b
import Derived.Lib.BitFns
import Derived.Lib.Hide
namespace Go.Proofs.YtcdfjheklggfhaaDoor
open Go.RowKit SM

/-- a number of type uint64. -/
def Wd (a : Int) : Prop := 0 ≤ a ∧ a < 18446744073709551616

theorem add64_0 (x y : Int) (hx : 0 ≤ x) (hy : 0 ≤ y) (w : World) : (callFunc 44 #[.int .u64 x, .int .u64 y, .int .u64 0]).run Tryd.prog w =
    .ok (.value (.tuple #[.int .u64 ((x + y) % 18446744073709551616), .int .u64 ((x + y) / 18446744073709551616)])) w := by
  rw [run_callFunc_extern Tryd.func44 (by kernel_rfl) (by kernel_rfl) (by kernel_rfl) (e := add64Entry) (by kernel_rfl), run_add64 x y 0 hx hy (by omega) (by omega)]
  simp [Result.andThen]

set_option maxHeartbeats 400000 in
theorem sum_yes (a b : Int) (w : World) (ha : 0 ≤ a) (hb : 0 ≤ b) (h : a + b < 18446744073709551616) :
    Calls Tryd.prog 29 #[.int .u64 a, .int .u64 b] w fun e w' => e = .returned (.tuple #[.int .u64 (a + b), .bool true]) ∧ w = w' := by
  have h1 : (a + b) % 18446744073709551616 = a + b := by omega
  have h2 : (a + b) / 18446744073709551616 = 0 := by omega
  have e := fun w => add64_0 a b ha hb w
  rw [h1, h2] at e
  have E := Lib.hid e
  clear h1 h2 e
  go_enter Tryd.func29, Tryd.ntmps29
  go_wp2_with (simp only [E.out])
  go_ret2
  exact ⟨rfl, rfl⟩

set_option maxHeartbeats 400000 in
theorem sum_no (a b : Int) (w : World) (ha : Wd a) (hb : Wd b) (h : ¬ a + b < 18446744073709551616) :
    Calls Tryd.prog 29 #[.int .u64 a, .int .u64 b] w fun e w' => e = .returned (.tuple #[.int .u64 0, .bool false]) ∧ w = w' := by
  obtain ⟨ha, ha'⟩ := ha
  obtain ⟨hb, hb'⟩ := hb
  have h2 : (a + b) / 18446744073709551616 = 1 := by omega
  have e := fun w => add64_0 a b ha hb w
  rw [h2] at e
  have E := Lib.hid e
  clear h2 e h ha' hb'
  go_enter Tryd.func29, Tryd.ntmps29
  go_wp2_with (simp only [E.out])
  go_ret2
  exact ⟨rfl, rfl⟩

def hiOf (x y : Int) : Int := x * y / 18446744073709551616
def loOf (x y : Int) : Int := x * y % 18446744073709551616

theorem mul64 (x y : Int) (w : World) (hx : Wd x) (hy : Wd y) :
    Calls Tryd.prog 43 #[.int .u64 x, .int .u64 y] w fun e w' => e = .returned (.tuple #[.int .u64 (hiOf x y), .int .u64 (loOf x y)]) ∧ w = w' := by
  obtain ⟨hx, hx'⟩ := hx
  obtain ⟨hy, hy'⟩ := hy
  obtain ⟨x, rfl⟩ := Int.eq_ofNat_of_zero_le hx
  obtain ⟨y, rfl⟩ := Int.eq_ofNat_of_zero_le hy
  have h := (Tryd.bits_Mul64 x y (by omega) (by omega) w).mono fun _ _ ⟨he, hw⟩ => And.intro he hw.symm
  have e1 : hiOf x y = ((x * y / 18446744073709551616 : Nat) : Int) := by unfold hiOf; simp
  have e2 : loOf x y = ((x * y % 18446744073709551616 : Nat) : Int) := by unfold loOf; simp
  rw [e1, e2]; exact h

set_option maxHeartbeats 400000 in
theorem times_yes (a b : Int) (w : World) (ha : Wd a) (hb : Wd b) (h : a * b < 18446744073709551616) :
    Calls Tryd.prog 28 #[.int .u64 a, .int .u64 b] w fun e w' => e = .returned (.tuple #[.int .u64 (a * b), .bool true]) ∧ w = w' := by
  have h0 : 0 ≤ a * b := Int.mul_nonneg ha.1 hb.1
  have c := mul64 a b w ha hb
  have h1 : hiOf a b = 0 := by unfold hiOf; omega
  have h2 : loOf a b = a * b := by unfold loOf; omega
  rw [h1, h2] at c
  have C := Lib.hid c
  clear h1 h2 c h h0
  go_enter Tryd.func28, Tryd.ntmps28
  go_wp2_with (go_at_call 43; refine C.out.mono ?_; rintro e w' ⟨rfl, rfl⟩)
  go_ret2
  exact ⟨rfl, rfl⟩

set_option maxHeartbeats 400000 in
theorem times_no (a b : Int) (w : World) (ha : Wd a) (hb : Wd b) (h : ¬ a * b < 18446744073709551616) :
    Calls Tryd.prog 28 #[.int .u64 a, .int .u64 b] w fun e w' => e = .returned (.tuple #[.int .u64 0, .bool false]) ∧ w = w' := by
  have c := mul64 a b w ha hb
  have h1 : 0 < hiOf a b := by unfold hiOf; omega
  have h2 : (hiOf a b != 0) = true := by simp; omega
  have C := Lib.hid c
  clear c h h1
  go_enter Tryd.func28, Tryd.ntmps28
  go_wp2_with (go_at_call 43; refine C.out.mono ?_; rintro e w' ⟨rfl, rfl⟩)
  go_ret2
  exact ⟨rfl, rfl⟩

/-- the sum, held at the greatest number. -/
def heldN (a b : Nat) : Nat := min (a + b) 18446744073709551615

set_option maxHeartbeats 400000 in
theorem held_any (a b : Nat) (w : World) (ha : a < 18446744073709551616) (hb : b < 18446744073709551616) :
    Calls Tryd.prog 54 #[.int .u64 a, .int .u64 b] w fun e w' => e = .returned (.int .u64 (heldN a b)) ∧ w = w' := by
  by_cases h : (a : Int) + b < 18446744073709551616
  · have h1 : (heldN a b : Int) = a + b := by unfold heldN; omega
    rw [h1]
    have C := Lib.hid (sum_yes a b w (by omega) (by omega) h)
    clear h1 h
    go_enter Tryd.func54, Tryd.ntmps54
    go_wp2_with (go_at_call 29; refine C.out.mono ?_; rintro e w' ⟨rfl, rfl⟩)
    go_ret
    exact ⟨rfl, rfl⟩
  · have h1 : (heldN a b : Int) = 18446744073709551615 := by unfold heldN; omega
    rw [h1]
    have C := Lib.hid (sum_no a b w ⟨by omega, by omega⟩ ⟨by omega, by omega⟩ h)
    clear h1 h
    go_enter Tryd.func54, Tryd.ntmps54
    go_wp2_with (go_at_call 29; refine C.out.mono ?_; rintro e w' ⟨rfl, rfl⟩)
    go_ret
    exact ⟨rfl, rfl⟩

/-- length + number * unit, held at the greatest number. -/
def longN (a n u : Nat) : Nat := min (a + n * u) 18446744073709551615
theorem longN_lt (a n u : Nat) : longN a n u < 18446744073709551616 := by unfold longN; omega

set_option maxHeartbeats 400000 in
theorem longer_any (a n u : Nat) (w : World) (ha : a < 18446744073709551616) (hn : n < 18446744073709551616) (hu : u < 18446744073709551616) :
    Calls Tryd.prog 47 #[.int .u64 a, .int .u64 n, .int .u64 u] w fun e w' => e = .returned (.int .u64 (longN a n u)) ∧ w = w' := by
  have e : (n : Int) * u = ((n * u : Nat) : Int) := by simp
  by_cases h : n * u < 18446744073709551616
  · have C1 := times_yes n u w ⟨by omega, by omega⟩ ⟨by omega, by omega⟩ (by rw [e]; omega)
    rw [e] at C1
    have C := Lib.hid C1
    have h1 : longN a n u = heldN a (n * u) := rfl
    rw [h1]
    have D := Lib.hid (held_any a (n * u) w ha h)
    clear C1 e h1
    generalize n * u = m at *
    generalize heldN a m = r at *
    go_enter Tryd.func47, Tryd.ntmps47
    go_wp2_with (first | (go_at_call 28; refine C.out.mono ?_; rintro e w' ⟨rfl, rfl⟩) | (go_at_call 54; refine D.out.mono ?_; rintro e w' ⟨rfl, rfl⟩))
    go_ret
    exact ⟨rfl, rfl⟩
  · have C := Lib.hid (times_no n u w ⟨by omega, by omega⟩ ⟨by omega, by omega⟩ (by rw [e]; omega))
    have h1 : longN a n u = 18446744073709551615 := by unfold longN; omega
    rw [h1]
    clear h1 h e
    go_enter Tryd.func47, Tryd.ntmps47
    go_wp2_with (go_at_call 28; refine C.out.mono ?_; rintro e w' ⟨rfl, rfl⟩)
    go_ret
    exact ⟨rfl, rfl⟩
end Go.Proofs.YtcdfjheklggfhaaDoor
