/- The contracts of tick.Sum, Times, Held, Top and of math/bits.Add64, Mul64, Len64 at this program. -/
import Derived.Test.YtopfllmdejdgpaaRows
import Derived.Test.YtopfllmdejdgpaaMath
import Derived.WalkKit
import Derived.WalkSpells
import Derived.Laws.Externs
import Derived.Laws.Bits64b
import Derived.Lib.BitFns
import Derived.Lib.Hide
namespace Go.Proofs.Ytopfllmdejdgpaa
open Go.RowKit TM

theorem add64_0 (x y : Int) (hx : 0 ≤ x) (hy : 0 ≤ y) (w : World) : (callFunc 21 #[.int .u64 x, .int .u64 y, .int .u64 0]).run Try.prog w =
    .ok (.value (.tuple #[.int .u64 ((x + y) % 18446744073709551616), .int .u64 ((x + y) / 18446744073709551616)])) w := by
  rw [run_callFunc_extern Try.func21 (by kernel_rfl) (by kernel_rfl) (by kernel_rfl) (e := add64Entry) (by kernel_rfl), run_add64 x y 0 hx hy (by omega) (by omega)]
  simp [Result.andThen]

set_option maxHeartbeats 400000 in
theorem sum_yes (a b : Int) (w : World) (ha : 0 ≤ a) (hb : 0 ≤ b) (h : a + b < 18446744073709551616) :
    Calls Try.prog 8 #[.int .u64 a, .int .u64 b] w fun e w' => e = .returned (.tuple #[.int .u64 (a + b), .bool true]) ∧ w = w' := by
  have h1 : (a + b) % 18446744073709551616 = a + b := by omega
  have h2 : (a + b) / 18446744073709551616 = 0 := by omega
  have e := fun w => add64_0 a b ha hb w
  rw [h1, h2] at e
  have E := Lib.hid e
  clear h1 h2 e
  go_enter Try.func8, Try.ntmps8
  go_wp2_with (simp only [E.out])
  go_ret2
  exact ⟨rfl, rfl⟩

set_option maxHeartbeats 400000 in
theorem sum_no (a b : Int) (w : World) (ha : Wd a) (hb : Wd b) (h : ¬ a + b < 18446744073709551616) :
    Calls Try.prog 8 #[.int .u64 a, .int .u64 b] w fun e w' => e = .returned (.tuple #[.int .u64 0, .bool false]) ∧ w = w' := by
  obtain ⟨ha, ha'⟩ := ha
  obtain ⟨hb, hb'⟩ := hb
  have h2 : (a + b) / 18446744073709551616 = 1 := by omega
  have e := fun w => add64_0 a b ha hb w
  rw [h2] at e
  have E := Lib.hid e
  clear h2 e h ha' hb'
  go_enter Try.func8, Try.ntmps8
  go_wp2_with (simp only [E.out])
  go_ret2
  exact ⟨rfl, rfl⟩

theorem sum_any (a b : Int) (w : World) (ha : Wd a) (hb : Wd b) :
    Calls Try.prog 8 #[.int .u64 a, .int .u64 b] w fun e w' => e = .returned (.tuple #[.int .u64 (sumV a b), .bool (sumB a b)]) ∧ w = w' := by
  by_cases h : a + b < 18446744073709551616
  · have h1 : sumV a b = a + b := by unfold sumV; rw [if_pos h]
    have h2 : sumB a b = true := by unfold sumB; exact decide_eq_true h
    rw [h1, h2]; exact sum_yes a b w ha.1 hb.1 h
  · have h1 : sumV a b = 0 := by unfold sumV; rw [if_neg h]
    have h2 : sumB a b = false := by unfold sumB; exact decide_eq_false h
    rw [h1, h2]; exact sum_no a b w ha hb h
end Go.Proofs.Ytopfllmdejdgpaa
