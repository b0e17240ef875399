/- The contracts of mask.isSlot, only, With, Without, Has at this program. -/
import Derived.Test.YtlihcljjpalapaaDoorRows
import Derived.Test.YtlihcljjpalapaaDoorMm
import Derived.Test.YtlihcljjpalapaaDoorGrow
import Derived.WalkKit
import Derived.WalkSpells
import Derived.WalkLawsBesides
import Derived.Laws.BitsAllLaws
namespace Go.Proofs.YtlihcljjpalapaaDoor
open Go.RowKit MK
set_option linter.unusedSimpArgs false

theorem isSlot_yes (n : Nat) (w : World) (h : n < 64) :
    Calls Tryd.prog 43 #[.int .i64 n] w fun e w' => e = .returned (.bool true) ∧ w = w' := by
  have hi : (n : Int) < 64 := by omega
  go_enter Tryd.func43, Tryd.ntmps43
  go_wp2
  go_ret
  exact ⟨rfl, rfl⟩
theorem isSlot_no (i : Int) (w : World) (h : ¬ (0 ≤ i ∧ i < 64)) :
    Calls Tryd.prog 43 #[.int .i64 i] w fun e w' => e = .returned (.bool false) ∧ w = w' := by
  by_cases h0 : 0 ≤ i
  · have h1 : ¬ i < 64 := fun g => h ⟨h0, g⟩
    clear h
    go_enter Tryd.func43, Tryd.ntmps43
    go_wp2
    go_ret
    exact ⟨rfl, rfl⟩
  · clear h
    go_enter Tryd.func43, Tryd.ntmps43
    go_wp2
    go_ret
    exact ⟨rfl, rfl⟩
theorem wrap_pow (n : Nat) (h : n < 64) : IntKind.u64.wrap ((2 : Int) ^ n) = ((2 ^ n : Nat) : Int) := by
  rw [IntKind.wrap_u64]
  have h1 : 2 ^ n < 18446744073709551616 := Nat.lt_of_lt_of_le (Nat.pow_lt_pow_right (by omega) h : 2 ^ n < 2 ^ 64) (by decide)
  have h2 : ((2 ^ n : Nat) : Int) = (2 : Int) ^ n := by rw [Int.natCast_pow]; rfl
  rw [← h2]
  generalize 2 ^ n = x at *
  omega
theorem only_any (i : Int) (w : World) :
    Calls Tryd.prog 45 #[.int .i64 i] w fun e w' => e = .returned (.int .u64 (onl i : Nat)) ∧ w = w' := by
  by_cases h : 0 ≤ i ∧ i < 64
  · obtain ⟨n, rfl⟩ := Int.eq_ofNat_of_zero_le h.1
    have hn : n < 64 := by omega
    have E := Lib.hid (onl_in h)
    have A := Lib.hid (fun w => isSlot_yes n w hn)
    clear h
    go_enter Tryd.func45, Tryd.ntmps45
    go_wp2_with fail
    refine (A.out _).mono ?_
    rintro _ w1 ⟨rfl, rfl⟩
    go_wp2_with fail
    go_ret
    exact ⟨by rw [E.out, wrap_pow n hn]; rfl, rfl⟩
  · have E := Lib.hid (onl_out h)
    have A := Lib.hid (fun w => isSlot_no i w h)
    clear h
    go_enter Tryd.func45, Tryd.ntmps45
    go_wp2_with fail
    refine (A.out _).mono ?_
    rintro _ w1 ⟨rfl, rfl⟩
    go_wp2_with fail
    go_ret
    exact ⟨by rw [E.out]; rfl, rfl⟩
theorem only_is (i : Int) (o : Nat) (h : onl i = o) (w : World) :
    Calls Tryd.prog 45 #[.int .i64 i] w fun e w' => e = .returned (.int .u64 (o : Nat)) ∧ w = w' := by rw [← h]; exact only_any i w
theorem with_any (m : Nat) (i : Int) (w : World) (hm : m < 18446744073709551616) :
    Calls Tryd.prog 34 #[.int .u64 m, .int .i64 i] w fun e w' => e = .returned (.int .u64 (wth m i : Nat)) ∧ w = w' := by
  have hl := onl_lt i
  have hb := u64_or_nat m (onl i) hm hl
  have hv := or_onl m i
  obtain ⟨o, ho⟩ : ∃ o, onl i = o := ⟨_, rfl⟩
  rw [ho] at hb hv
  have A := Lib.hid (fun w => only_is i o ho w)
  have B := Lib.hid hb
  have V := Lib.hid hv
  clear hb hv hl ho
  go_enter Tryd.func34, Tryd.ntmps34
  go_wp2_with fail
  refine (A.out _).mono ?_
  rintro _ w1 ⟨rfl, rfl⟩
  go_wp2_with fail
  go_ret
  exact ⟨by rw [B.out, V.out]; rfl, rfl⟩
end Go.Proofs.YtlihcljjpalapaaDoor
