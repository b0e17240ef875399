/- The contracts of math/bits.TrailingZeros64, mask.Next and mask.Round at this program. Premise: the library's table reads as its own text lays it. -/
import Derived.Test.YtlihcljjpalapaaWa
namespace Go.Proofs.Ytlihcljjpalapaa
open Go.RowKit MK
set_option linter.unusedSimpArgs false

/-- the library's table, cell by cell. -/
def Tab (w : World) : Prop := ∀ j, j < 64 → w.cell? ⟨0, j, none⟩ = some (.int .u8 (Lib.deBruijn64tab.getD j 0 : Nat))
theorem tab_grw {w x : World} (h : Grw w x) (t : Tab w) : Tab x := fun j hj => h.cell (t j hj)

theorem tz_key (x a : Nat) (hx : x < 18446744073709551616) (hx0 : x ≠ 0) (hlow : x &&& (18446744073709551616 - x) = a) :
    IntKind.u64.wrap (bits BinOp.and IntKind.u64 (x : Int) (IntKind.u64.wrap (-(x : Int))) * 285870213051353865) / 288230376151711744 = ((a * 285870213051353865 % 18446744073709551616 / 288230376151711744 : Nat) : Int) := by
  have e1 : IntKind.u64.wrap (-(x : Int)) = ((18446744073709551616 - x : Nat) : Int) := by rw [IntKind.wrap_u64]; omega
  rw [e1, u64_and_nat x _ hx (by omega), hlow, IntKind.wrap_u64]
  omega
theorem shr_nat (m s : Nat) : (m : Int) / (2 : Int) ^ s = ((m / 2 ^ s : Nat) : Int) := by
  rw [show (2 : Int) ^ s = ((2 ^ s : Nat) : Int) by rw [Int.natCast_pow]; rfl]
  exact (Int.natCast_ediv _ _).symm
theorem shl_nat (m s : Nat) (hm : m < 18446744073709551616) : IntKind.u64.wrap (((m / 2 ^ s : Nat) : Int) * (2 : Int) ^ s) = (rest m s : Nat) := by
  have := rest_le m s
  rw [show (2 : Int) ^ s = ((2 ^ s : Nat) : Int) by rw [Int.natCast_pow]; rfl, ← Int.natCast_mul, IntKind.wrap_u64]
  unfold rest at *
  generalize m / 2 ^ s * 2 ^ s = r at *
  omega

theorem wrap_m (m : Nat) (hm : m < 18446744073709551616) : IntKind.u64.wrap (m : Int) = (m : Int) := by rw [IntKind.wrap_u64]; omega
theorem eq0_yes {r : Nat} (h : r = 0) : ((r : Int) == 0) = true := by subst h; rfl
theorem eq0_no {r : Nat} (h : r ≠ 0) : ((r : Int) == 0) = false := by simp; omega
end Go.Proofs.Ytlihcljjpalapaa
