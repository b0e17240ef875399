/- LexJoins and LexWrong at all texts of the form's reach. -/
import Derived.Test.YtiocnagbcbhggaaDoorLb
import Derived.Test.YtiocnagbcbhggaaDoorLd
namespace Go.Proofs.YtiocnagbcbhggaaDoor
open Go.RowKit SM

theorem joins_any (a b : ByteArray) (w : World) (h : Mks w ∧ Tab w) (hza : a.size ≤ 140737488355328) (hzb : b.size ≤ 140737488355328) :
    Calls Tryd.prog 5 #[.string a, .string b] w fun e w' => e = .returned (.bool true) ∧ Grw w w' := by
  by_cases c : a.size + b.size + 4 ≤ 60
  · exact joins_walk a b w h.1 h.2 (by omega) (by omega) c
  · exact joins_long a b w h.1 h.2 hza hzb c
theorem wrong_any (a b : ByteArray) (n : Nat) (w : World) (h : Mks w ∧ Tab w) (hza : a.size ≤ 140737488355328) (hzb : b.size ≤ 140737488355328) (hn : n ≤ 255) :
    Calls Tryd.prog 7 #[.string a, .string b, .int .u8 n] w fun e w' => e = .returned (.bool true) ∧ Grw w w' := by
  obtain ⟨c, hc⟩ : ∃ c : UInt8, c.toNat = n := ⟨UInt8.ofNat n, by simp; omega⟩
  subst hc
  by_cases d : a.size + b.size + 1 ≤ 60
  · exact wrong_walk a b c w h.1 h.2 d
  · exact wrong_long a b c w h.1 h.2 hza hzb d
end Go.Proofs.YtiocnagbcbhggaaDoor
