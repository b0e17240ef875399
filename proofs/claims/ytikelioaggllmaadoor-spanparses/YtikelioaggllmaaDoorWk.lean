/- The contract of the laws' own wakes at this program. -/
import Derived.Test.YtikelioaggllmaaDoorWe
namespace Go.Proofs.YtikelioaggllmaaDoor
open Go.RowKit SM

theorem parse_at (s : ByteArray) (x e : Nat) (w : World) (hs : s.size ≤ 9223372036854775807) (h1 : pV s.data.toList = x) (h2 : pE s.data.toList = e) :
    Calls Tryd.prog 10 #[.string s] w fun en w' => en = .returned (.tuple #[.int .u64 x, .int .i64 e]) ∧ Grw w w' := by
  have := parse_any s w hs
  rw [h1, h2] at this; exact this

theorem print_90061 : printS 90061 = [80, 49, 68, 84, 49, 72, 49, 77, 49, 83] := by
  simp [printS, clk, cnt, Lib.decDigits_one]

set_option maxHeartbeats 2000000 in
theorem wakes_any (w : World) : Calls Tryd.prog 9 #[] w fun e w' => e = .returned (.bool true) ∧ Grw w w' := by
  have A := Lib.hid (fun w => parse_at ⟨#[80, 49, 68, 84, 50, 72]⟩ 93600 0 w (by decide) (by decide) (by decide))
  have B := Lib.hid (fun w => parse_at ⟨#[80, 53, 77]⟩ 0 4 w (by decide) (by decide) (by decide))
  have C := Lib.hid (fun w => parse_at ⟨#[80, 84, 53, 77]⟩ 300 0 w (by decide) (by decide) (by decide))
  have D := Lib.hid (fun w => parse_at ⟨#[80, 49, 87, 49, 68]⟩ 0 2 w (by decide) (by decide) (by decide))
  have P := Lib.hid (fun w => print_days 90061 ⟨#[80, 49, 68, 84, 49, 72, 49, 77, 49, 83]⟩ w (by decide) (by decide) (by decide) (Or.inl (by decide)) print_90061.symm)
  go_enter Tryd.func9, Tryd.ntmps9
  go_wp2_with fail
  refine (A.out _).mono ?_
  rintro _ w1 ⟨rfl, hw1⟩
  go_wp2_with fail
  refine (B.out _).mono ?_
  rintro _ w2 ⟨rfl, hw2⟩
  go_wp2_with fail
  refine (C.out _).mono ?_
  rintro _ w3 ⟨rfl, hw3⟩
  go_wp2_with fail
  refine (D.out _).mono ?_
  rintro _ w4 ⟨rfl, hw4⟩
  go_wp2_with fail
  refine (P.out _).mono ?_
  rintro _ w5 ⟨rfl, hw5⟩
  have G : Grw w w5 := ((((Grw.trans hw1 hw2).trans hw3).trans hw4).trans hw5)
  clear hw1 hw2 hw3 hw4 hw5 A B C D P
  go_wp2_with fail
  go_ret
  exact ⟨rfl, G⟩
end Go.Proofs.YtikelioaggllmaaDoor
