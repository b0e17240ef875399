/- The walk of SpanParses. -/
import Derived.Test.YtikelioaggllmaaDoorWm
import Derived.Test.YtikelioaggllmaaDoorWk
namespace Go.Proofs.YtikelioaggllmaaDoor
open Go.RowKit SM

set_option maxHeartbeats 2000000 in
theorem parses_walk (s : ByteArray) (w : World) (hs : s.size ≤ 9223372036854775807) :
    Calls Tryd.prog 3 #[.string s] w fun e w' => e = .returned (.bool true) ∧ Grw w w' := by
  by_cases h : s.size ≤ 300
  · have h' : ¬ (300 : Int) < s.size := by omega
    have P := Lib.hid (fun w => parse_any s w hs)
    have R := Lib.hid (fun w => rparse_any s w hs)
    generalize pV s.data.toList = x at *
    generalize pE s.data.toList = e at *
    go_enter Tryd.func3, Tryd.ntmps3
    go_wp2_with fail
    refine (P.out _).mono ?_
    rintro _ w1 ⟨rfl, hw1⟩
    go_wp2_with fail
    refine (R.out _).mono ?_
    rintro _ w2 ⟨rfl, hw2⟩
    go_wp2_with fail
    refine (wakes_any _).mono ?_
    rintro _ w3 ⟨rfl, hw3⟩
    go_wp2_with fail
    go_ret
    exact ⟨rfl, (Grw.trans hw1 hw2).trans hw3⟩
  · have h' : (300 : Int) < s.size := by omega
    go_enter Tryd.func3, Tryd.ntmps3
    go_wp2_with fail
    refine (wakes_any _).mono ?_
    rintro _ w3 ⟨rfl, hw3⟩
    go_wp2_with fail
    go_ret
    exact ⟨rfl, hw3⟩
end Go.Proofs.YtikelioaggllmaaDoor
