/- The law JobsNone, walked. -/
import Derived.Test.YtlopijcpnfkcgaaJh
namespace Go.Proofs.Ytlopijcpnfkcgaa
open Go.RowKit
set_option linter.unusedSimpArgs false

set_option maxHeartbeats 4000000 in
set_option maxRecDepth 100000 in
theorem none_walk (number job : Int) (t : Nat) (w : World) (h1 : LE.Wi number) (h2 : LE.Wi job) (ht : t < 18446744073709551616) :
    Calls Try.prog 6 #[.int .i64 number, .int .i64 job, .int .u64 (t : Nat)] w fun e w' => e = .returned (.bool true) ∧ Grw w w' := by
  have H1 := Lib.hid h1
  have H2 := Lib.hid h2
  have HT := Lib.hid ht
  clear h1 h2 ht
  go_enter Try.func6, Try.ntmps6
  go_wp2_with fail
  refine (fetch_nil t w).mono ?_
  rintro _ w1 ⟨rfl, g1⟩
  simp only [lv]
  have S1 := Lib.hid (Six.new w1 (.int .i64 0) (.int .i64 0) (.int .i64 0) (.int .i64 0) (.int .i64 0) (.int .u64 0) 33)
  have G1 := Lib.hid (g1.alloc (.cells #[.int .i64 0, .int .i64 0, .int .i64 0, .int .i64 0, .int .i64 0, .int .u64 0] 33))
  have L1 : Hid (w1.heap.size < (w1.alloc (.cells #[.int .i64 0, .int .i64 0, .int .i64 0, .int .i64 0, .int .i64 0, .int .u64 0] 33)).heap.size) := (by rw [size_new]; omega : w1.heap.size < (w1.alloc (.cells #[.int .i64 0, .int .i64 0, .int .i64 0, .int .i64 0, .int .i64 0, .int .u64 0] 33)).heap.size)
  clear g1
  go_wp2_with fail
  refine (answer_nil number _).mono ?_
  rintro _ w2 ⟨rfl, g2⟩
  have S2 := Lib.hid (S1.out.later g2 L1.out)
  have G2 := Lib.hid (G1.out.trans g2)
  have L2 := Lib.hid (Nat.lt_of_lt_of_le L1.out (Below.size g2))
  clear g2
  go_wp2_with fail
  refine (fail_nil number _).mono ?_
  rintro _ w3 ⟨rfl, g3⟩
  have S3 := Lib.hid (S2.out.later g3 L2.out)
  have G3 := Lib.hid (G2.out.trans g3)
  have L3 := Lib.hid (Nat.lt_of_lt_of_le L2.out (Below.size g3))
  clear g3
  go_wp2_with fail
  refine (state_nil job _).mono ?_
  rintro _ w4 ⟨rfl, g4⟩
  have T4 := Lib.hid (Two.new w4 (.int .i64 0) (.int .i64 0) 48)
  have ga := (Grw.rfl' w4).alloc (.cells #[.int .i64 0, .int .i64 0] 48)
  have S4 := Lib.hid (S3.out.later (g4.trans ga) L3.out)
  have G4 := Lib.hid (G3.out.trans (g4.trans ga))
  have L4 := Lib.hid (show w1.heap.size < (w4.alloc (.cells #[.int .i64 0, .int .i64 0] 48)).heap.size ∧ w4.heap.size < (w4.alloc (.cells #[.int .i64 0, .int .i64 0] 48)).heap.size from ⟨Nat.lt_of_lt_of_le L3.out (Below.size (g4.trans ga)), by rw [size_new]; omega⟩)
  clear g4 ga
  go_wp2_with fail
  refine (lease_nil number _).mono ?_
  rintro _ w5 ⟨rfl, g5⟩
  have W5 := Lib.hid g5
  clear g5
  simp only [lv]
  go_wp2_with fail
  have ga := (Grw.rfl' w5).alloc (.cells #[.int .i64 0, .int .i64 0, .int .i64 0, .int .i64 0, .int .i64 0, .int .u64 0] 33)
  have s6 := Six.new w5 (.int .i64 0) (.int .i64 0) (.int .i64 0) (.int .i64 0) (.int .i64 0) (.int .u64 0) 33
  have G6 := Lib.hid (G4.out.trans (W5.out.trans ga))
  have s4 := S4.out.later (W5.out.trans ga) L4.out.1
  have t4 := T4.out.later (W5.out.trans ga) L4.out.2
  have L6 := Lib.hid (show w5.heap.size < (w5.alloc (.cells #[.int .i64 0, .int .i64 0, .int .i64 0, .int .i64 0, .int .i64 0, .int .u64 0] 33)).heap.size ∧ w4.heap.size < (w5.alloc (.cells #[.int .i64 0, .int .i64 0, .int .i64 0, .int .i64 0, .int .i64 0, .int .u64 0] 33)).heap.size from ⟨by rw [size_new]; omega, Nat.lt_of_lt_of_le L4.out.2 (Below.size (W5.out.trans ga))⟩)
  have S6 := Lib.hid s6
  have T6 := Lib.hid t4
  obtain ⟨m0, m1, m2, m3, m4, m5, _, _, _, _, _, _⟩ := s4
  clear s6 t4 ga
  refine (add_nil job 0 _).mono ?_
  rintro _ _ ⟨rfl, rfl⟩
  go_wp2_with fail
  refine (rested_nil job _).mono ?_
  rintro _ _ ⟨rfl, rfl⟩
  go_wp2_with fail
  refine (drop_nil job _).mono ?_
  rintro _ w7 ⟨rfl, g7⟩
  have G7 := Lib.hid (G6.out.trans g7)
  clear m0 m1 m2 m3 m4 m5
  obtain ⟨m0, m1, m2, m3, m4, m5, _, _, _, _, _, _⟩ := S6.out.later g7 L6.out.1
  obtain ⟨n0, n1, _, _⟩ := T6.out.later g7 L6.out.2
  clear g7
  go_wp2_with fail
  refine (open_nil _).mono ?_
  rintro _ _ ⟨rfl, rfl⟩
  go_wp2_with fail
  refine (waits_nil _).mono ?_
  rintro _ _ ⟨rfl, rfl⟩
  go_wp2_with fail
  refine (count_nil _).mono ?_
  rintro _ _ ⟨rfl, rfl⟩
  clear m0 m1 m2 m3 m4 m5 n0 n1
  go_wp2_with fail
  refine (s_new 5 5 5 w w7 G7.out (by decide) (by decide) (by decide) (by decide) (by decide) (by decide)).mono ?_
  rintro _ w8 ⟨B, rfl, b8, _⟩
  have B8 := Lib.hid b8
  clear b8
  go_wp2_with fail
  refine (s_none B8.out t).mono ?_
  rintro _ w9 ⟨rfl, g9⟩
  have B9 := Lib.hid (B8.out.later (g9.alloc (.cells #[.int .i64 0, .int .i64 0, .int .i64 0, .int .i64 0, .int .i64 0, .int .u64 0] 33)))
  clear g9
  simp only [lv]
  go_wp2_with fail
  refine (s_noanswer B9.out H1.out rfl).mono ?_
  rintro _ wa ⟨rfl, ga⟩
  have BA := Lib.hid (B9.out.later ga)
  clear ga
  go_wp2_with fail
  refine (s_nofail BA.out H1.out rfl).mono ?_
  rintro _ wb ⟨rfl, gb⟩
  have BB := Lib.hid (BA.out.later gb)
  clear gb
  go_wp2_with fail
  refine (s_state BB.out H2.out (y := j0) rfl (b := false) rfl).mono ?_
  rintro _ wc ⟨rfl, gc⟩
  have BC := Lib.hid (BB.out.later (gc.alloc (.cells #[.int .i64 0, .int .i64 0] 48)))
  clear gc
  simp only [j0]
  go_wp2_with fail
  refine (s_norest BC.out H2.out (by simp [fnd, j0])).mono ?_
  rintro _ wd ⟨rfl, gd⟩
  have BD := Lib.hid (BC.out.later gd)
  clear gd
  go_wp2_with fail
  refine (s_nodrop BD.out H2.out rfl).mono ?_
  rintro _ we ⟨rfl, ge⟩
  have BE := Lib.hid (BD.out.later ge)
  clear ge
  go_wp2_with fail
  refine (wakes_any we).mono ?_
  rintro _ wf ⟨rfl, gf⟩
  have GF := Lib.hid (BE.out.g.trans gf)
  clear gf
  go_wp2_with fail
  go_ret
  exact ⟨rfl, GF.out⟩
end Go.Proofs.Ytlopijcpnfkcgaa
