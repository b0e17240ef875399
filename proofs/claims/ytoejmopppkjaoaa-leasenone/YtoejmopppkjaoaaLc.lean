/- The law LeaseNone. -/
import Derived.Test.YtoejmopppkjaoaaTe
import Derived.Test.YtoejmopppkjaoaaUc
namespace Go.Proofs.Ytoejmopppkjaoaa
open Go.RowKit
set_option linter.unusedSimpArgs false

set_option maxHeartbeats 4000000 in
set_option maxRecDepth 100000 in
theorem none_walk (num job : Int) (at' : Nat) (w : World) (hn : Wi num) (hj : Wi job) :
    Calls Try.prog 7 #[.int .i64 num, .int .i64 job, .int .u64 (at' : Nat)] w fun e w' => e = .returned (.bool true) ∧ Grw w w' := by
  have WK := Lib.hid (fun w => wakes_any w)
  have WN := Lib.hid (And.intro hn hj)
  have GN := Lib.hid (fun w => grant_nil job at' w)
  have A1 := Lib.hid (fun w => look_nil num w)
  have A2 := Lib.hid (fun w => of_nil job w)
  have A3 := Lib.hid (fun w => drop_nil num w)
  have A4 := Lib.hid (fun w => over_nil at' w)
  have A5 := Lib.hid (fun w => list_nil w)
  have A6 := Lib.hid (fun w => len_nil w)
  unfold gv g0 at A1
  clear hn hj
  go_enter Try.func7, Try.ntmps7
  go_wp2_with fail
  refine (m_new w w (Grw.rfl' w)).mono ?_
  rintro _ w1 ⟨p, mb, jb, rfl, m1⟩
  have M1 := Lib.hid m1
  clear m1
  go_wp2_with fail
  refine (GN.out _).mono ?_
  rintro _ _ ⟨rfl, rfl⟩
  go_wp2_with fail
  obtain ⟨w2, hw2⟩ : ∃ w2, w1.alloc (.cells #[.pointer none, .pointer (some ⟨p, 0, none⟩)] 23) = w2 := ⟨_, rfl⟩
  rw [hw2]
  have M2 := Lib.hid (M1.out.later (show Grw w1 w2 by rw [← hw2]; exact (Grw.rfl' w1).alloc _))
  have r0 : w2.cell? ⟨w1.heap.size, 0, none⟩ = some (.pointer none) := by rw [← hw2]; simp [go_sem]
  have r1 : w2.cell? ⟨w1.heap.size, 1, none⟩ = some (.pointer (some ⟨p, 0, none⟩)) := by rw [← hw2]; simp [go_sem]
  have RR := Lib.hid r1
  clear hw2
  refine wp_loop_rounds 3 ?_
  rw [rounds_succ]
  go_wp2_with fail
  refine (A1.out _).mono ?_
  rintro _ w3 ⟨rfl, g3⟩
  have G4 := Lib.hid (g3.alloc (.cells #[.int .i64 0, .int .i64 0, .int .u64 0] 39))
  clear g3 r0 r1
  go_wp2_with fail
  refine (A2.out _).mono ?_
  rintro _ _ ⟨rfl, rfl⟩
  go_wp2_with fail
  refine (A3.out _).mono ?_
  rintro _ w5 ⟨rfl, g5⟩
  have b0 : w5.cell? ⟨w3.heap.size, 0, none⟩ = some (.int .i64 0) := g5.cell (by simp [go_sem])
  have b1 : w5.cell? ⟨w3.heap.size, 1, none⟩ = some (.int .i64 0) := g5.cell (by simp [go_sem])
  have b2 : w5.cell? ⟨w3.heap.size, 2, none⟩ = some (.int .u64 0) := g5.cell (by simp [go_sem])
  have M5 := Lib.hid (M2.out.later (G4.out.trans g5))
  have R5 := Lib.hid ((G4.out.trans g5).cell RR.out)
  clear g5
  go_wp2_with fail
  refine (A4.out _).mono ?_
  rintro _ _ ⟨rfl, rfl⟩
  clear b0 b1 b2
  go_wp2_with fail
  refine (A5.out _).mono ?_
  rintro _ _ ⟨rfl, rfl⟩
  go_wp2_with fail
  refine (A6.out _).mono ?_
  rintro _ _ ⟨rfl, rfl⟩
  have r1 := R5.out
  go_wp2_with fail
  rw [rounds_succ]
  go_wp2_with fail
  clear r1
  have B1 := Lib.hid (look_is M5.out.t num WN.out.1)
  rw [show byN [] num = none from rfl] at B1
  simp only [Option.getD_none, Option.isSome_none] at B1
  unfold gv g0 at B1
  with_reducible refine B1.out.mono ?_
  rintro _ w6 ⟨rfl, g6⟩
  have M7 := Lib.hid (M5.out.later (g6.alloc (.cells #[.int .i64 0, .int .i64 0, .int .u64 0] 39)))
  have B2 := Lib.hid (of_is M7.out.t job WN.out.2)
  rw [show byJ [] job = none from rfl] at B2
  simp only [Option.getD_none, Option.isSome_none] at B2
  unfold g0 at B2
  have B3 := Lib.hid (drop_no M7.out.t num WN.out.1 rfl)
  clear g6
  go_wp2_with fail
  with_reducible refine B2.out.mono ?_
  rintro _ _ ⟨rfl, rfl⟩
  go_wp2_with fail
  with_reducible refine B3.out.mono ?_
  rintro _ w8 ⟨rfl, g8⟩
  have b0 : w8.cell? ⟨w6.heap.size, 0, none⟩ = some (.int .i64 0) := g8.cell (by simp [go_sem])
  have b1 : w8.cell? ⟨w6.heap.size, 1, none⟩ = some (.int .i64 0) := g8.cell (by simp [go_sem])
  have b2 : w8.cell? ⟨w6.heap.size, 2, none⟩ = some (.int .u64 0) := g8.cell (by simp [go_sem])
  have M8 := Lib.hid (M7.out.later g8)
  have OV := Lib.hid (m_over M8.out at')
  rw [show ov at' [] = [] from rfl, show lf at' [] = [] from rfl] at OV
  clear g8
  go_wp2_with fail
  with_reducible refine OV.out.mono ?_
  rintro _ w9 ⟨v, rfl, ⟨ao, cap, rfl, _, _⟩, m9, _⟩
  have M9 := Lib.hid m9
  have LI := Lib.hid (list_is m9.t)
  clear m9 b0 b1 b2
  simp only [List.length_nil]
  go_wp2_with fail
  with_reducible refine LI.out.mono ?_
  rintro _ w10 ⟨v, rfl, ⟨ao2, cap2, rfl, _, _⟩, g10⟩
  have M10 := Lib.hid (M9.out.later g10)
  have LE := Lib.hid (len_is M10.out.t)
  simp only [List.length_nil] at LE
  clear g10
  simp only [List.length_nil]
  go_wp2_with fail
  with_reducible refine LE.out.mono ?_
  rintro _ _ ⟨rfl, rfl⟩
  go_wp2_with fail
  rw [rounds_succ]
  go_wp2_with fail
  refine (WK.out _).mono ?_
  rintro _ w11 ⟨rfl, g⟩
  have G := Lib.hid (M10.out.g.trans g)
  clear g
  go_wp2_with fail
  go_ret
  exact ⟨rfl, G.out⟩
end Go.Proofs.Ytoejmopppkjaoaa
