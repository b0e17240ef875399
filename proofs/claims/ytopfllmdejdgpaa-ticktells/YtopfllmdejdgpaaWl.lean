/- The walk of TickTells. -/
import Derived.Test.YtopfllmdejdgpaaWk
namespace Go.Proofs.Ytopfllmdejdgpaa
open Go.RowKit TM

theorem box_cell0 (d : Nat → Int) (w : World) (i : Nat) (h : i < 11) :
    (w.alloc (.cells #[.int .i64 (d 0), .int .i64 (d 1), .int .i64 (d 2), .int .i64 (d 3), .int .i64 (d 4), .int .i64 (d 5), .int .i64 (d 6), .int .i64 (d 7), .int .i64 (d 8), .int .i64 (d 9), .int .i64 (d 10)] 23)).cell? ⟨w.heap.size, i, none⟩ = some (.int .i64 (d i)) := by
  have := arr_get d i h
  rw [← arr_lit d]
  simp [go_sem, this]
theorem digits_grw (x : Int) (w : World) (hx : Wd x) : Calls Try.prog 16 #[.int .u64 x] w fun e w' => e = .returned (.agg #[.int .i64 (dig x 0), .int .i64 (dig x 1), .int .i64 (dig x 2), .int .i64 (dig x 3), .int .i64 (dig x 4), .int .i64 (dig x 5), .int .i64 (dig x 6), .int .i64 (dig x 7), .int .i64 (dig x 8), .int .i64 (dig x 9), .int .i64 (dig x 10)]) ∧ Grw w w' :=
  (digits_any x w hx).mono fun _ _ ⟨he, _, _, hw⟩ => ⟨he, by rw [hw]; exact ((Grw.rfl' _).alloc _).alloc _⟩
theorem rdigits_grw (x : Int) (w : World) (hx : Wd x) : Calls Try.prog 17 #[.int .u64 x] w fun e w' => e = .returned (.agg #[.int .i64 (dig x 0), .int .i64 (dig x 1), .int .i64 (dig x 2), .int .i64 (dig x 3), .int .i64 (dig x 4), .int .i64 (dig x 5), .int .i64 (dig x 6), .int .i64 (dig x 7), .int .i64 (dig x 8), .int .i64 (dig x 9), .int .i64 (dig x 10)]) ∧ Grw w w' :=
  (rdigits_any x w hx).mono fun _ _ ⟨he, _, _, hw⟩ => ⟨he, by rw [hw]; exact ((Grw.rfl' _).alloc _).alloc _⟩

set_option maxHeartbeats 4000000 in
set_option maxRecDepth 100000 in
theorem tells_walk (a b : Int) (d : Nat → Int) (w : World) (ha : Wd a) (hb : Wd b) :
    Calls Try.prog 3 #[.int .u64 a, .int .u64 b, .agg #[.int .i64 (d 0), .int .i64 (d 1), .int .i64 (d 2), .int .i64 (d 3), .int .i64 (d 4), .int .i64 (d 5), .int .i64 (d 6), .int .i64 (d 7), .int .i64 (d 8), .int .i64 (d 9), .int .i64 (d 10)]] w fun e w' => e = .returned (.bool true) ∧ Grw w w' := by
  have C8 := Lib.hid (fun w => sum_any a b w ha hb)
  have C9 := Lib.hid (fun w => times_any a b w ha hb)
  have C10 := Lib.hid (fun w => of_any d w)
  have C11 := Lib.hid (fun w => rsum_any a b w ha hb)
  have C12 := Lib.hid (fun w => rtimes_any a b w ha hb)
  have C13 := Lib.hid (fun w => rof_any d w)
  have C14 := Lib.hid (fun w => held_any a b w ha hb)
  have C15 := Lib.hid (fun w => rheld_any a b w ha hb)
  have C16 := Lib.hid (fun w => digits_grw a w ha)
  have C17 := Lib.hid (fun w => rdigits_grw a w ha)
  have C18 := Lib.hid (fun w => top_any a b w ha hb)
  have C19 := Lib.hid (fun w => rtop_any a b w ha hb)
  have EQ := fun w => eq23_same (dig a) w
  clear ha hb
  generalize sumV a b = sv at *
  generalize sumB a b = sb at *
  generalize mulV a b = mv at *
  generalize mulB a b = mb at *
  generalize ofV d = ov at *
  generalize ofB d = ob at *
  generalize heldV a b = hv at *
  generalize topV a b = tv at *
  go_enter Try.func3, Try.ntmps3
  go_wp2_with fail
  refine (C8.out _).mono ?_
  rintro _ _ ⟨rfl, rfl⟩
  go_wp2_with fail
  refine (C9.out _).mono ?_
  rintro _ _ ⟨rfl, rfl⟩
  go_wp2_with fail
  refine (C10.out _).mono ?_
  rintro _ w1 ⟨rfl, hw1⟩
  have G := ((Grw.rfl' w).alloc _).trans hw1
  have q0 := (hw1.cell (box_cell0 d w 0 (by omega)))
  have q1 := (hw1.cell (box_cell0 d w 1 (by omega)))
  have q2 := (hw1.cell (box_cell0 d w 2 (by omega)))
  have q3 := (hw1.cell (box_cell0 d w 3 (by omega)))
  have q4 := (hw1.cell (box_cell0 d w 4 (by omega)))
  have q5 := (hw1.cell (box_cell0 d w 5 (by omega)))
  have q6 := (hw1.cell (box_cell0 d w 6 (by omega)))
  have q7 := (hw1.cell (box_cell0 d w 7 (by omega)))
  have q8 := (hw1.cell (box_cell0 d w 8 (by omega)))
  have q9 := (hw1.cell (box_cell0 d w 9 (by omega)))
  have q10 := (hw1.cell (box_cell0 d w 10 (by omega)))
  clear hw1 C8 C9 C10
  go_wp2_with fail
  refine (C11.out _).mono ?_
  rintro _ w2 ⟨rfl, hw2⟩
  replace G := G.trans hw2
  replace q0 := hw2.cell q0
  replace q1 := hw2.cell q1
  replace q2 := hw2.cell q2
  replace q3 := hw2.cell q3
  replace q4 := hw2.cell q4
  replace q5 := hw2.cell q5
  replace q6 := hw2.cell q6
  replace q7 := hw2.cell q7
  replace q8 := hw2.cell q8
  replace q9 := hw2.cell q9
  replace q10 := hw2.cell q10
  clear hw2
  go_wp2_with fail
  refine (C12.out _).mono ?_
  rintro _ w3 ⟨rfl, hw3⟩
  replace G := G.trans hw3
  replace q0 := hw3.cell q0
  replace q1 := hw3.cell q1
  replace q2 := hw3.cell q2
  replace q3 := hw3.cell q3
  replace q4 := hw3.cell q4
  replace q5 := hw3.cell q5
  replace q6 := hw3.cell q6
  replace q7 := hw3.cell q7
  replace q8 := hw3.cell q8
  replace q9 := hw3.cell q9
  replace q10 := hw3.cell q10
  clear hw3
  go_wp2_with fail
  refine (C13.out _).mono ?_
  rintro _ w4 ⟨rfl, hw4⟩
  replace G := G.trans hw4
  clear hw4
  clear q0 q1 q2 q3 q4 q5 q6 q7 q8 q9 q10
  go_wp2_with fail
  refine (C14.out _).mono ?_
  rintro _ _ ⟨rfl, rfl⟩
  go_wp2_with fail
  refine (C15.out _).mono ?_
  rintro _ w6 ⟨rfl, hw6⟩
  replace G := G.trans hw6
  clear hw6
  go_wp2_with fail
  refine (C16.out _).mono ?_
  rintro _ w7 ⟨rfl, hw7⟩
  replace G := G.trans hw7
  clear hw7
  go_wp2_with fail
  refine (C17.out _).mono ?_
  rintro _ w8 ⟨rfl, hw8⟩
  replace G := G.trans hw8
  clear hw8
  go_wp2_with fail
  refine (C18.out _).mono ?_
  rintro _ _ ⟨rfl, rfl⟩
  go_wp2_with fail
  refine (C19.out _).mono ?_
  rintro _ w10 ⟨rfl, hw10⟩
  replace G := G.trans hw10
  clear hw10
  go_wp2_with fail
  refine (wakes_grw _).mono ?_
  rintro _ w11 ⟨rfl, hw11⟩
  replace G := G.trans hw11
  clear hw11
  go_wp2
  go_ret
  exact ⟨rfl, G⟩
end Go.Proofs.Ytopfllmdejdgpaa
