/- The walk of TickBack. -/
import Derived.Test.YtopfllmdejdgpaaWj
namespace Go.Proofs.Ytopfllmdejdgpaa
open Go.RowKit TM

theorem box_cell (d : Nat → Int) (w : World) (o1 o2 o3 : Obj) (i : Nat) (h : i < 11) :
    ((((w.alloc (.cells #[.int .i64 (d 0), .int .i64 (d 1), .int .i64 (d 2), .int .i64 (d 3), .int .i64 (d 4), .int .i64 (d 5), .int .i64 (d 6), .int .i64 (d 7), .int .i64 (d 8), .int .i64 (d 9), .int .i64 (d 10)] 23)).alloc o1).alloc o2).alloc o3).cell? ⟨w.heap.size, i, none⟩ = some (.int .i64 (d i)) := by
  have := arr_get d i h
  rw [← arr_lit d]
  simp [go_sem, this]

set_option maxHeartbeats 1000000 in
theorem eq23_same (d : Nat → Int) (w : World) : (Op.equalIn 10000 23 (.agg #[.int .i64 (d 0), .int .i64 (d 1), .int .i64 (d 2), .int .i64 (d 3), .int .i64 (d 4), .int .i64 (d 5), .int .i64 (d 6), .int .i64 (d 7), .int .i64 (d 8), .int .i64 (d 9), .int .i64 (d 10)]) (.agg #[.int .i64 (d 0), .int .i64 (d 1), .int .i64 (d 2), .int .i64 (d 3), .int .i64 (d 4), .int .i64 (d 5), .int .i64 (d 6), .int .i64 (d 7), .int .i64 (d 8), .int .i64 (d 9), .int .i64 (d 10)])).run Try.prog w = .ok true w := by
  have u3 := Try.underlying3
  have a3 := Try.isAgg3
  have z3 := Try.sizeOf3
  rw [show (10000 : Nat) = 9999 + 1 from rfl, Op.equalIn]
  simp only [Sem.run_bind, run_underlying Try.underlying23, Result.andThen_ok]
  simp only [Std.Legacy.Range.forIn_eq_forIn_range', Std.Legacy.Range.size, Nat.sub_zero, Nat.add_sub_cancel, Nat.div_one, List.range'_succ, List.range'_zero, List.forIn_cons, List.forIn_nil]
  go_simp

theorem digits_back (d : Nat → Int) (w : World) (h : ofB d = true) :
    Calls Try.prog 16 #[.int .u64 (ofV d)] w fun e w' => e = .returned (.agg #[.int .i64 (d 0), .int .i64 (d 1), .int .i64 (d 2), .int .i64 (d 3), .int .i64 (d 4), .int .i64 (d 5), .int .i64 (d 6), .int .i64 (d 7), .int .i64 (d 8), .int .i64 (d 9), .int .i64 (d 10)]) ∧ Grw w w' := by
  have c := digits_any (ofV d) w (ofV_wd d)
  simp only [dig_ofV d h 0 (by omega), dig_ofV d h 1 (by omega), dig_ofV d h 2 (by omega), dig_ofV d h 3 (by omega), dig_ofV d h 4 (by omega), dig_ofV d h 5 (by omega), dig_ofV d h 6 (by omega), dig_ofV d h 7 (by omega), dig_ofV d h 8 (by omega), dig_ofV d h 9 (by omega), dig_ofV d h 10 (by omega)] at c
  exact c.mono fun _ _ ⟨he, _, _, hw⟩ => ⟨he, by rw [hw]; exact ((Grw.rfl' _).alloc _).alloc _⟩

set_option maxHeartbeats 2000000 in
set_option maxRecDepth 100000 in
theorem back_walk (a : Int) (d : Nat → Int) (w : World) (ha : Wd a) :
    Calls Try.prog 5 #[.int .u64 a, .agg #[.int .i64 (d 0), .int .i64 (d 1), .int .i64 (d 2), .int .i64 (d 3), .int .i64 (d 4), .int .i64 (d 5), .int .i64 (d 6), .int .i64 (d 7), .int .i64 (d 8), .int .i64 (d 9), .int .i64 (d 10)]] w fun e w' => e = .returned (.bool true) ∧ Grw w w' := by
  have D1 := Lib.hid (fun w => digits_any a w ha)
  have F1 := of_any (dig a)
  rw [ofV_dig a ha, ofB_dig a ha] at F1
  have O1 := Lib.hid F1
  have O2 := Lib.hid (fun w => of_any d w)
  have R := Lib.hid (dig_ten a ha)
  clear F1
  go_enter Try.func5, Try.ntmps5
  go_wp2_with fail
  refine (D1.out _).mono ?_
  rintro _ _ ⟨rfl, c1, c2, rfl⟩
  go_wp2_with fail
  rw [← dcells_all a]
  go_loop [6] (fun v => ∃ i : Nat, i ≤ 11 ∧ v = .int .i64 i) (fun v => 11 - (intOf v).toNat)
  case atStart => exact ⟨0, by omega, rfl⟩
  case round =>
    clear D1
    obtain ⟨i, hi, rfl⟩ := hrel
    by_cases hlt : i < 11
    · have hg := dcells_get a 11 i hlt
      rw [if_pos hlt] at hg
      obtain ⟨r0, r1⟩ := dig_range a i
      have i1 : (i : Int) < 11 := by omega
      clear O1 O2
      by_cases h9 : i = 10
      · subst h9
        have r2 := R.out
        clear R
        go_wp2
        go_round
        case rel => exact ⟨11, by omega, by go_num⟩
        case measure => simp [intOf]
      · have h9' : ((i : Int) == 10) = false := by simp; omega
        clear h9 R
        go_wp2
        go_round
        case rel => exact ⟨i + 1, by omega, by go_num⟩
        case measure => simp [intOf]; omega
    · have e : i = 11 := by omega
      subst e
      rw [dcells_all a]
      clear R
      go_wp2_with fail
      refine (O1.out _).mono ?_
      rintro _ w1 ⟨rfl, hw1⟩
      have G := (((((Grw.rfl' w).alloc _).alloc _).alloc _).alloc _).trans hw1
      have q0 := hw1.cell (box_cell d w _ _ _ 0 (by omega))
      have q1 := hw1.cell (box_cell d w _ _ _ 1 (by omega))
      have q2 := hw1.cell (box_cell d w _ _ _ 2 (by omega))
      have q3 := hw1.cell (box_cell d w _ _ _ 3 (by omega))
      have q4 := hw1.cell (box_cell d w _ _ _ 4 (by omega))
      have q5 := hw1.cell (box_cell d w _ _ _ 5 (by omega))
      have q6 := hw1.cell (box_cell d w _ _ _ 6 (by omega))
      have q7 := hw1.cell (box_cell d w _ _ _ 7 (by omega))
      have q8 := hw1.cell (box_cell d w _ _ _ 8 (by omega))
      have q9 := hw1.cell (box_cell d w _ _ _ 9 (by omega))
      have q10 := hw1.cell (box_cell d w _ _ _ 10 (by omega))
      clear hw1 O1
      go_wp2_with fail
      refine (O2.out _).mono ?_
      rintro _ w2 ⟨rfl, hw2⟩
      replace G := G.trans hw2
      replace q0 := gw_cell (hw2.cell q0)
      replace q1 := gw_cell (hw2.cell q1)
      replace q2 := gw_cell (hw2.cell q2)
      replace q3 := gw_cell (hw2.cell q3)
      replace q4 := gw_cell (hw2.cell q4)
      replace q5 := gw_cell (hw2.cell q5)
      replace q6 := gw_cell (hw2.cell q6)
      replace q7 := gw_cell (hw2.cell q7)
      replace q8 := gw_cell (hw2.cell q8)
      replace q9 := gw_cell (hw2.cell q9)
      replace q10 := gw_cell (hw2.cell q10)
      clear hw2 O2
      by_cases hb : ofB d = true
      · have B := Lib.hid (fun w => digits_back d w hb)
        have EQ := fun w => eq23_same d w
        rw [hb]
        clear hb
        go_wp2_with fail
        refine wp_region_grown (by kernel_rfl) (by kernel_rfl) ?_
        repeat (go_big_quiet_step (first | (go_at_call 20; exact calls_grown (wakes_grw _)) | (go_at_call 16; exact calls_grown (B.out _))))
        refine wpQuiet_nil ?_
        rintro _ ⟨q, rfl⟩
        go_wp2
        go_ret
        exact ⟨rfl, G.trans q.h⟩
      · have e : ofV d = 0 := by unfold ofV; rw [if_neg hb]
        have hb' : ofB d = false := by simpa using hb
        rw [e, hb']
        clear e hb hb'
        go_wp2_with fail
        refine wp_region_grown (by kernel_rfl) (by kernel_rfl) ?_
        repeat (go_big_quiet_step (first | (go_at_call 20; exact calls_grown (wakes_grw _))))
        refine wpQuiet_nil ?_
        rintro _ ⟨q, rfl⟩
        go_wp2
        go_ret
        exact ⟨rfl, G.trans q.h⟩
end Go.Proofs.Ytopfllmdejdgpaa
