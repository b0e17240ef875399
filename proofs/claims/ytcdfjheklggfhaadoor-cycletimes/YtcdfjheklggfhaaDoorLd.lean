/- The walk of CycleTimes. -/
import Derived.Test.YtcdfjheklggfhaaDoorXg
import Derived.Test.YtcdfjheklggfhaaDoorXk
namespace Go.Proofs.YtcdfjheklggfhaaDoor
open Go.RowKit SM
set_option linter.unusedSimpArgs false
set_option linter.unusedVariables false

/-- how a cycle is written, by the program and by the document. -/
theorem prints_both (n : Int) (x : Nat) (w : World) (h0 : -9223372036854775808 ≤ n) (h5 : n ≤ 9223372036854775807) (h6 : x < 18446744073709551616) (t : Tab w) :
    ∃ cs : ByteArray, (∀ w', Grw w w' → Calls Tryd.prog 11 #[.agg #[.int .i64 n, .int .u64 x]] w' fun e w'' => e = .returned (.tuple #[.string cs, .bool (goodB n x)]) ∧ Grw w' w'') ∧
      (∀ w, Calls Tryd.prog 15 #[.agg #[.int .i64 n, .int .u64 x]] w fun e w'' => e = .returned (.string cs) ∧ Grw w w'') := by
  rcases h : goodB n x with _ | _
  · exact ⟨⟨#[]⟩, fun w' _ => cprint_no n x w' h0 h5 h6 h, fun w => rcprint_no n x w h⟩
  · have hh := of_decide_eq_true h
    obtain ⟨m, rfl⟩ := Int.eq_ofNat_of_zero_le (show 0 ≤ n by omega)
    obtain ⟨cs, hc⟩ := ba_of (cycS m x)
    exact ⟨cs, fun w' g => cprint_yes m x cs w' (by omega) (by omega) hh.2.2.1 hh.2.2.2 (tab_grw g t) hc, fun w => rcprint_yes m x cs w (by omega) (by omega) hh.2.2.1 hh.2.2.2 hc⟩

set_option maxHeartbeats 8000000 in
set_option maxRecDepth 100000 in
theorem times_walk (n : Int) (x a b : Nat) (k : Int) (w : World) (h0 : -9223372036854775808 ≤ n) (h5 : n ≤ 9223372036854775807) (h6 : x < 18446744073709551616) (ha : a < 18446744073709551616) (hb : b < 18446744073709551616) (t : Tab w) :
    Calls Tryd.prog 4 #[.agg #[.int .i64 n, .int .u64 x], .agg #[.int .u64 a, .int .u64 b], .int .i64 k] w fun e w' => e = .returned (.bool true) ∧ Grw w w' := by
  obtain ⟨cs, P', R'⟩ := prints_both n x w h0 h5 h6 t
  have P := Lib.hid P'
  have R := Lib.hid R'
  have W := Lib.hid (fun w => when_any n x a k w h0 h5 h6 ha)
  have RW := Lib.hid (fun w => rwhen_any n x a k w h6 ha)
  have GD := Lib.hid (fun w => good_any n x w h0 h5 h6)
  have RG := Lib.hid (fun w => rgood_any n x w)
  have PS := Lib.hid (fun w => past_any n x a b w h0 h5 h6 hb)
  have RP := Lib.hid (fun w => rpast_any n x a b w h0 h5 h6 hb)
  clear P' R' t
  generalize goodB n x = g at *
  generalize whenV n x a k = v at *
  generalize whenB n x a k = wb at *
  generalize pastV n x a b = p at *
  go_enter Tryd.func4, Tryd.ntmps4
  go_wp2_with fail
  refine (P.out _ (((Grw.rfl' _).alloc _).alloc _)).mono ?_
  rintro _ w1 ⟨rfl, hw1⟩
  have K : Kp w1 w.heap.size (.int .i64 n) (.int .u64 x) := ((Kp.new w _ _ 25).later ((Grw.rfl' _).alloc _)).later hw1
  have L : Kp w1 (w.heap.size + 1) (.int .u64 a) (.int .u64 b) := by
    have := Kp.grown hw1
    rw [size_new] at this; exact this
  have G := hw1.two.two
  clear hw1 P
  have c0 := K.t.c0
  have c1 := K.t.c1
  have d0 := L.t.c0
  have d1 := L.t.c1
  go_wp2_with fail
  refine (W.out _).mono ?_
  rintro _ w2 ⟨rfl, hw2⟩
  replace K := K.later hw2
  replace L := L.later hw2
  replace G := Grw.trans G hw2
  clear hw2 c0 c1 d0 d1 W
  have c0 := K.t.c0
  have c1 := K.t.c1
  have d0 := L.t.c0
  have d1 := L.t.c1
  go_wp2_with fail
  have p0 := gw_cell c0
  have p1 := gw_cell c1
  have p2 := gw_cell d0
  have p3 := gw_cell d1
  clear c0 c1 d0 d1 K L
  refine wp_region_grown (by kernel_rfl) (by kernel_rfl) ?_
  repeat (go_big_quiet_step (first | (go_at_call 13; exact calls_grown (GD.out _)) | (go_at_call 14; exact calls_grown (RG.out _)) | (go_at_call 15; exact calls_grown (R.out _)) | (go_at_call 16; exact calls_grown (RW.out _)) | (go_at_call 17; exact calls_grown (PS.out _)) | (go_at_call 18; exact calls_grown (RP.out _)) | (go_at_call 8; exact calls_grown (wakes_any _))))
  refine wpQuiet_nil ?_
  rintro _ ⟨q', rfl⟩
  have hq' := q'.h
  clear p0 p1 p2 p3
  go_wp2_with fail
  go_ret
  exact ⟨rfl, G.trans hq'⟩
end Go.Proofs.YtcdfjheklggfhaaDoor
