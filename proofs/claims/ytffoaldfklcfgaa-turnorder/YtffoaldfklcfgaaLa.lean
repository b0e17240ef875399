/- The law TurnOrder, walked. -/
import Derived.Test.YtffoaldfklcfgaaWc
import Derived.Deep.CutRange
import Derived.Deep.DeepCutAuto
namespace Go.Proofs.Ytffoaldfklcfgaa
open Go.RowKit
set_option linter.unusedSimpArgs false

set_option maxRecDepth 100000 in
theorem job_at (i : Int) (p q : Nat) (z : Int) (w : World) (hp : p < 65536) (hq : q < 65536) (hz : (p : Int) % 8 = z) :
    Calls Try.prog 21 #[.int .i64 i, .agg #[.int .u16 (p : Nat), .int .u16 (q : Nat)]] w fun e w' => e = .returned (.agg #[.int .i64 i, .int .i64 z, .int .i64 (q : Nat)]) ∧ (w.alloc (.cells #[.int .u16 (p : Nat), .int .u16 (q : Nat)] 37)).alloc (.cells #[.int .i64 i, .int .i64 z, .int .i64 (q : Nat)] 24) = w' := by
  have q1 : IntKind.i64.wrap (p : Int) = p := by simp [IntKind.wrap_i64]; omega
  have q2 : IntKind.i64.wrap (q : Int) = q := by simp [IntKind.wrap_i64]; omega
  subst hz
  go_enter Try.func21, Try.ntmps21
  go_wp2_with fail
  exact bodyPost_ret (v := .agg #[.int .i64 i, .int .i64 ((p : Int) % 8), .int .i64 (q : Nat)]) (by simp [results, Try.results21, go_sem]) rfl ⟨rfl, rfl⟩
theorem Bx.new' (w : World) (b : Nat) (c0 c1 c2 : Value) (T : TypeId) (h : w.heap.size = b) : Bx (w.alloc (.cells #[c0, c1, c2] T)) b c0 c1 c2 := by subst h; exact Bx.new w c0 c1 c2 T
set_option maxHeartbeats 0 in
set_option maxRecDepth 100000 in
theorem order_walk (g n0 n1 n2 n3 n4 n5 : Nat) (w : World) (hg : g < 65536) (h0 : n0 < 65536) (h1 : n1 < 65536) (h2 : n2 < 65536) (h3 : n3 < 65536) (h4 : n4 < 65536) (h5 : n5 < 65536) :
    Calls Try.prog 4 #[.int .u16 (g : Nat), .agg #[.int .u16 (n0 : Nat), .int .u16 (n1 : Nat), .int .u16 (n2 : Nat), .int .u16 (n3 : Nat), .int .u16 (n4 : Nat), .int .u16 (n5 : Nat)]] w fun e w' => e = .returned (.bool true) ∧ Grw w w' := by
  obtain ⟨x0, hx0⟩ : ∃ x0, (n0 : Int) % 8 = x0 := ⟨_, rfl⟩
  obtain ⟨y0, hy0⟩ : ∃ y0, (n2 : Int) % 8 = y0 := ⟨_, rfl⟩
  obtain ⟨z0, hz0⟩ : ∃ z0, (n4 : Int) % 8 = z0 := ⟨_, rfl⟩
  have J1 := Lib.hid (fun w => job_at 1 n0 n1 x0 w h0 h1 hx0)
  have J2 := Lib.hid (fun w => job_at 2 n2 n3 y0 w h2 h3 hy0)
  have J3 := Lib.hid (fun w => job_at 3 n4 n5 z0 w h4 h5 hz0)
  obtain ⟨a, ha⟩ : ∃ a : Int, 1 + (g : Int) % 1000 = a := ⟨_, rfl⟩
  have q1 : IntKind.i64.wrap (g : Int) = g := by simp [IntKind.wrap_i64]; omega
  have q3 : IntKind.i64.wrap (1 + (g : Int) % 1000) = a := by rw [ha]; simp [IntKind.wrap_i64]; omega
  have KE : Hid (∀ u, Grw (w.alloc (.cells #[.int .u16 (n0 : Nat), .int .u16 (n1 : Nat), .int .u16 (n2 : Nat), .int .u16 (n3 : Nat), .int .u16 (n4 : Nat), .int .u16 (n5 : Nat)] 38)) u → (u.cell? ⟨w.heap.size, 0, none⟩ = some (.int .u16 (n0 : Nat)) ∧ u.cell? ⟨w.heap.size, 1, none⟩ = some (.int .u16 (n1 : Nat)) ∧ u.cell? ⟨w.heap.size, 2, none⟩ = some (.int .u16 (n2 : Nat)) ∧ u.cell? ⟨w.heap.size, 3, none⟩ = some (.int .u16 (n3 : Nat)) ∧ u.cell? ⟨w.heap.size, 4, none⟩ = some (.int .u16 (n4 : Nat)) ∧ u.cell? ⟨w.heap.size, 5, none⟩ = some (.int .u16 (n5 : Nat)))) :=
    (fun u h => ⟨h.cell (by simp [go_sem]), h.cell (by simp [go_sem]), h.cell (by simp [go_sem]), h.cell (by simp [go_sem]), h.cell (by simp [go_sem]), h.cell (by simp [go_sem])⟩ : ∀ u, Grw (w.alloc (.cells #[.int .u16 (n0 : Nat), .int .u16 (n1 : Nat), .int .u16 (n2 : Nat), .int .u16 (n3 : Nat), .int .u16 (n4 : Nat), .int .u16 (n5 : Nat)] 38)) u → (u.cell? ⟨w.heap.size, 0, none⟩ = some (.int .u16 (n0 : Nat)) ∧ u.cell? ⟨w.heap.size, 1, none⟩ = some (.int .u16 (n1 : Nat)) ∧ u.cell? ⟨w.heap.size, 2, none⟩ = some (.int .u16 (n2 : Nat)) ∧ u.cell? ⟨w.heap.size, 3, none⟩ = some (.int .u16 (n3 : Nat)) ∧ u.cell? ⟨w.heap.size, 4, none⟩ = some (.int .u16 (n4 : Nat)) ∧ u.cell? ⟨w.heap.size, 5, none⟩ = some (.int .u16 (n5 : Nat))))
  clear h0 h1 h2 h3 h4 h5 hx0 hy0 hz0 ha
  go_enter Try.func4, Try.ntmps4
  go_upto_region 2 with fail
  go_cut [6, 7, 8] from 13 to 21 (fun s6 s7 s8 wx => ∃ b6 b7 b8, s6 = .pointer (some ⟨b6, 0, none⟩) ∧ s7 = .pointer (some ⟨b7, 0, none⟩) ∧ s8 = .pointer (some ⟨b8, 0, none⟩) ∧ Bx wx b6 (.int .i64 1) (.int .i64 x0) (.int .i64 (n1 : Nat)) ∧ Bx wx b7 (.int .i64 2) (.int .i64 y0) (.int .i64 (n3 : Nat)) ∧ Bx wx b8 (.int .i64 3) (.int .i64 z0) (.int .i64 (n5 : Nat)) ∧ Grw w wx)
  case first =>
    go_region_held3 (fun u => u.cell? ⟨w.heap.size, 0, none⟩ = some (.int .u16 (n0 : Nat)) ∧ u.cell? ⟨w.heap.size, 1, none⟩ = some (.int .u16 (n1 : Nat)) ∧ u.cell? ⟨w.heap.size, 2, none⟩ = some (.int .u16 (n2 : Nat)) ∧ u.cell? ⟨w.heap.size, 3, none⟩ = some (.int .u16 (n3 : Nat)) ∧ u.cell? ⟨w.heap.size, 4, none⟩ = some (.int .u16 (n4 : Nat)) ∧ u.cell? ⟨w.heap.size, 5, none⟩ = some (.int .u16 (n5 : Nat)))
      ((refine KE.out _ ?_; repeat (first | with_reducible exact Grw.rfl' _ | with_reducible refine Grw.drew ?_ | with_reducible refine Grw.alloc ?_ _)))
      (first | (go_at_call 21; with_reducible refine (J1.out _).mono ?_; rintro _ _ ⟨rfl, rfl⟩) | (go_at_call 21; with_reducible refine (J2.out _).mono ?_; rintro _ _ ⟨rfl, rfl⟩) | (go_at_call 21; with_reducible refine (J3.out _).mono ?_; rintro _ _ ⟨rfl, rfl⟩))
    all_goals
      go_wp2_with fail
      go_meet
      refine ⟨_, _, _, rfl, rfl, rfl, ?_, ?_, ?_, ?_⟩
    all_goals first
      | ((repeat (first | (refine Bx.new' _ _ _ _ _ _ ?_; simp [go_sem]; done) | with_reducible refine Bx.later ?_ ((Grw.rfl' _).drew) | with_reducible refine Bx.later ?_ ((Grw.rfl' _).alloc _))); done)
      | ((repeat (first | with_reducible exact Grw.rfl' _ | with_reducible refine Grw.drew ?_ | with_reducible refine Grw.alloc ?_ _)); done)
  case rest =>
    obtain ⟨b6, b7, b8, rfl, rfl, rfl, hbx, hby, hbz, hgr⟩ := hcut
    obtain ⟨t1, ht1⟩ : ∃ t, les a ⟨1, x0, n1⟩ ⟨2, y0, n3⟩ = t := ⟨_, rfl⟩
    obtain ⟨t2, ht2⟩ : ∃ t, les a ⟨2, y0, n3⟩ ⟨1, x0, n1⟩ = t := ⟨_, rfl⟩
    obtain ⟨t3, ht3⟩ : ∃ t, les a ⟨2, y0, n3⟩ ⟨3, z0, n5⟩ = t := ⟨_, rfl⟩
    obtain ⟨t4, ht4⟩ : ∃ t, les a ⟨1, x0, n1⟩ ⟨3, z0, n5⟩ = t := ⟨_, rfl⟩
    have C1 := Lib.hid (fun w => less_is a 1 x0 n1 2 y0 n3 t1 w ht1)
    have C2 := Lib.hid (fun w => less_is a 2 y0 n3 1 x0 n1 t2 w ht2)
    have C3 := Lib.hid (fun w => less_is a 2 y0 n3 3 z0 n5 t3 w ht3)
    have C4 := Lib.hid (fun w => less_is a 1 x0 n1 3 z0 n5 t4 w ht4)
    have C5 := Lib.hid (fun w => less_is a 1 x0 n1 1 x0 n1 false w (les_irr _ _))
    have WK := Lib.hid wakes_any
    have h12 : t2 = !t1 := by
      cases t1 with
      | true => rw [← ht2]; exact les_asym ht1
      | false => rw [← ht2]; exact les_tot ht1 (by simp)
    have h34 : t1 = true → t3 = true → t4 = true := fun e1 e3 => by rw [← ht4]; exact les_trans (by rw [ht1]; exact e1) (by rw [ht3]; exact e3)
    have BX := Lib.hid hbx
    have BY := Lib.hid hby
    have BZ := Lib.hid hbz
    have G := Lib.hid hgr
    have m0 := gw_cell hbx.c0
    have m1 := gw_cell hbx.c1
    have m2 := gw_cell hbx.c2
    have m3 := gw_cell hby.c0
    have m4 := gw_cell hby.c1
    have m5 := gw_cell hby.c2
    clear hbx hby hbz hgr ht1 ht2 ht3 ht4
    cases t1 with
    | false =>
      obtain rfl : t2 = true := by rw [h12]; rfl
      clear h34 h12
      go_wp2_with fail
      refine wp_region_grown (by kernel_rfl) (by kernel_rfl) ?_
      repeat (go_big_quiet_step (first | (go_at_call 9; first | with_reducible exact calls_grown (C1.out _) | with_reducible exact calls_grown (C2.out _) | with_reducible exact calls_grown (C5.out _))))
      refine wpQuiet_nil ?_
      rintro _ ⟨q, rfl⟩
      have X1 := Lib.hid (BX.out.later q.h)
      have Y1 := Lib.hid (BY.out.later q.h)
      have Z1 := Lib.hid (BZ.out.later q.h)
      have G1 := Lib.hid (G.out.trans q.h)
      clear m0 m1 m2 m3 m4 m5
      have p0 := X1.out.c0
      have p1 := X1.out.c1
      have p2 := X1.out.c2
      have q0 := Y1.out.c0
      have q1 := Y1.out.c1
      have q2 := Y1.out.c2
      have r0 := Z1.out.c0
      have r1 := Z1.out.c1
      have r2 := Z1.out.c2
      go_wp2_with fail
      refine (C1.out _).mono ?_
      rintro _ w2 ⟨rfl, hw⟩
      have X2 := Lib.hid (X1.out.later hw)
      have Y2 := Lib.hid (Y1.out.later hw)
      have Z2 := Lib.hid (Z1.out.later hw)
      have G2 := Lib.hid (G1.out.trans hw)
      clear hw
      clear p0 p1 p2 q0 q1 q2 r0 r1 r2
      go_wp2_with fail
      refine (WK.out _).mono ?_
      rintro _ w3 ⟨rfl, hw⟩
      have GE := Lib.hid (G2.out.trans hw)
      clear hw
      go_wp2_with fail
      go_ret
      exact ⟨rfl, GE.out⟩
    | true =>
      obtain rfl : t2 = false := by rw [h12]; rfl
      cases t3 with
      | false =>
        clear h34 h12
        go_wp2_with fail
        refine wp_region_grown (by kernel_rfl) (by kernel_rfl) ?_
        repeat (go_big_quiet_step (first | (go_at_call 9; first | with_reducible exact calls_grown (C1.out _) | with_reducible exact calls_grown (C2.out _) | with_reducible exact calls_grown (C5.out _))))
        refine wpQuiet_nil ?_
        rintro _ ⟨q, rfl⟩
        have X1 := Lib.hid (BX.out.later q.h)
        have Y1 := Lib.hid (BY.out.later q.h)
        have Z1 := Lib.hid (BZ.out.later q.h)
        have G1 := Lib.hid (G.out.trans q.h)
        clear m0 m1 m2 m3 m4 m5
        have p0 := X1.out.c0
        have p1 := X1.out.c1
        have p2 := X1.out.c2
        have q0 := Y1.out.c0
        have q1 := Y1.out.c1
        have q2 := Y1.out.c2
        have r0 := Z1.out.c0
        have r1 := Z1.out.c1
        have r2 := Z1.out.c2
        go_wp2_with fail
        refine (C1.out _).mono ?_
        rintro _ w2 ⟨rfl, hw⟩
        have X2 := Lib.hid (X1.out.later hw)
        have Y2 := Lib.hid (Y1.out.later hw)
        have Z2 := Lib.hid (Z1.out.later hw)
        have G2 := Lib.hid (G1.out.trans hw)
        clear hw
        clear p0 p1 p2 q0 q1 q2 r0 r1 r2
        have p0 := X2.out.c0
        have p1 := X2.out.c1
        have p2 := X2.out.c2
        have q0 := Y2.out.c0
        have q1 := Y2.out.c1
        have q2 := Y2.out.c2
        have r0 := Z2.out.c0
        have r1 := Z2.out.c1
        have r2 := Z2.out.c2
        go_wp2_with fail
        refine (C3.out _).mono ?_
        rintro _ w3 ⟨rfl, hw⟩
        have X3 := Lib.hid (X2.out.later hw)
        have Y3 := Lib.hid (Y2.out.later hw)
        have Z3 := Lib.hid (Z2.out.later hw)
        have G3 := Lib.hid (G2.out.trans hw)
        clear hw
        clear p0 p1 p2 q0 q1 q2 r0 r1 r2
        go_wp2_with fail
        refine (WK.out _).mono ?_
        rintro _ w4 ⟨rfl, hw⟩
        have GE := Lib.hid (G3.out.trans hw)
        clear hw
        go_wp2_with fail
        go_ret
        exact ⟨rfl, GE.out⟩
      | true =>
        obtain rfl : t4 = true := h34 rfl rfl
        clear h34 h12
        go_wp2_with fail
        refine wp_region_grown (by kernel_rfl) (by kernel_rfl) ?_
        repeat (go_big_quiet_step (first | (go_at_call 9; first | with_reducible exact calls_grown (C1.out _) | with_reducible exact calls_grown (C2.out _) | with_reducible exact calls_grown (C5.out _))))
        refine wpQuiet_nil ?_
        rintro _ ⟨q, rfl⟩
        have X1 := Lib.hid (BX.out.later q.h)
        have Y1 := Lib.hid (BY.out.later q.h)
        have Z1 := Lib.hid (BZ.out.later q.h)
        have G1 := Lib.hid (G.out.trans q.h)
        clear m0 m1 m2 m3 m4 m5
        have p0 := X1.out.c0
        have p1 := X1.out.c1
        have p2 := X1.out.c2
        have q0 := Y1.out.c0
        have q1 := Y1.out.c1
        have q2 := Y1.out.c2
        have r0 := Z1.out.c0
        have r1 := Z1.out.c1
        have r2 := Z1.out.c2
        go_wp2_with fail
        refine (C1.out _).mono ?_
        rintro _ w2 ⟨rfl, hw⟩
        have X2 := Lib.hid (X1.out.later hw)
        have Y2 := Lib.hid (Y1.out.later hw)
        have Z2 := Lib.hid (Z1.out.later hw)
        have G2 := Lib.hid (G1.out.trans hw)
        clear hw
        clear p0 p1 p2 q0 q1 q2 r0 r1 r2
        have p0 := X2.out.c0
        have p1 := X2.out.c1
        have p2 := X2.out.c2
        have q0 := Y2.out.c0
        have q1 := Y2.out.c1
        have q2 := Y2.out.c2
        have r0 := Z2.out.c0
        have r1 := Z2.out.c1
        have r2 := Z2.out.c2
        go_wp2_with fail
        refine (C3.out _).mono ?_
        rintro _ w3 ⟨rfl, hw⟩
        have X3 := Lib.hid (X2.out.later hw)
        have Y3 := Lib.hid (Y2.out.later hw)
        have Z3 := Lib.hid (Z2.out.later hw)
        have G3 := Lib.hid (G2.out.trans hw)
        clear hw
        clear p0 p1 p2 q0 q1 q2 r0 r1 r2
        have p0 := X3.out.c0
        have p1 := X3.out.c1
        have p2 := X3.out.c2
        have q0 := Y3.out.c0
        have q1 := Y3.out.c1
        have q2 := Y3.out.c2
        have r0 := Z3.out.c0
        have r1 := Z3.out.c1
        have r2 := Z3.out.c2
        go_wp2_with fail
        refine (C4.out _).mono ?_
        rintro _ w4 ⟨rfl, hw⟩
        have X4 := Lib.hid (X3.out.later hw)
        have Y4 := Lib.hid (Y3.out.later hw)
        have Z4 := Lib.hid (Z3.out.later hw)
        have G4 := Lib.hid (G3.out.trans hw)
        clear hw
        clear p0 p1 p2 q0 q1 q2 r0 r1 r2
        go_wp2_with fail
        refine (WK.out _).mono ?_
        rintro _ w5 ⟨rfl, hw⟩
        have GE := Lib.hid (G4.out.trans hw)
        clear hw
        go_wp2_with fail
        go_ret
        exact ⟨rfl, GE.out⟩
end Go.Proofs.Ytffoaldfklcfgaa
