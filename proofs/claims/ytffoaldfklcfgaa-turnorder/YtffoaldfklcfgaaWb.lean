/- The contracts of turn.First and Ahead and of the document's at this program, over rows of waiting jobs. -/
import Derived.Test.YtffoaldfklcfgaaWa
import Derived.Test.YtffoaldfklcfgaaRw
namespace Go.Proofs.Ytffoaldfklcfgaa
open Go.RowKit
set_option linter.unusedSimpArgs false

set_option maxHeartbeats 2000000 in
set_option maxRecDepth 100000 in
theorem first_is (a : Int) (ao : Option Addr) (cap : Nat) (l : List Wt) (n : Nat) (r : Int) (w : World) (hl : Lies w ao (cw l)) (hb : l.length ≤ 1000000) (hn : l.length = n) (hr : frs a l = r) :
    Calls Try.prog 15 #[.int .i64 a, .slice ao n cap] w fun e w' => e = .returned (.int .i64 r) ∧ Grw w w' := by
  have LI := Lib.hid hl
  unfold frs at hr
  rw [hn] at hb hr
  have HN := Lib.hid (And.intro hn hr)
  clear hl hn hr
  go_enter Try.func15, Try.ntmps15
  go_wp2_with fail
  go_loopw [5, 10] (fun u v wr => ∃ k : Nat, k ≤ n ∧ u = .int .i64 (scan a l k) ∧ v = .int .i64 k ∧ Grw w wr) (fun _ v _ => n - (intOf v).toNat)
  case atStart => exact ⟨0, Nat.zero_le _, rfl, rfl, Grw.rfl' _⟩
  case round =>
    obtain ⟨k, hk, rfl, rfl, hg⟩ := hrel
    have G := Lib.hid hg
    by_cases hk' : k < n
    · have hki : (k : Int) < (n : Int) := by omega
      have hkl : k < l.length := by rw [HN.out.1]; exact hk'
      obtain ⟨b, off, rfl, c0, c1, c2⟩ := wlies_at (LI.out.later hg) hkl
      obtain ⟨x, hx⟩ : ∃ x, l[k] = x := ⟨_, rfl⟩
      rw [hx] at c0 c1 c2
      rcases Nat.eq_zero_or_pos k with h0 | h0
      · have e0 : scan a l k = -1 := by rw [h0]; rfl
        have E1 : Hid (scan a l (k + 1) = k) := (by rw [h0]; exact scan_one a l : scan a l (k + 1) = k)
        rw [e0]
        have hd : decide ((-1 : Int) < 0) = true := by decide
        obtain ⟨xi, xc, xm⟩ := x
        simp only at c0 c1 c2
        clear hx hg h0 e0
        go_wp2_with fail
        refine wp_region_grown (by kernel_rfl) (by kernel_rfl) ?_
        repeat (go_big_quiet_step (fail))
        refine wpQuiet_nil ?_
        rintro _ ⟨q, rfl⟩
        have GQ := Lib.hid ((G.out.alloc _).trans q.h)
        clear c0 c1 c2
        go_wp2_with fail
        go_roundw
        case rel => exact ⟨k + 1, by omega, by rw [E1.out], by go_num, GQ.out⟩
        case measure => simp [intOf]; omega
      · obtain ⟨j, ej, hjk⟩ := scan_range a l h0 (by omega)
        have hjl : j < l.length := by omega
        obtain ⟨b2, off2, e2, d0, d1, d2⟩ := wlies_at (LI.out.later hg) hjl
        injection e2 with e2
        injection e2 with e2 e3
        subst e2 e3
        obtain ⟨y, hy⟩ : ∃ y, l[j] = y := ⟨_, rfl⟩
        rw [hy] at d0 d1 d2
        obtain ⟨t, ht⟩ : ∃ t, les a x y = t := ⟨_, rfl⟩
        have HX := Lib.hid (And.intro hx hy)
        have HT := Lib.hid ht
        have EJ := Lib.hid ej
        rw [ej]
        obtain ⟨xi, xc, xm⟩ := x
        obtain ⟨yi, yc, ym⟩ := y
        simp only at c0 c1 c2 d0 d1 d2
        have C := Lib.hid (fun w => less_is a xi xc xm yi yc ym t w ht)
        have hj0 : decide ((j : Int) < 0) = false := by simp
        have hjn : j < n := by omega
        have G1 := Lib.hid ((Grw.rfl' wr).alloc (.cells #[.int .i64 xi, .int .i64 xc, .int .i64 xm] 24))
        have BB := Lib.hid (Bx.new wr (.int .i64 xi) (.int .i64 xc) (.int .i64 xm) 24)
        have DD := Lib.hid (And.intro d0 (And.intro d1 d2))
        clear hx hy ht hg ej d0 d1 d2
        cases t with
        | true =>
          go_wp2_with fail
          have m0 := gw_cell BB.out.c0
          have m1 := gw_cell BB.out.c1
          have m2 := gw_cell BB.out.c2
          have m3 := gw_cell (G1.out.cell DD.out.1)
          have m4 := gw_cell (G1.out.cell DD.out.2.1)
          have m5 := gw_cell (G1.out.cell DD.out.2.2)
          refine wp_region_grown (by kernel_rfl) (by kernel_rfl) ?_
          repeat (go_big_quiet_step (first | (go_at_call 9; with_reducible exact calls_grown (C.out _))))
          refine wpQuiet_nil ?_
          rintro _ ⟨q, rfl⟩
          have GQ := Lib.hid ((G.out.alloc _).trans q.h)
          clear c0 c1 c2 m0 m1 m2 m3 m4 m5
          go_wp2_with fail
          go_roundw
          case rel => exact ⟨k + 1, by omega, by rw [scan_t EJ.out hjl hkl (by rw [HX.out.1, HX.out.2]; exact HT.out)], by go_num, GQ.out⟩
          case measure => simp [intOf]; omega
        | false =>
          go_wp2_with fail
          have m0 := gw_cell BB.out.c0
          have m1 := gw_cell BB.out.c1
          have m2 := gw_cell BB.out.c2
          have m3 := gw_cell (G1.out.cell DD.out.1)
          have m4 := gw_cell (G1.out.cell DD.out.2.1)
          have m5 := gw_cell (G1.out.cell DD.out.2.2)
          refine wp_region_grown (by kernel_rfl) (by kernel_rfl) ?_
          repeat (go_big_quiet_step (first | (go_at_call 9; with_reducible exact calls_grown (C.out _))))
          refine wpQuiet_nil ?_
          rintro _ ⟨q, rfl⟩
          have GQ := Lib.hid ((G.out.alloc _).trans q.h)
          clear c0 c1 c2 m0 m1 m2 m3 m4 m5
          go_wp2_with fail
          go_roundw
          case rel => exact ⟨k + 1, by omega, by rw [scan_f EJ.out hjl hkl (by rw [HX.out.1, HX.out.2]; exact HT.out)], by go_num, GQ.out⟩
          case measure => simp [intOf]; omega
    · have hki : ¬ (k : Int) < (n : Int) := by omega
      obtain rfl : n = k := by omega
      clear hg
      go_wp2_with fail
      go_ret
      exact ⟨by rw [← HN.out.2]; rfl, G.out⟩
set_option maxHeartbeats 2000000 in
set_option maxRecDepth 100000 in
theorem ahead_is (a : Int) (yi yc ym : Int) (ao : Option Addr) (cap : Nat) (l : List Wt) (n r : Nat) (w : World) (hl : Lies w ao (cw l)) (hb : l.length ≤ 1000000) (hn : l.length = n) (hr : ahd a ⟨yi, yc, ym⟩ l = r) :
    Calls Try.prog 17 #[.int .i64 a, .agg #[.int .i64 yi, .int .i64 yc, .int .i64 ym], .slice ao n cap] w fun e w' => e = .returned (.int .i64 r) ∧ Grw w w' := by
  have LI := Lib.hid hl
  rw [hn] at hb
  have HN := Lib.hid (And.intro hn hr)
  have BY := Lib.hid (Bx.new w (.int .i64 yi) (.int .i64 yc) (.int .i64 ym) 24)
  have G0 := Lib.hid ((Grw.rfl' w).alloc (.cells #[.int .i64 yi, .int .i64 yc, .int .i64 ym] 24))
  obtain ⟨w0, hw0⟩ : ∃ w0, w.alloc (.cells #[.int .i64 yi, .int .i64 yc, .int .i64 ym] 24) = w0 := ⟨_, rfl⟩
  rw [hw0] at BY G0
  obtain ⟨B, hB⟩ : ∃ B, w.heap.size = B := ⟨_, rfl⟩
  rw [hB] at BY
  clear hl hn hr
  go_enter Try.func17, Try.ntmps17
  go_wp2_with fail
  clear hw0 hB
  go_loopw [7, 12] (fun u v wr => ∃ k : Nat, k ≤ n ∧ u = .int .i64 (ahd a ⟨yi, yc, ym⟩ (l.take k) : Nat) ∧ v = .int .i64 k ∧ Grw w0 wr) (fun _ v _ => n - (intOf v).toNat)
  case atStart => exact ⟨0, Nat.zero_le _, rfl, rfl, Grw.rfl' _⟩
  case round =>
    obtain ⟨k, hk, rfl, rfl, hg⟩ := hrel
    have G := Lib.hid hg
    by_cases hk' : k < n
    · have hki : (k : Int) < (n : Int) := by omega
      have hkl : k < l.length := by rw [HN.out.1]; exact hk'
      obtain ⟨b, off, rfl, c0, c1, c2⟩ := wlies_at (LI.out.later (G0.out.trans hg)) hkl
      obtain ⟨x, hx⟩ : ∃ x, l[k] = x := ⟨_, rfl⟩
      rw [hx] at c0 c1 c2
      have bt := BY.out.later hg
      have e0 := bt.c0
      have e1 := bt.c1
      have e2 := bt.c2
      have hstep := ahd_take (a := a) (x := ⟨yi, yc, ym⟩) hkl
      obtain ⟨t, ht⟩ : ∃ t, les a x ⟨yi, yc, ym⟩ = t := ⟨_, rfl⟩
      rw [hx, ht] at hstep
      obtain ⟨m, hm⟩ : ∃ m, ahd a ⟨yi, yc, ym⟩ (l.take k) = m := ⟨_, rfl⟩
      rw [hm] at hstep ⊢
      have hmk : m ≤ 1000000 := by rw [← hm]; exact Nat.le_trans (ahd_le _ _ _) (by simp; omega)
      have ST := Lib.hid hstep
      obtain ⟨xi, xc, xm⟩ := x
      simp only at c0 c1 c2
      have C := Lib.hid (fun w => less_is a xi xc xm yi yc ym t w ht)
      clear hx ht hg hm hstep bt
      cases t with
      | true =>
        have BX := Lib.hid (Bx.new wr (.int .i64 xi) (.int .i64 xc) (.int .i64 xm) 24)
        have G1 := Lib.hid ((Grw.rfl' wr).alloc (.cells #[.int .i64 xi, .int .i64 xc, .int .i64 xm] 24))
        have EE := Lib.hid (And.intro e0 (And.intro e1 e2))
        clear e0 e1 e2
        have e0 := fun o : Obj => ((Grw.rfl' wr).alloc o).cell EE.out.1
        have e1 := fun o : Obj => ((Grw.rfl' wr).alloc o).cell EE.out.2.1
        have e2 := fun o : Obj => ((Grw.rfl' wr).alloc o).cell EE.out.2.2
        go_wp2_with fail
        refine (C.out _).mono ?_
        rintro _ w1 ⟨rfl, hw⟩
        have GQ := Lib.hid ((G.out.trans G1.out).trans hw)
        clear hw e0 e1 e2 c0 c1 c2
        go_wp2_with fail
        go_roundw
        case rel => exact ⟨k + 1, by omega, by rw [ST.out]; simp, by go_num, GQ.out⟩
        case measure => simp [intOf]; omega
      | false =>
        have BX := Lib.hid (Bx.new wr (.int .i64 xi) (.int .i64 xc) (.int .i64 xm) 24)
        have G1 := Lib.hid ((Grw.rfl' wr).alloc (.cells #[.int .i64 xi, .int .i64 xc, .int .i64 xm] 24))
        have EE := Lib.hid (And.intro e0 (And.intro e1 e2))
        clear e0 e1 e2
        have e0 := fun o : Obj => ((Grw.rfl' wr).alloc o).cell EE.out.1
        have e1 := fun o : Obj => ((Grw.rfl' wr).alloc o).cell EE.out.2.1
        have e2 := fun o : Obj => ((Grw.rfl' wr).alloc o).cell EE.out.2.2
        go_wp2_with fail
        refine (C.out _).mono ?_
        rintro _ w1 ⟨rfl, hw⟩
        have GQ := Lib.hid ((G.out.trans G1.out).trans hw)
        clear hw e0 e1 e2 c0 c1 c2
        go_wp2_with fail
        go_roundw
        case rel => exact ⟨k + 1, by omega, by rw [ST.out]; rfl, by go_num, GQ.out⟩
        case measure => simp [intOf]; omega
    · have hki : ¬ (k : Int) < (n : Int) := by omega
      obtain rfl : n = k := by omega
      have e : l.take n = l := List.take_of_length_le (by rw [HN.out.1]; exact Nat.le_refl _)
      rw [e, HN.out.2]
      clear hg e
      go_wp2_with fail
      go_ret
      exact ⟨rfl, G0.out.trans G.out⟩
set_option maxHeartbeats 2000000 in
set_option maxRecDepth 100000 in
theorem rahead_is (a : Int) (yi yc ym : Int) (ao : Option Addr) (cap : Nat) (l : List Wt) (n r : Nat) (w : World) (hl : Lies w ao (cw l)) (hb : l.length ≤ 1000000) (hn : l.length = n) (hr : ahd a ⟨yi, yc, ym⟩ l = r) :
    Calls Try.prog 18 #[.int .i64 a, .agg #[.int .i64 yi, .int .i64 yc, .int .i64 ym], .slice ao n cap] w fun e w' => e = .returned (.int .i64 r) ∧ Grw w w' := by
  have LI := Lib.hid hl
  rw [hn] at hb
  have HN := Lib.hid (And.intro hn hr)
  have BY := Lib.hid (Bx.new w (.int .i64 yi) (.int .i64 yc) (.int .i64 ym) 24)
  have G0 := Lib.hid ((Grw.rfl' w).alloc (.cells #[.int .i64 yi, .int .i64 yc, .int .i64 ym] 24))
  obtain ⟨w0, hw0⟩ : ∃ w0, w.alloc (.cells #[.int .i64 yi, .int .i64 yc, .int .i64 ym] 24) = w0 := ⟨_, rfl⟩
  rw [hw0] at BY G0
  obtain ⟨B, hB⟩ : ∃ B, w.heap.size = B := ⟨_, rfl⟩
  rw [hB] at BY
  clear hl hn hr
  go_enter Try.func18, Try.ntmps18
  go_wp2_with fail
  clear hw0 hB
  go_loopw [7, 8] (fun u v wr => ∃ k : Nat, k ≤ n ∧ u = .int .i64 (ahd a ⟨yi, yc, ym⟩ (l.take k) : Nat) ∧ v = .int .i64 k ∧ Grw w0 wr) (fun _ v _ => n - (intOf v).toNat)
  case atStart => exact ⟨0, Nat.zero_le _, rfl, rfl, Grw.rfl' _⟩
  case round =>
    obtain ⟨k, hk, rfl, rfl, hg⟩ := hrel
    have G := Lib.hid hg
    by_cases hk' : k < n
    · have hki : (k : Int) < (n : Int) := by omega
      have hkl : k < l.length := by rw [HN.out.1]; exact hk'
      obtain ⟨b, off, rfl, c0, c1, c2⟩ := wlies_at (LI.out.later (G0.out.trans hg)) hkl
      obtain ⟨x, hx⟩ : ∃ x, l[k] = x := ⟨_, rfl⟩
      rw [hx] at c0 c1 c2
      have bt := BY.out.later hg
      have e0 := bt.c0
      have e1 := bt.c1
      have e2 := bt.c2
      have hstep := ahd_take (a := a) (x := ⟨yi, yc, ym⟩) hkl
      obtain ⟨t, ht⟩ : ∃ t, les a x ⟨yi, yc, ym⟩ = t := ⟨_, rfl⟩
      rw [hx, ht] at hstep
      obtain ⟨m, hm⟩ : ∃ m, ahd a ⟨yi, yc, ym⟩ (l.take k) = m := ⟨_, rfl⟩
      rw [hm] at hstep ⊢
      have hmk : m ≤ 1000000 := by rw [← hm]; exact Nat.le_trans (ahd_le _ _ _) (by simp; omega)
      have ST := Lib.hid hstep
      obtain ⟨xi, xc, xm⟩ := x
      simp only at c0 c1 c2
      have C := Lib.hid (fun w => rless_is a xi xc xm yi yc ym t w ht)
      clear hx ht hg hm hstep bt
      cases t with
      | true =>
        have m0 := gw_cell c0
        have m1 := gw_cell c1
        have m2 := gw_cell c2
        have m3 := gw_cell e0
        have m4 := gw_cell e1
        have m5 := gw_cell e2
        clear c0 c1 c2 e0 e1 e2
        go_wp2_with fail
        refine wp_region_grown (by kernel_rfl) (by kernel_rfl) ?_
        repeat (go_big_quiet_step (first | (go_at_call 10; with_reducible exact calls_grown (C.out _))))
        refine wpQuiet_nil ?_
        rintro _ ⟨q, rfl⟩
        have GQ := Lib.hid (G.out.trans q.h)
        clear m0 m1 m2 m3 m4 m5
        go_wp2_with fail
        go_roundw
        case rel => exact ⟨k + 1, by omega, by rw [ST.out]; simp, by go_num, GQ.out⟩
        case measure => simp [intOf]; omega
      | false =>
        have m0 := gw_cell c0
        have m1 := gw_cell c1
        have m2 := gw_cell c2
        have m3 := gw_cell e0
        have m4 := gw_cell e1
        have m5 := gw_cell e2
        clear c0 c1 c2 e0 e1 e2
        go_wp2_with fail
        refine wp_region_grown (by kernel_rfl) (by kernel_rfl) ?_
        repeat (go_big_quiet_step (first | (go_at_call 10; with_reducible exact calls_grown (C.out _))))
        refine wpQuiet_nil ?_
        rintro _ ⟨q, rfl⟩
        have GQ := Lib.hid (G.out.trans q.h)
        clear m0 m1 m2 m3 m4 m5
        go_wp2_with fail
        go_roundw
        case rel => exact ⟨k + 1, by omega, by rw [ST.out]; rfl, by go_num, GQ.out⟩
        case measure => simp [intOf]; omega
    · have hki : ¬ (k : Int) < (n : Int) := by omega
      obtain rfl : n = k := by omega
      have e : l.take n = l := List.take_of_length_le (by rw [HN.out.1]; exact Nat.le_refl _)
      rw [e, HN.out.2]
      clear hg e
      go_wp2_with fail
      go_ret
      exact ⟨rfl, G0.out.trans G.out⟩
end Go.Proofs.Ytffoaldfklcfgaa
