/- The law TurnTells, walked. -/
import Derived.Test.YtffoaldfklcfgaaWc
namespace Go.Proofs.Ytffoaldfklcfgaa
open Go.RowKit
set_option linter.unusedSimpArgs false

set_option maxHeartbeats 4000000 in
set_option maxRecDepth 100000 in
theorem tells_walk (a rm wi wc wm : Int) (ao : Option Addr) (cap : Nat) (l : List Wt) (w : World) (hl : Lies w ao (cw l)) :
    Calls Try.prog 3 #[.agg #[.int .i64 a, .int .i64 rm], .agg #[.int .i64 wi, .int .i64 wc, .int .i64 wm], .slice ao l.length cap] w fun e w' => e = .returned (.bool true) ∧ Grw w w' := by
  obtain ⟨n, hn⟩ : ∃ n, l.length = n := ⟨_, rfl⟩
  rw [hn]
  have WK := Lib.hid wakes_any
  have HN := Lib.hid hn
  have LI := Lib.hid hl
  have G0 := Lib.hid (((Grw.rfl' w).alloc (.cells #[.int .i64 a, .int .i64 rm] 22)).alloc (.cells #[.int .i64 wi, .int .i64 wc, .int .i64 wm] 24))
  have bw := Bx.new (w.alloc (.cells #[.int .i64 a, .int .i64 rm] 22)) (.int .i64 wi) (.int .i64 wc) (.int .i64 wm) 24
  rw [size_new] at bw
  have BW := Lib.hid bw
  have BN : Hid ((((w.alloc (.cells #[.int .i64 a, .int .i64 rm] 22)).alloc (.cells #[.int .i64 wi, .int .i64 wc, .int .i64 wm] 24)).cell? ⟨w.heap.size, 0, none⟩ = some (.int .i64 a)) ∧ (((w.alloc (.cells #[.int .i64 a, .int .i64 rm] 22)).alloc (.cells #[.int .i64 wi, .int .i64 wc, .int .i64 wm] 24)).cell? ⟨w.heap.size, 1, none⟩ = some (.int .i64 rm))) :=
    (⟨((Grw.rfl' _).alloc _).cell (by simp [go_sem]), ((Grw.rfl' _).alloc _).cell (by simp [go_sem])⟩ : (((w.alloc (.cells #[.int .i64 a, .int .i64 rm] 22)).alloc (.cells #[.int .i64 wi, .int .i64 wc, .int .i64 wm] 24)).cell? ⟨w.heap.size, 0, none⟩ = some (.int .i64 a)) ∧ (((w.alloc (.cells #[.int .i64 a, .int .i64 rm] 22)).alloc (.cells #[.int .i64 wi, .int .i64 wc, .int .i64 wm] 24)).cell? ⟨w.heap.size, 1, none⟩ = some (.int .i64 rm)))
  clear hn hl bw
  by_cases hbig : 40 < n
  · have hb1 : decide ((40 : Int) < (n : Int)) = true := by simp; omega
    have hb2 : decide (40 < n) = true := by simp; omega
    go_enter Try.func3, Try.ntmps3
    go_wp2_with fail
    refine (WK.out _).mono ?_
    rintro _ w1 ⟨rfl, hw⟩
    have G := Lib.hid (G0.out.trans hw)
    clear hw
    go_wp2_with fail
    go_ret
    exact ⟨rfl, G.out⟩
  · have hb1 : decide ((40 : Int) < (n : Int)) = false := by simp; omega
    have hb2 : decide (40 < n) = false := by simp; omega
    have hlen : l.length ≤ 1000000 := by rw [HN.out]; omega
    obtain ⟨w0, hw0⟩ : ∃ w0, (w.alloc (.cells #[.int .i64 a, .int .i64 rm] 22)).alloc (.cells #[.int .i64 wi, .int .i64 wc, .int .i64 wm] 24) = w0 := ⟨_, rfl⟩
    rw [hw0] at G0 BW BN
    obtain ⟨b, hb⟩ : ∃ b, w.heap.size = b := ⟨_, rfl⟩
    rw [hb] at BW BN
    have n0 := BN.out.1
    go_enter Try.func3, Try.ntmps3
    go_wp2_with fail
    clear hw0 hb n0
    go_loopw [8] (fun u wr => ∃ k : Nat, k ≤ n ∧ u = .int .i64 k ∧ Grw w0 wr) (fun u _ => n - (intOf u).toNat)
    case atStart => exact ⟨0, Nat.zero_le _, rfl, Grw.rfl' _⟩
    case round =>
      obtain ⟨k, hk, rfl, hg⟩ := hrel
      have G := Lib.hid hg
      have bt := BW.out.later hg
      have e0 := gw_cell bt.c0
      have e1 := gw_cell bt.c1
      have e2 := gw_cell bt.c2
      by_cases hk' : k < n
      · have hki : (k : Int) < (n : Int) := by omega
        have hkl : k < l.length := by rw [HN.out]; exact hk'
        obtain ⟨b', off, rfl, c0, c1, c2⟩ := wlies_at (LI.out.later (G0.out.trans hg)) hkl
        obtain ⟨x, hx⟩ : ∃ x, l[k] = x := ⟨_, rfl⟩
        rw [hx] at c0 c1 c2
        obtain ⟨xi, xc, xm⟩ := x
        simp only at c0 c1 c2
        obtain ⟨t1, ht1⟩ : ∃ t, les a ⟨wi, wc, wm⟩ ⟨xi, xc, xm⟩ = t := ⟨_, rfl⟩
        obtain ⟨t2, ht2⟩ : ∃ t, les a ⟨xi, xc, xm⟩ ⟨wi, wc, wm⟩ = t := ⟨_, rfl⟩
        obtain ⟨s, hs⟩ : ∃ t, trn a ⟨xi, xc, xm⟩ = t := ⟨_, rfl⟩
        have C1 := Lib.hid (fun w => less_is a wi wc wm xi xc xm t1 w ht1)
        have R1 := Lib.hid (fun w => rless_is a wi wc wm xi xc xm t1 w ht1)
        have C2 := Lib.hid (fun w => less_is a xi xc xm wi wc wm t2 w ht2)
        have R2 := Lib.hid (fun w => rless_is a xi xc xm wi wc wm t2 w ht2)
        have C3 := Lib.hid (fun w => turn_is a xi xc xm s w hs)
        have R3 := Lib.hid (fun w => rturn_is a xi xc xm s w hs)
        have d1 : (t1 != t1) = false := by cases t1 <;> rfl
        have d2 : (t2 != t2) = false := by cases t2 <;> rfl
        have d3 : (s != s) = false := by simp
        have m0 := gw_cell c0
        have m1 := gw_cell c1
        have m2 := gw_cell c2
        clear hx ht1 ht2 hs bt hg c0 c1 c2
        go_wp2_with fail
        refine wp_region_grown (by kernel_rfl) (by kernel_rfl) ?_
        repeat (go_big_quiet_step (first | (go_at_call 9; first | with_reducible exact calls_grown (C1.out _) | with_reducible exact calls_grown (C2.out _)) | (go_at_call 10; first | with_reducible exact calls_grown (R1.out _) | with_reducible exact calls_grown (R2.out _)) | (go_at_call 11; with_reducible exact calls_grown (C3.out _)) | (go_at_call 12; with_reducible exact calls_grown (R3.out _))))
        refine wpQuiet_nil ?_
        rintro _ ⟨q, rfl⟩
        have GQ := Lib.hid (G.out.trans q.h)
        clear m0 m1 m2 e0 e1 e2
        go_wp2_with fail
        go_roundw
        case rel => exact ⟨k + 1, by omega, by go_num, GQ.out⟩
        case measure => simp [intOf]; omega
      · have hki : ¬ (k : Int) < (n : Int) := by omega
        obtain rfl : n = k := by omega
        have f1 := gw_cell (hg.cell BN.out.2)
        obtain ⟨t, ht⟩ : ∃ t, gd ⟨wi, wc, wm⟩ = t := ⟨_, rfl⟩
        obtain ⟨s, hs⟩ : ∃ t, trn a ⟨wi, wc, wm⟩ = t := ⟨_, rfl⟩
        obtain ⟨f, hf⟩ : ∃ t, frs a l = t := ⟨_, rfl⟩
        obtain ⟨m, hm⟩ : ∃ t, ahd a ⟨wi, wc, wm⟩ l = t := ⟨_, rfl⟩
        obtain ⟨z, hz⟩ : ∃ t, bnd a rm = t := ⟨_, rfl⟩
        have C1 := Lib.hid (fun w => good_is wi wc wm t w ht)
        have R1 := Lib.hid (fun w => rgood_is wi wc wm t w ht)
        have C2 := Lib.hid (fun w => turn_is a wi wc wm s w hs)
        have R2 := Lib.hid (fun w => rturn_is a wi wc wm s w hs)
        have C3 := Lib.hid (fun p : GW wr => first_is a ao cap l n f p.x (LI.out.later ((G0.out.trans hg).trans p.h)) hlen HN.out hf)
        have R3 := Lib.hid (fun p : GW wr => rfirst_is a ao cap l n f p.x (LI.out.later ((G0.out.trans hg).trans p.h)) hlen HN.out hf)
        have C4 := Lib.hid (fun p : GW wr => ahead_is a wi wc wm ao cap l n m p.x (LI.out.later ((G0.out.trans hg).trans p.h)) hlen HN.out hm)
        have R4 := Lib.hid (fun p : GW wr => rahead_is a wi wc wm ao cap l n m p.x (LI.out.later ((G0.out.trans hg).trans p.h)) hlen HN.out hm)
        have C5 := Lib.hid (fun w => bound_is a rm z w hz)
        have R5 := Lib.hid (fun w => rbound_is a rm z w hz)
        have d1 : (t == t) = true := by cases t <;> rfl
        have d2 : (s == s) = true := by simp
        have d3 : (f == f) = true := by simp
        have d4 : ((m : Int) == (m : Int)) = true := by simp
        have d5 : (z == z) = true := by simp
        clear hg bt ht hs hf hm hz
        go_wp2_with fail
        refine wp_region_grown (by kernel_rfl) (by kernel_rfl) ?_
        repeat (go_big_quiet_step (first | (go_at_call 13; with_reducible exact calls_grown (C1.out _)) | (go_at_call 14; with_reducible exact calls_grown (R1.out _)) | (go_at_call 11; with_reducible exact calls_grown (C2.out _)) | (go_at_call 12; with_reducible exact calls_grown (R2.out _)) | (go_at_call 15; with_reducible exact calls_grown (C3.out _)) | (go_at_call 16; with_reducible exact calls_grown (R3.out _)) | (go_at_call 17; with_reducible exact calls_grown (C4.out _)) | (go_at_call 18; with_reducible exact calls_grown (R4.out _)) | (go_at_call 19; with_reducible exact calls_grown_same (C5.out _)) | (go_at_call 20; with_reducible exact calls_grown_same (R5.out _)) | (go_at_call 8; with_reducible exact calls_grown (WK.out _))))
        refine wpQuiet_nil ?_
        rintro _ ⟨q, rfl⟩
        have GQ := Lib.hid ((G0.out.trans G.out).trans q.h)
        clear e0 e1 e2 f1
        go_wp2_with fail
        go_ret
        exact ⟨rfl, GQ.out⟩
end Go.Proofs.Ytffoaldfklcfgaa
