/- The walk of SpanSums. -/
import Derived.Test.YtikelioaggllmaaDoorLa
import Derived.Test.YtikelioaggllmaaDoorMd
namespace Go.Proofs.YtikelioaggllmaaDoor
open Go.RowKit SM
set_option linter.unusedSimpArgs false
set_option linter.unusedVariables false

set_option maxHeartbeats 8000000 in
set_option maxRecDepth 100000 in
theorem sums_walk (g : Nat → Nat) (n : Nat) (w : World) (hg : ∀ i, i < 4 → g i < 4294967296) (hn : n < 256) :
    Calls Tryd.prog 6 #[.agg #[.int .u32 (g 0), .int .u32 (g 1), .int .u32 (g 2), .int .u32 (g 3)], .int .u8 n] w fun e w' => e = .returned (.bool true) ∧ Grw w w' := by
  have g0 := hg 0 (by omega)
  have g1 := hg 1 (by omega)
  have g2 := hg 2 (by omega)
  have g3 := hg 3 (by omega)
  obtain ⟨sk4, s34, s23, s12⟩ := sumK_le n g hg
  have sk3 : sumK n g 3 ≤ 1125899906842624 := by omega
  have sk2 : sumK n g 2 ≤ 1125899906842624 := by omega
  have sk1 : sumK n g 1 ≤ 1125899906842624 := by omega
  have A14 := Lib.hid (and14 ⟨n, hn⟩)
  have A15 := Lib.hid (and15 ⟨n, hn⟩)
  have E0 := Lib.hid (and1 ⟨n, hn⟩)
  have E1 := Lib.hid (and1_1 ⟨n, hn⟩)
  have E2 := Lib.hid (and1_2 ⟨n, hn⟩)
  have E3 := Lib.hid (and1_3 ⟨n, hn⟩)
  clear s34 s23 s12
  go_enter Tryd.func6, Tryd.ntmps6
  go_wp2_with fail
  go_loopw [6, 7, 8] (fun v6 v7 v8 wr => ∃ (j : Nat) (t : ByteArray), j ≤ 4 ∧ v8 = .int .i64 j ∧ v6 = .string t ∧ Hid (t.data.toList = strK n g j) ∧ v7 = .int .u64 (sumK n g j) ∧
    Grw ((w.alloc (.cells #[.int .u32 (g 0), .int .u32 (g 1), .int .u32 (g 2), .int .u32 (g 3)] 34)).alloc (.cells #[.int .u64 86400, .int .u64 3600, .int .u64 60, .int .u64 1] 23)) wr) (fun _ _ v _ => 4 - (intOf v).toNat)
  case atStart => exact ⟨0, ⟨#[80]⟩, by omega, rfl, rfl, Lib.hid rfl, rfl, Grw.rfl' _⟩
  case round =>
    obtain ⟨j, t, hj, rfl, rfl, ht, rfl, hgr⟩ := hrel
    rcases j with _ | _ | _ | _ | _ | j
    · have hz := strK_len n g hg 0 (by omega)
      rw [← ht.out, ← size_len] at hz
      have hz' : (t.size : Int) ≤ 60 := by omega
      rcases hb : bb n 0 with _ | _
      · have e1 : (bits .and .u8 (n : Int) 1 == 1) = false := by rw [E0.out]; exact hb
        have B := Lib.hid hb; clear hb
        have HS := Lib.hid (sumK_no (g := g) B.out)
        have HK : Hid (t.data.toList = strK n g 1) := Lib.hid (by rw [ht.out]; exact (strK_no B.out (by rintro ⟨e, _⟩; cases e)).symm)
        go_wp2_with fail
        go_roundw
        case rel => exact ⟨1, t, by omega, by go_num, rfl, HK, by rw [HS.out], hgr⟩
        case measure => simp [intOf]
      · have e1 : (bits .and .u8 (n : Int) 1 == 1) = true := by rw [E0.out]; exact hb
        have B := Lib.hid hb; clear hb
        obtain ⟨d, hd⟩ := ba_of (Lib.decDigits (g 0))
        have hdz : (d.size : Int) ≤ 20 := by have := dec_len (g 0) (by omega); rw [← hd, ← size_len] at this; omega
        have DG := Lib.hid (fun w => digits_ba (g 0) d w (by omega) hd)
        have HK : Hid ((t ++ (d ++ ⟨#[68]⟩)).data.toList = strK n g 1) := Lib.hid (by rw [ba_app, ba_app, ht.out, hd, strK_yes B.out (by rintro ⟨e, _⟩; cases e)]; rfl)
        have hsum : sumK n g 1 = sumK n g 0 + g 0 * 86400 := sumK_yes (g := g) B.out
        have hbd : sumK n g 0 + g 0 * 86400 ≤ 1125899906842624 := by rw [← hsum]; exact sk1
        have HS := Lib.hid hsum
        clear hd hsum
        have cA := hgr.cell (a := ⟨w.heap.size, 0, none⟩) (v := .int .u32 (g 0)) (by simp [go_sem])
        have cB := hgr.cell (a := ⟨w.heap.size + 1, 0, none⟩) (v := .int .u64 86400) (by simp [go_sem])
        have pA := gw_cell cA
        generalize sumK n g 0 = sv at *
        generalize g 0 = gv at *
        have f1 : IntKind.u64.wrap (gv : Int) = gv := by rw [IntKind.wrap_u64]; omega
        have f2 : IntKind.u64.wrap ((gv : Int) * 86400) = gv * 86400 := by rw [IntKind.wrap_u64]; omega
        have f3 : IntKind.u64.wrap ((sv : Int) + gv * 86400) = sv + gv * 86400 := by rw [IntKind.wrap_u64]; omega
        go_wp2_with fail
        refine wp_region_grown (by kernel_rfl) (by kernel_rfl) ?_
        repeat (go_big_quiet_step (first | (go_at_call 14; exact calls_grown (DG.out _))))
        refine wpQuiet_nil ?_
        rintro _ ⟨q, rfl⟩
        have hq := q.h
        have cA2 := hq.cell cA
        have cB2 := hq.cell cB
        clear pA cA cB DG
        go_wp2_with fail
        go_quiet (fail)
        go_wp2_with fail
        go_roundw
        case rel => exact ⟨1, t ++ (d ++ ⟨#[68]⟩), by omega, by go_num, rfl, HK, by rw [HS.out]; exact int_eq (by omega), hgr.trans (hq.drewN _)⟩
        case measure => simp [intOf]
    · have hz := strK_len n g hg 1 (by omega)
      rw [← ht.out, ← size_len] at hz
      have hz' : (t.size : Int) ≤ 60 := by omega
      rcases hA : (bb n 1 || bb n 2 || bb n 3) with _ | _
      · have a14 : (bits .and .u8 (n : Int) 14 != 0) = false := by rw [A14.out]; exact hA
        have HA := Lib.hid hA; clear hA
        rcases hb : bb n 1 with _ | _
        · have e1 : (bits .and .u8 ((n : Int) / 2) 1 == 1) = false := by rw [E1.out]; exact hb
          have B := Lib.hid hb; clear hb
          have HS := Lib.hid (sumK_no (g := g) B.out)
          have HK : Hid (t.data.toList = strK n g 2) := Lib.hid (by rw [ht.out]; exact (strK_no B.out (by rintro ⟨_, e⟩; rw [HA.out] at e; cases e)).symm)
          go_wp2_with fail
          go_roundw
          case rel => exact ⟨2, t, by omega, by go_num, rfl, HK, by rw [HS.out], hgr⟩
          case measure => simp [intOf]
        · have e1 : (bits .and .u8 ((n : Int) / 2) 1 == 1) = true := by rw [E1.out]; exact hb
          have B := Lib.hid hb; clear hb
          obtain ⟨d, hd⟩ := ba_of (Lib.decDigits (g 1))
          have hdz : (d.size : Int) ≤ 20 := by have := dec_len (g 1) (by omega); rw [← hd, ← size_len] at this; omega
          have DG := Lib.hid (fun w => digits_ba (g 1) d w (by omega) hd)
          have HK : Hid ((t ++ (d ++ ⟨#[72]⟩)).data.toList = strK n g 2) := Lib.hid (by rw [ba_app, ba_app, ht.out, hd, strK_yes B.out (by rintro ⟨_, e⟩; rw [HA.out] at e; cases e)]; rfl)
          have hsum : sumK n g 2 = sumK n g 1 + g 1 * 3600 := sumK_yes (g := g) B.out
          have hbd : sumK n g 1 + g 1 * 3600 ≤ 1125899906842624 := by rw [← hsum]; exact sk2
          have HS := Lib.hid hsum
          clear hd hsum
          have cA := hgr.cell (a := ⟨w.heap.size, 1, none⟩) (v := .int .u32 (g 1)) (by simp [go_sem])
          have cB := hgr.cell (a := ⟨w.heap.size + 1, 1, none⟩) (v := .int .u64 3600) (by simp [go_sem])
          have pA := gw_cell cA
          generalize sumK n g 1 = sv at *
          generalize g 1 = gv at *
          have f1 : IntKind.u64.wrap (gv : Int) = gv := by rw [IntKind.wrap_u64]; omega
          have f2 : IntKind.u64.wrap ((gv : Int) * 3600) = gv * 3600 := by rw [IntKind.wrap_u64]; omega
          have f3 : IntKind.u64.wrap ((sv : Int) + gv * 3600) = sv + gv * 3600 := by rw [IntKind.wrap_u64]; omega
          go_wp2_with fail
          refine wp_region_grown (by kernel_rfl) (by kernel_rfl) ?_
          repeat (go_big_quiet_step (first | (go_at_call 14; exact calls_grown (DG.out _))))
          refine wpQuiet_nil ?_
          rintro _ ⟨q, rfl⟩
          have hq := q.h
          have cA2 := hq.cell cA
          have cB2 := hq.cell cB
          clear pA cA cB DG
          go_wp2_with fail
          go_quiet (fail)
          go_wp2_with fail
          go_roundw
          case rel => exact ⟨2, t ++ (d ++ ⟨#[72]⟩), by omega, by go_num, rfl, HK, by rw [HS.out]; exact int_eq (by omega), hgr.trans (hq.drewN _)⟩
          case measure => simp [intOf]
      · have a14 : (bits .and .u8 (n : Int) 14 != 0) = true := by rw [A14.out]; exact hA
        have HA := Lib.hid hA; clear hA
        rcases hb : bb n 1 with _ | _
        · have e1 : (bits .and .u8 ((n : Int) / 2) 1 == 1) = false := by rw [E1.out]; exact hb
          have B := Lib.hid hb; clear hb
          have HS := Lib.hid (sumK_no (g := g) B.out)
          have HK : Hid ((t ++ ⟨#[84]⟩).data.toList = strK n g 2) := Lib.hid (by rw [ba_app, ht.out, strK_noT B.out HA.out])
          go_wp2_with fail
          go_roundw
          case rel => exact ⟨2, (t ++ ⟨#[84]⟩), by omega, by go_num, rfl, HK, by rw [HS.out], hgr⟩
          case measure => simp [intOf]
        · have e1 : (bits .and .u8 ((n : Int) / 2) 1 == 1) = true := by rw [E1.out]; exact hb
          have B := Lib.hid hb; clear hb
          obtain ⟨d, hd⟩ := ba_of (Lib.decDigits (g 1))
          have hdz : (d.size : Int) ≤ 20 := by have := dec_len (g 1) (by omega); rw [← hd, ← size_len] at this; omega
          have DG := Lib.hid (fun w => digits_ba (g 1) d w (by omega) hd)
          have HK : Hid ((t ++ ⟨#[84]⟩ ++ (d ++ ⟨#[72]⟩)).data.toList = strK n g 2) := Lib.hid (by rw [ba_app, ba_app, ba_app, ht.out, hd, strK_yesT B.out HA.out])
          have hsum : sumK n g 2 = sumK n g 1 + g 1 * 3600 := sumK_yes (g := g) B.out
          have hbd : sumK n g 1 + g 1 * 3600 ≤ 1125899906842624 := by rw [← hsum]; exact sk2
          have HS := Lib.hid hsum
          clear hd hsum
          have cA := hgr.cell (a := ⟨w.heap.size, 1, none⟩) (v := .int .u32 (g 1)) (by simp [go_sem])
          have cB := hgr.cell (a := ⟨w.heap.size + 1, 1, none⟩) (v := .int .u64 3600) (by simp [go_sem])
          have pA := gw_cell cA
          generalize sumK n g 1 = sv at *
          generalize g 1 = gv at *
          have f1 : IntKind.u64.wrap (gv : Int) = gv := by rw [IntKind.wrap_u64]; omega
          have f2 : IntKind.u64.wrap ((gv : Int) * 3600) = gv * 3600 := by rw [IntKind.wrap_u64]; omega
          have f3 : IntKind.u64.wrap ((sv : Int) + gv * 3600) = sv + gv * 3600 := by rw [IntKind.wrap_u64]; omega
          go_wp2_with fail
          refine wp_region_grown (by kernel_rfl) (by kernel_rfl) ?_
          repeat (go_big_quiet_step (first | (go_at_call 14; exact calls_grown (DG.out _))))
          refine wpQuiet_nil ?_
          rintro _ ⟨q, rfl⟩
          have hq := q.h
          have cA2 := hq.cell cA
          have cB2 := hq.cell cB
          clear pA cA cB DG
          go_wp2_with fail
          go_quiet (fail)
          go_wp2_with fail
          go_roundw
          case rel => exact ⟨2, (t ++ ⟨#[84]⟩) ++ (d ++ ⟨#[72]⟩), by omega, by go_num, rfl, HK, by rw [HS.out]; exact int_eq (by omega), hgr.trans (hq.drewN _)⟩
          case measure => simp [intOf]
    · have hz := strK_len n g hg 2 (by omega)
      rw [← ht.out, ← size_len] at hz
      have hz' : (t.size : Int) ≤ 60 := by omega
      rcases hb : bb n 2 with _ | _
      · have e1 : (bits .and .u8 ((n : Int) / 4) 1 == 1) = false := by rw [E2.out]; exact hb
        have B := Lib.hid hb; clear hb
        have HS := Lib.hid (sumK_no (g := g) B.out)
        have HK : Hid (t.data.toList = strK n g 3) := Lib.hid (by rw [ht.out]; exact (strK_no B.out (by rintro ⟨e, _⟩; cases e)).symm)
        go_wp2_with fail
        go_roundw
        case rel => exact ⟨3, t, by omega, by go_num, rfl, HK, by rw [HS.out], hgr⟩
        case measure => simp [intOf]
      · have e1 : (bits .and .u8 ((n : Int) / 4) 1 == 1) = true := by rw [E2.out]; exact hb
        have B := Lib.hid hb; clear hb
        obtain ⟨d, hd⟩ := ba_of (Lib.decDigits (g 2))
        have hdz : (d.size : Int) ≤ 20 := by have := dec_len (g 2) (by omega); rw [← hd, ← size_len] at this; omega
        have DG := Lib.hid (fun w => digits_ba (g 2) d w (by omega) hd)
        have HK : Hid ((t ++ (d ++ ⟨#[77]⟩)).data.toList = strK n g 3) := Lib.hid (by rw [ba_app, ba_app, ht.out, hd, strK_yes B.out (by rintro ⟨e, _⟩; cases e)]; rfl)
        have hsum : sumK n g 3 = sumK n g 2 + g 2 * 60 := sumK_yes (g := g) B.out
        have hbd : sumK n g 2 + g 2 * 60 ≤ 1125899906842624 := by rw [← hsum]; exact sk3
        have HS := Lib.hid hsum
        clear hd hsum
        have cA := hgr.cell (a := ⟨w.heap.size, 2, none⟩) (v := .int .u32 (g 2)) (by simp [go_sem])
        have cB := hgr.cell (a := ⟨w.heap.size + 1, 2, none⟩) (v := .int .u64 60) (by simp [go_sem])
        have pA := gw_cell cA
        generalize sumK n g 2 = sv at *
        generalize g 2 = gv at *
        have f1 : IntKind.u64.wrap (gv : Int) = gv := by rw [IntKind.wrap_u64]; omega
        have f2 : IntKind.u64.wrap ((gv : Int) * 60) = gv * 60 := by rw [IntKind.wrap_u64]; omega
        have f3 : IntKind.u64.wrap ((sv : Int) + gv * 60) = sv + gv * 60 := by rw [IntKind.wrap_u64]; omega
        go_wp2_with fail
        refine wp_region_grown (by kernel_rfl) (by kernel_rfl) ?_
        repeat (go_big_quiet_step (first | (go_at_call 14; exact calls_grown (DG.out _))))
        refine wpQuiet_nil ?_
        rintro _ ⟨q, rfl⟩
        have hq := q.h
        have cA2 := hq.cell cA
        have cB2 := hq.cell cB
        clear pA cA cB DG
        go_wp2_with fail
        go_quiet (fail)
        go_wp2_with fail
        go_roundw
        case rel => exact ⟨3, t ++ (d ++ ⟨#[77]⟩), by omega, by go_num, rfl, HK, by rw [HS.out]; exact int_eq (by omega), hgr.trans (hq.drewN _)⟩
        case measure => simp [intOf]
    · have hz := strK_len n g hg 3 (by omega)
      rw [← ht.out, ← size_len] at hz
      have hz' : (t.size : Int) ≤ 60 := by omega
      rcases hb : bb n 3 with _ | _
      · have e1 : (bits .and .u8 ((n : Int) / 8) 1 == 1) = false := by rw [E3.out]; exact hb
        have B := Lib.hid hb; clear hb
        have HS := Lib.hid (sumK_no (g := g) B.out)
        have HK : Hid (t.data.toList = strK n g 4) := Lib.hid (by rw [ht.out]; exact (strK_no B.out (by rintro ⟨e, _⟩; cases e)).symm)
        go_wp2_with fail
        go_roundw
        case rel => exact ⟨4, t, by omega, by go_num, rfl, HK, by rw [HS.out], hgr⟩
        case measure => simp [intOf]
      · have e1 : (bits .and .u8 ((n : Int) / 8) 1 == 1) = true := by rw [E3.out]; exact hb
        have B := Lib.hid hb; clear hb
        obtain ⟨d, hd⟩ := ba_of (Lib.decDigits (g 3))
        have hdz : (d.size : Int) ≤ 20 := by have := dec_len (g 3) (by omega); rw [← hd, ← size_len] at this; omega
        have DG := Lib.hid (fun w => digits_ba (g 3) d w (by omega) hd)
        have HK : Hid ((t ++ (d ++ ⟨#[83]⟩)).data.toList = strK n g 4) := Lib.hid (by rw [ba_app, ba_app, ht.out, hd, strK_yes B.out (by rintro ⟨e, _⟩; cases e)]; rfl)
        have hsum : sumK n g 4 = sumK n g 3 + g 3 * 1 := sumK_yes (g := g) B.out
        have hbd : sumK n g 3 + g 3 * 1 ≤ 1125899906842624 := by rw [← hsum]; exact sk4
        have HS := Lib.hid hsum
        clear hd hsum
        have cA := hgr.cell (a := ⟨w.heap.size, 3, none⟩) (v := .int .u32 (g 3)) (by simp [go_sem])
        have cB := hgr.cell (a := ⟨w.heap.size + 1, 3, none⟩) (v := .int .u64 1) (by simp [go_sem])
        have pA := gw_cell cA
        generalize sumK n g 3 = sv at *
        generalize g 3 = gv at *
        have f1 : IntKind.u64.wrap (gv : Int) = gv := by rw [IntKind.wrap_u64]; omega
        have f2 : IntKind.u64.wrap ((gv : Int) * 1) = gv * 1 := by rw [IntKind.wrap_u64]; omega
        have f3 : IntKind.u64.wrap ((sv : Int) + gv * 1) = sv + gv * 1 := by rw [IntKind.wrap_u64]; omega
        go_wp2_with fail
        refine wp_region_grown (by kernel_rfl) (by kernel_rfl) ?_
        repeat (go_big_quiet_step (first | (go_at_call 14; exact calls_grown (DG.out _))))
        refine wpQuiet_nil ?_
        rintro _ ⟨q, rfl⟩
        have hq := q.h
        have cA2 := hq.cell cA
        have cB2 := hq.cell cB
        clear pA cA cB DG
        go_wp2_with fail
        go_quiet (fail)
        go_wp2_with fail
        go_roundw
        case rel => exact ⟨4, t ++ (d ++ ⟨#[83]⟩), by omega, by go_num, rfl, HK, by rw [HS.out]; exact int_eq (by omega), hgr.trans (hq.drewN _)⟩
        case measure => simp [intOf]
    · have hz := strK_len n g hg 4 (by omega)
      rw [← ht.out, ← size_len] at hz
      have G0 := (((Grw.rfl' w).alloc (.cells #[.int .u32 (g 0), .int .u32 (g 1), .int .u32 (g 2), .int .u32 (g 3)] 34)).alloc (.cells #[.int .u64 86400, .int .u64 3600, .int .u64 60, .int .u64 1] 23)).trans hgr
      have cA := hgr.cell (a := ⟨w.heap.size, 0, none⟩) (v := .int .u32 (g 0)) (by simp [go_sem])
      have hread := sums_read n g hg
      rcases hA : (bb n 0 || bb n 1 || bb n 2 || bb n 3) with _ | _
      · have a15 : ((n : Int) % 16 == 0) = true := by rw [A15.out]; show (!(bb n 0 || bb n 1 || bb n 2 || bb n 3)) = true; rw [hA]; rfl
        have P := Lib.hid (fun w => parse_pair t _ 0 2 w (by omega) ht.out (hread.2 hA))
        clear hread hA
        go_wp2_with fail
        refine (P.out _).mono ?_
        rintro _ w1 ⟨rfl, hw1⟩
        go_wp2_with fail
        refine (wakes_any _).mono ?_
        rintro _ w2 ⟨rfl, hw2⟩
        go_wp2_with fail
        go_ret
        exact ⟨rfl, (G0.trans hw1).trans hw2⟩
      · have a15 : ((n : Int) % 16 == 0) = false := by rw [A15.out]; show (!(bb n 0 || bb n 1 || bb n 2 || bb n 3)) = false; rw [hA]; rfl
        have P := Lib.hid (fun w => parse_pair t _ (sumK n g 4) 0 w (by omega) ht.out (hread.1 hA))
        obtain ⟨m, hm⟩ : ∃ m : Nat, g 0 % 1000000 = m := ⟨_, rfl⟩
        have hm' : ((g 0 : Nat) : Int) % 1000000 = m := by omega
        have hm1 : m < 1000000 := by omega
        obtain ⟨d, hd⟩ := ba_of (Lib.decDigits m)
        have hdz : (d.size : Int) ≤ 20 := by have := dec_len m (by omega); rw [← hd, ← size_len] at this; omega
        have DG := Lib.hid (fun w => digits_ba m d w (by omega) hd)
        have zz : ∀ c : UInt8, (⟨#[c]⟩ : ByteArray).size = 1 := fun _ => rfl
        have hwk : pV (80 :: (Lib.decDigits m ++ [87])) = m * 604800 ∧ pE (80 :: (Lib.decDigits m ++ [87])) = 0 := by
          rcases p_week m (by omega) with ⟨_, h⟩ | ⟨h, _⟩
          · exact h
          · exfalso; apply h; unfold top; omega
        have PW := Lib.hid (fun w => parse_pair (⟨#[80]⟩ ++ d ++ ⟨#[87]⟩) (80 :: (Lib.decDigits m ++ [87])) (m * 604800) 0 w (by simp [zz]; omega) (by rw [ba_app, ba_app, hd]; simp) hwk)
        clear hread hA hm hd zz hwk
        generalize sumK n g 4 = sv at *
        go_wp2_with fail
        refine (P.out _).mono ?_
        rintro _ w1 ⟨rfl, hw1⟩
        have cA1 := hw1.cell cA
        go_wp2_with fail
        refine (DG.out _).mono ?_
        rintro _ w2 ⟨rfl, hw2⟩
        have cA2 := hw2.cell cA1
        go_wp2_with fail
        refine (PW.out _).mono ?_
        rintro _ w3 ⟨rfl, hw3⟩
        have cA3 := hw3.cell cA2
        have G3 := ((G0.trans hw1).trans hw2).trans hw3
        clear hw1 hw2 hw3 cA cA1 cA2 DG P PW
        go_wp2_with fail
        refine (wakes_any _).mono ?_
        rintro _ w4 ⟨rfl, hw4⟩
        go_wp2_with fail
        go_ret
        exact ⟨rfl, G3.trans hw4⟩
    · omega
end Go.Proofs.YtikelioaggllmaaDoor
