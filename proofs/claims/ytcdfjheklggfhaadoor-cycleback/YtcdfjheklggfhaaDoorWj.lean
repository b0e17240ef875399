/- The contract of the document's own Parse: no number and letter behind P, the other way. -/
import Derived.Test.YtcdfjheklggfhaaDoorWh
namespace Go.Proofs.YtcdfjheklggfhaaDoor
open Go.RowKit SM
set_option linter.unusedSimpArgs false
set_option linter.unusedVariables false

set_option maxHeartbeats 8000000 in
set_option maxRecDepth 100000 in
theorem rparse_none2 (s : ByteArray) (w : World) (hs : s.size ≤ 9223372036854775807) (h : 2 ≤ s.size) (h1 : s[0] = 80) (hN : numB (ds (s.data.toList.drop 1)) = true) (hK : ¬ endOf s.data.toList 1 < s.size) :
    Calls Tryd.prog 25 #[.string s] w fun e w' => e = .returned (.tuple #[.int .u64 (pV s.data.toList), .int .i64 (pE s.data.toList)]) ∧ Grw w w' := by
  have h' : ¬ (s.size : Int) < 2 := by omega
  have q : ((s[0].toNat : Int) != 80) = false := by rw [h1]; rfl
  have hz : 0 < s.size := by omega
  have hl := drop0 s hz
  rw [h1] at hl
  have hi := item_pos_end s.data.toList 1 (by rw [← size_len]; exact hK)
  have T := fun w => number_yes s 1 w hs (by omega) hN
  have hn := nval_ds_lt _ hN
  generalize endOf s.data.toList 1 = K at *
  generalize nval (ds (s.data.toList.drop 1)) = n at *
  have T := Lib.hid T
  have d1 : decide (K < s.size) = false := decide_eq_false hK
  clear hN
  by_cases h84 : s[1] = 84
  · have HC : Hid (cal s.data.toList = false) := Lib.hid (by rw [hl]; exact cal_no _ hi)
    have HD : Hid (dur s.data.toList = clock 0 (item (s.data.toList.drop 2))) := Lib.hid (by rw [hl, drop_cons s 1 (by omega), h84]; rfl)
    have q2 : ((s[1].toNat : Int) != 84) = false := by rw [h84]; rfl
    have h2s : (1 : Int) < s.size := by omega
    have h3s : 1 < s.size := by omega
    have G := Grw.rfl' w
    clear hi hl h1 h84
    go_enter Tryd.func25, Tryd.ntmps25
    go_wp2_with fail
    refine (T.out _).mono ?_
    rintro _ _ ⟨rfl, rfl⟩
    clear T
    go_wp2_with fail
    go_loopw [4, 5, 9, 11, 12, 13, 14] (fun v4 v5 v9 v11 _ _ _ wr => ∃ (j p x : Nat) (b : Bool), j ≤ 3 ∧ p ≤ s.size ∧ v11 = .int .i64 j ∧ v4 = .int .i64 p ∧ v5 = .int .u64 (satT x) ∧ v9 = .bool b ∧ Hid (stK (s.data.toList.drop (2)) (0) j = (s.data.toList.drop p, x, b)) ∧ Grw (w.alloc (.cells #[.int .u64 3600, .int .u64 60, .int .u64 1] 23)) wr) (fun _ _ _ v _ _ _ _ => 3 - (intOf v).toNat)
    case atStart => exact ⟨0, 2, 0, false, by omega, by omega, rfl, rfl, rfl, rfl, Lib.hid rfl, Grw.rfl' _⟩
    case round =>
      obtain ⟨j, p, x, b, hj, hp, rfl, rfl, rfl, rfl, H, hgr⟩ := hrel
      rcases j with _ | _ | _ | _ | j
      · have X := Lib.hid (fun w => idx0 w)
        have X0 := X.out
        clear X
        have hc := hgr.cell (a := ⟨w.heap.size, 0, none⟩) (v := .int .u64 3600) (by simp [go_sem])
        rcases hN : numB (ds (s.data.toList.drop p)) with _ | _
        · have T := Lib.hid (fun w => number_no s p w hs hp hN)
          have H2 : Hid (stK (s.data.toList.drop (2)) (0) 1 = (s.data.toList.drop p, x, b)) := Lib.hid (by show stepL _ _ (stK _ _ 0) = _; rw [H.out]; exact stepL_none (item_pos_no _ _ hN))
          clear hN H
          go_wp2_with fail
          refine (T.out _).mono ?_
          rintro _ _ ⟨rfl, rfl⟩
          clear T
          go_wp2_with fail
          go_quiet (fail)
          go_wp2_with fail
          go_roundw
          case rel => exact ⟨1, p, x, b, by omega, by omega, by go_num, by go_num, rfl, rfl, H2, hgr.drewN _⟩
          case measure => simp [intOf]
        · have hKK := endOf_le s.data.toList p (by rw [← size_len]; exact hp)
          rw [← size_len] at hKK
          have T := fun w => number_yes s p w hs hp hN
          have hnn := nval_ds_lt _ hN
          have hlt := item_pos_end s.data.toList p
          have hhit := fun h => item_pos_hit s p hN h
          generalize endOf s.data.toList p = KK at *
          generalize nval (ds (s.data.toList.drop p)) = nn at *
          have T := Lib.hid T
          by_cases hKs : KK < s.size
          · have hit := hhit hKs
            clear hhit hlt
            have d1 : decide (KK < s.size) = true := decide_eq_true hKs
            by_cases hc0 : s[KK] = 72
            · have q1 : ((s[KK].toNat : Int) == 72) = true := by rw [hc0]; rfl
              have H2 : Hid (stK (s.data.toList.drop (2)) (0) 1 = (s.data.toList.drop (KK + 1), x + nn * 3600, true)) := Lib.hid (by show stepL _ _ (stK _ _ 0) = _; rw [H.out]; rw [hc0] at hit; exact stepL_hit hit)
              have D := Lib.hid (fun w => add_any x nn 3600 w (by omega) (by omega) (by omega))
              clear hN H hit hc0
              go_wp2_with fail
              refine (T.out _).mono ?_
              rintro _ _ ⟨rfl, rfl⟩
              clear T
              go_wp2_with fail
              go_quiet (fail)
              go_wp2_with fail
              refine (D.out _).mono ?_
              rintro _ _ ⟨rfl, rfl⟩
              go_wp2_with fail
              go_roundw
              case rel => exact ⟨1, KK + 1, x + nn * 3600, true, by omega, by omega, by go_num, by go_num, rfl, rfl, H2, hgr.drewN _⟩
              case measure => simp [intOf]
            · have q1 : ((s[KK].toNat : Int) == 72) = false := ueq _ 72 hc0
              have H2 : Hid (stK (s.data.toList.drop (2)) (0) 1 = (s.data.toList.drop p, x, b)) := Lib.hid (by show stepL _ _ (stK _ _ 0) = _; rw [H.out]; exact stepL_miss hit hc0)
              clear hN H hit hc0
              go_wp2_with fail
              refine (T.out _).mono ?_
              rintro _ _ ⟨rfl, rfl⟩
              clear T
              go_wp2_with fail
              go_quiet (fail)
              go_wp2_with fail
              go_roundw
              case rel => exact ⟨1, p, x, b, by omega, by omega, by go_num, by go_num, rfl, rfl, H2, hgr.drewN _⟩
              case measure => simp [intOf]
          · have d1 : decide (KK < s.size) = false := decide_eq_false hKs
            have H2 : Hid (stK (s.data.toList.drop (2)) (0) 1 = (s.data.toList.drop p, x, b)) := Lib.hid (by show stepL _ _ (stK _ _ 0) = _; rw [H.out]; exact stepL_none (hlt (by rw [← size_len]; exact hKs)))
            clear hN H hhit hlt
            go_wp2_with fail
            refine (T.out _).mono ?_
            rintro _ _ ⟨rfl, rfl⟩
            clear T
            go_wp2_with fail
            go_quiet (fail)
            go_wp2_with fail
            go_roundw
            case rel => exact ⟨1, p, x, b, by omega, by omega, by go_num, by go_num, rfl, rfl, H2, hgr.drewN _⟩
            case measure => simp [intOf]
      · have X := Lib.hid (fun w => idx1 w)
        have X0 := X.out
        clear X
        have hc := hgr.cell (a := ⟨w.heap.size, 1, none⟩) (v := .int .u64 60) (by simp [go_sem])
        rcases hN : numB (ds (s.data.toList.drop p)) with _ | _
        · have T := Lib.hid (fun w => number_no s p w hs hp hN)
          have H2 : Hid (stK (s.data.toList.drop (2)) (0) 2 = (s.data.toList.drop p, x, b)) := Lib.hid (by show stepL _ _ (stK _ _ 1) = _; rw [H.out]; exact stepL_none (item_pos_no _ _ hN))
          clear hN H
          go_wp2_with fail
          refine (T.out _).mono ?_
          rintro _ _ ⟨rfl, rfl⟩
          clear T
          go_wp2_with fail
          go_quiet (fail)
          go_wp2_with fail
          go_roundw
          case rel => exact ⟨2, p, x, b, by omega, by omega, by go_num, by go_num, rfl, rfl, H2, hgr.drewN _⟩
          case measure => simp [intOf]
        · have hKK := endOf_le s.data.toList p (by rw [← size_len]; exact hp)
          rw [← size_len] at hKK
          have T := fun w => number_yes s p w hs hp hN
          have hnn := nval_ds_lt _ hN
          have hlt := item_pos_end s.data.toList p
          have hhit := fun h => item_pos_hit s p hN h
          generalize endOf s.data.toList p = KK at *
          generalize nval (ds (s.data.toList.drop p)) = nn at *
          have T := Lib.hid T
          by_cases hKs : KK < s.size
          · have hit := hhit hKs
            clear hhit hlt
            have d1 : decide (KK < s.size) = true := decide_eq_true hKs
            by_cases hc0 : s[KK] = 77
            · have q1 : ((s[KK].toNat : Int) == 77) = true := by rw [hc0]; rfl
              have H2 : Hid (stK (s.data.toList.drop (2)) (0) 2 = (s.data.toList.drop (KK + 1), x + nn * 60, true)) := Lib.hid (by show stepL _ _ (stK _ _ 1) = _; rw [H.out]; rw [hc0] at hit; exact stepL_hit hit)
              have D := Lib.hid (fun w => add_any x nn 60 w (by omega) (by omega) (by omega))
              clear hN H hit hc0
              go_wp2_with fail
              refine (T.out _).mono ?_
              rintro _ _ ⟨rfl, rfl⟩
              clear T
              go_wp2_with fail
              go_quiet (fail)
              go_wp2_with fail
              refine (D.out _).mono ?_
              rintro _ _ ⟨rfl, rfl⟩
              go_wp2_with fail
              go_roundw
              case rel => exact ⟨2, KK + 1, x + nn * 60, true, by omega, by omega, by go_num, by go_num, rfl, rfl, H2, hgr.drewN _⟩
              case measure => simp [intOf]
            · have q1 : ((s[KK].toNat : Int) == 77) = false := ueq _ 77 hc0
              have H2 : Hid (stK (s.data.toList.drop (2)) (0) 2 = (s.data.toList.drop p, x, b)) := Lib.hid (by show stepL _ _ (stK _ _ 1) = _; rw [H.out]; exact stepL_miss hit hc0)
              clear hN H hit hc0
              go_wp2_with fail
              refine (T.out _).mono ?_
              rintro _ _ ⟨rfl, rfl⟩
              clear T
              go_wp2_with fail
              go_quiet (fail)
              go_wp2_with fail
              go_roundw
              case rel => exact ⟨2, p, x, b, by omega, by omega, by go_num, by go_num, rfl, rfl, H2, hgr.drewN _⟩
              case measure => simp [intOf]
          · have d1 : decide (KK < s.size) = false := decide_eq_false hKs
            have H2 : Hid (stK (s.data.toList.drop (2)) (0) 2 = (s.data.toList.drop p, x, b)) := Lib.hid (by show stepL _ _ (stK _ _ 1) = _; rw [H.out]; exact stepL_none (hlt (by rw [← size_len]; exact hKs)))
            clear hN H hhit hlt
            go_wp2_with fail
            refine (T.out _).mono ?_
            rintro _ _ ⟨rfl, rfl⟩
            clear T
            go_wp2_with fail
            go_quiet (fail)
            go_wp2_with fail
            go_roundw
            case rel => exact ⟨2, p, x, b, by omega, by omega, by go_num, by go_num, rfl, rfl, H2, hgr.drewN _⟩
            case measure => simp [intOf]
      · have X := Lib.hid (fun w => idx2 w)
        have X0 := X.out
        clear X
        have hc := hgr.cell (a := ⟨w.heap.size, 2, none⟩) (v := .int .u64 1) (by simp [go_sem])
        rcases hN : numB (ds (s.data.toList.drop p)) with _ | _
        · have T := Lib.hid (fun w => number_no s p w hs hp hN)
          have H2 : Hid (stK (s.data.toList.drop (2)) (0) 3 = (s.data.toList.drop p, x, b)) := Lib.hid (by show stepL _ _ (stK _ _ 2) = _; rw [H.out]; exact stepL_none (item_pos_no _ _ hN))
          clear hN H
          go_wp2_with fail
          refine (T.out _).mono ?_
          rintro _ _ ⟨rfl, rfl⟩
          clear T
          go_wp2_with fail
          go_quiet (fail)
          go_wp2_with fail
          go_roundw
          case rel => exact ⟨3, p, x, b, by omega, by omega, by go_num, by go_num, rfl, rfl, H2, hgr.drewN _⟩
          case measure => simp [intOf]
        · have hKK := endOf_le s.data.toList p (by rw [← size_len]; exact hp)
          rw [← size_len] at hKK
          have T := fun w => number_yes s p w hs hp hN
          have hnn := nval_ds_lt _ hN
          have hlt := item_pos_end s.data.toList p
          have hhit := fun h => item_pos_hit s p hN h
          generalize endOf s.data.toList p = KK at *
          generalize nval (ds (s.data.toList.drop p)) = nn at *
          have T := Lib.hid T
          by_cases hKs : KK < s.size
          · have hit := hhit hKs
            clear hhit hlt
            have d1 : decide (KK < s.size) = true := decide_eq_true hKs
            by_cases hc0 : s[KK] = 83
            · have q1 : ((s[KK].toNat : Int) == 83) = true := by rw [hc0]; rfl
              have H2 : Hid (stK (s.data.toList.drop (2)) (0) 3 = (s.data.toList.drop (KK + 1), x + nn * 1, true)) := Lib.hid (by show stepL _ _ (stK _ _ 2) = _; rw [H.out]; rw [hc0] at hit; exact stepL_hit hit)
              have D := Lib.hid (fun w => add_any x nn 1 w (by omega) (by omega) (by omega))
              clear hN H hit hc0
              go_wp2_with fail
              refine (T.out _).mono ?_
              rintro _ _ ⟨rfl, rfl⟩
              clear T
              go_wp2_with fail
              go_quiet (fail)
              go_wp2_with fail
              refine (D.out _).mono ?_
              rintro _ _ ⟨rfl, rfl⟩
              go_wp2_with fail
              go_roundw
              case rel => exact ⟨3, KK + 1, x + nn * 1, true, by omega, by omega, by go_num, by go_num, by rw [Nat.mul_one], rfl, H2, hgr.drewN _⟩
              case measure => simp [intOf]
            · have q1 : ((s[KK].toNat : Int) == 83) = false := ueq _ 83 hc0
              have H2 : Hid (stK (s.data.toList.drop (2)) (0) 3 = (s.data.toList.drop p, x, b)) := Lib.hid (by show stepL _ _ (stK _ _ 2) = _; rw [H.out]; exact stepL_miss hit hc0)
              clear hN H hit hc0
              go_wp2_with fail
              refine (T.out _).mono ?_
              rintro _ _ ⟨rfl, rfl⟩
              clear T
              go_wp2_with fail
              go_quiet (fail)
              go_wp2_with fail
              go_roundw
              case rel => exact ⟨3, p, x, b, by omega, by omega, by go_num, by go_num, rfl, rfl, H2, hgr.drewN _⟩
              case measure => simp [intOf]
          · have d1 : decide (KK < s.size) = false := decide_eq_false hKs
            have H2 : Hid (stK (s.data.toList.drop (2)) (0) 3 = (s.data.toList.drop p, x, b)) := Lib.hid (by show stepL _ _ (stK _ _ 2) = _; rw [H.out]; exact stepL_none (hlt (by rw [← size_len]; exact hKs)))
            clear hN H hhit hlt
            go_wp2_with fail
            refine (T.out _).mono ?_
            rintro _ _ ⟨rfl, rfl⟩
            clear T
            go_wp2_with fail
            go_quiet (fail)
            go_wp2_with fail
            go_roundw
            case rel => exact ⟨3, p, x, b, by omega, by omega, by go_num, by go_num, rfl, rfl, H2, hgr.drewN _⟩
            case measure => simp [intOf]
      · have hfin := end_of s p x _ _ b hp HC.out HD.out H.out
        clear H HC HD
        rcases b with _ | _
        · have EV := Lib.hid (hfin.1 rfl)
          clear hfin
          go_wp2_with fail
          go_ret2
          exact ⟨by rw [EV.out.1, EV.out.2]; rfl, (G.alloc _).trans hgr⟩
        · by_cases hps : p = s.size
          · by_cases hx : x ≤ top
            · have EV := Lib.hid (hfin.2.2.1 rfl hps hx)
              have es : satT x = x := by unfold satT; unfold top at hx; omega
              have d2 : ((p : Int) != (s.size : Int)) = false := by simp; omega
              rw [es]
              unfold top at hx
              clear hfin es hps
              go_wp2_with fail
              go_ret2
              exact ⟨by rw [EV.out.1, EV.out.2]; rfl, (G.alloc _).trans hgr⟩
            · have EV := Lib.hid (hfin.2.2.2 rfl hps hx)
              have es : satT x = 1125899906842625 := by unfold satT; unfold top at hx; omega
              have d2 : ((p : Int) != (s.size : Int)) = false := by simp; omega
              rw [es]
              clear hfin es hx hps
              go_wp2_with fail
              go_ret2
              exact ⟨by rw [EV.out.1, EV.out.2]; rfl, (G.alloc _).trans hgr⟩
          · have EV := Lib.hid (hfin.2.1 rfl hps)
            have d2 : ((p : Int) != (s.size : Int)) = true := by simp; omega
            clear hfin hps
            go_wp2_with fail
            go_ret2
            exact ⟨by rw [EV.out.1, EV.out.2]; rfl, (G.alloc _).trans hgr⟩
      · omega
  · have hb : dur s.data.toList = none := by rw [hl]; show body _ = none; rw [body_noT (by rintro ⟨t, e⟩; rw [drop_cons s 1 (by omega)] at e; exact h84 (List.cons.inj e).1), hi]; rfl
    have ev := p_form (l := s.data.toList) (by rw [hl]; exact cal_no _ hi) hb
    rw [ev.1, ev.2]
    have q2 : ((s[1].toNat : Int) != 84) = true := une _ 84 h84
    have h2s : (1 : Int) < s.size := by omega
    have h3s : 1 < s.size := by omega
    clear ev hb hi hl h1 h84
    go_enter Tryd.func25, Tryd.ntmps25
    go_wp2_with fail
    refine (T.out _).mono ?_
    rintro _ _ ⟨rfl, rfl⟩
    clear T
    go_wp2_with fail
    go_ret2
    exact ⟨rfl, Grw.rfl' _⟩

end Go.Proofs.YtcdfjheklggfhaaDoor
