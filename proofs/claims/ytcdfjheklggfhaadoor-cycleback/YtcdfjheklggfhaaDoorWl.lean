/- The contract of the document's own Parse: a number and a letter behind P. -/
import Derived.Test.YtcdfjheklggfhaaDoorWh
namespace Go.Proofs.YtcdfjheklggfhaaDoor
open Go.RowKit SM
set_option linter.unusedSimpArgs false
set_option linter.unusedVariables false

set_option maxHeartbeats 8000000 in
set_option maxRecDepth 100000 in
theorem rparse_some (s : ByteArray) (w : World) (hs : s.size ≤ 9223372036854775807) (h : 2 ≤ s.size) (h1 : s[0] = 80) (hN : numB (ds (s.data.toList.drop 1)) = true) (hK : endOf s.data.toList 1 < s.size) :
    Calls Tryd.prog 25 #[.string s] w fun e w' => e = .returned (.tuple #[.int .u64 (pV s.data.toList), .int .i64 (pE s.data.toList)]) ∧ Grw w w' := by
  have h' : ¬ (s.size : Int) < 2 := by omega
  have q : ((s[0].toNat : Int) != 80) = false := by rw [h1]; rfl
  have hz : 0 < s.size := by omega
  have hl := drop0 s hz
  rw [h1] at hl
  have hit := item_pos_hit s 1 hN hK
  have T := fun w => number_yes s 1 w hs (by omega) hN
  have hn := nval_ds_lt _ hN
  have hK1 := endOf_ge s.data.toList 1
  generalize endOf s.data.toList 1 = K at *
  generalize nval (ds (s.data.toList.drop 1)) = n at *
  have T := Lib.hid T
  have d1 : decide (K < s.size) = true := decide_eq_true hK
  have hnT : ¬ ∃ t, s.data.toList.drop 1 = 84 :: t := by rintro ⟨t, e⟩; rw [e, item_nodigit 84 t (by decide)] at hit; cases hit
  have hdur0 : dur s.data.toList = body (s.data.toList.drop 1) := congrArg dur hl
  have hdur : dur s.data.toList = bodyI (some (n, s[K], s.data.toList.drop (K + 1))) := by rw [hdur0, body_noT hnT, hit]
  have hcal0 : cal s.data.toList = cal (80 :: s.data.toList.drop 1) := congrArg cal hl
  have hcal : cal s.data.toList = (s[K] == 89 || s[K] == 77) := by rw [hcal0]; simp only [cal]; rw [hit]
  clear hN hit hnT hl h1 hdur0 hcal0
  generalize hu : s[K] = u at *
  have hu' : (s[K].toNat : Int) = u.toNat := by rw [hu]
  have HU := Lib.hid hu; clear hu
  by_cases c1 : u = 89
  · subst c1
    have ev := p_cal (l := s.data.toList) (by rw [hcal]; rfl)
    rw [ev.1, ev.2]
    clear ev hdur hcal
    go_enter Tryd.func25, Tryd.ntmps25
    go_wp2_with fail
    refine (T.out _).mono ?_
    rintro _ _ ⟨rfl, rfl⟩
    go_wp2_with fail
    go_ret2
    exact ⟨rfl, Grw.rfl' _⟩
  have y1 : ((u.toNat : Int) == 89) = false := ueq u 89 c1
  by_cases c2 : u = 77
  · subst c2
    have ev := p_cal (l := s.data.toList) (by rw [hcal]; rfl)
    rw [ev.1, ev.2]
    clear ev hdur hcal c1
    go_enter Tryd.func25, Tryd.ntmps25
    go_wp2_with fail
    refine (T.out _).mono ?_
    rintro _ _ ⟨rfl, rfl⟩
    go_wp2_with fail
    go_ret2
    exact ⟨rfl, Grw.rfl' _⟩
  have y2 : ((u.toNat : Int) == 77) = false := ueq u 77 c2
  have hcal0 : cal s.data.toList = false := by rw [hcal]; simp [c1, c2]
  clear hcal c1 c2
  by_cases c3 : u = 87
  · subst c3
    have D := fun w => add_any 0 n 604800 w hn (by omega) (by omega)
    have z : ((satT 0 : Nat) : Int) = 0 := rfl
    rw [z, Nat.zero_add] at D
    have D := Lib.hid D
    clear z
    by_cases hKe : K + 1 = s.size
    · have hr : s.data.toList.drop (K + 1) = [] := List.drop_eq_nil_of_le (by rw [← size_len]; omega)
      rw [hr] at hdur
      have hdur : dur s.data.toList = some (n * 604800) := by rw [hdur]; rfl
      have e1 : ((K : Int) + 1 != (s.size : Int)) = false := by simp; omega
      have e2 : ¬ (K : Int) + 1 < (s.size : Int) := by omega
      by_cases hx : n * 604800 ≤ top
      · have ev := p_of hcal0 hdur hx
        have es : satT (n * 604800) = n * 604800 := by unfold satT; unfold top at hx; omega
        rw [ev.1, ev.2]
        rw [es] at D
        unfold top at hx
        clear ev es hdur hr hcal0 hKe
        generalize n * 604800 = y at *
        go_enter Tryd.func25, Tryd.ntmps25
        go_wp2_with fail
        refine (T.out _).mono ?_
        rintro _ _ ⟨rfl, rfl⟩
        go_wp2_with fail
        refine (D.out _).mono ?_
        rintro _ _ ⟨rfl, rfl⟩
        go_wp2_with fail
        go_ret2
        exact ⟨rfl, Grw.rfl' _⟩
      · have ev := p_over hcal0 hdur hx
        have es : satT (n * 604800) = 1125899906842625 := by unfold satT; unfold top at hx; omega
        rw [ev.1, ev.2]
        rw [es] at D
        clear ev es hdur hr hcal0 hKe hx
        go_enter Tryd.func25, Tryd.ntmps25
        go_wp2_with fail
        refine (T.out _).mono ?_
        rintro _ _ ⟨rfl, rfl⟩
        go_wp2_with fail
        refine (D.out _).mono ?_
        rintro _ _ ⟨rfl, rfl⟩
        go_wp2_with fail
        go_ret2
        exact ⟨rfl, Grw.rfl' _⟩
    · have hr : s.data.toList.drop (K + 1) ≠ [] := by rw [drop_cons s (K + 1) (by omega)]; simp
      have ev := p_form hcal0 (by rw [hdur]; simp [bodyI, hr])
      have e1 : ((K : Int) + 1 != (s.size : Int)) = true := by simp; omega
      rw [ev.1, ev.2]
      clear ev hdur hr hcal0 hKe
      generalize satT (n * 604800) = y at *
      go_enter Tryd.func25, Tryd.ntmps25
      go_wp2_with fail
      refine (T.out _).mono ?_
      rintro _ _ ⟨rfl, rfl⟩
      go_wp2_with fail
      refine (D.out _).mono ?_
      rintro _ _ ⟨rfl, rfl⟩
      go_wp2_with fail
      go_ret2
      exact ⟨rfl, Grw.rfl' _⟩
  have y3 : ((u.toNat : Int) == 87) = false := ueq u 87 c3
  by_cases c4 : u = 68
  · subst c4
    have D := fun w => add_any 0 n 86400 w hn (by omega) (by omega)
    have z : ((satT 0 : Nat) : Int) = 0 := rfl
    rw [z, Nat.zero_add] at D
    have D := Lib.hid D
    clear z c3
    by_cases hKe : K + 1 = s.size
    · have hr : s.data.toList.drop (K + 1) = [] := List.drop_eq_nil_of_le (by rw [← size_len]; omega)
      rw [hr] at hdur
      have hdur : dur s.data.toList = some (n * 86400) := by rw [hdur]; rfl
      have e2 : ¬ (K : Int) + 1 < (s.size : Int) := by omega
      by_cases hx : n * 86400 ≤ top
      · have ev := p_of hcal0 hdur hx
        have es : satT (n * 86400) = n * 86400 := by unfold satT; unfold top at hx; omega
        rw [ev.1, ev.2]
        rw [es] at D
        unfold top at hx
        clear ev es hdur hr hcal0 hKe
        generalize n * 86400 = y at *
        go_enter Tryd.func25, Tryd.ntmps25
        go_wp2_with fail
        refine (T.out _).mono ?_
        rintro _ _ ⟨rfl, rfl⟩
        go_wp2_with fail
        refine (D.out _).mono ?_
        rintro _ _ ⟨rfl, rfl⟩
        go_wp2_with fail
        go_ret2
        exact ⟨rfl, Grw.rfl' _⟩
      · have ev := p_over hcal0 hdur hx
        have es : satT (n * 86400) = 1125899906842625 := by unfold satT; unfold top at hx; omega
        rw [ev.1, ev.2]
        rw [es] at D
        clear ev es hdur hr hcal0 hKe hx
        go_enter Tryd.func25, Tryd.ntmps25
        go_wp2_with fail
        refine (T.out _).mono ?_
        rintro _ _ ⟨rfl, rfl⟩
        go_wp2_with fail
        refine (D.out _).mono ?_
        rintro _ _ ⟨rfl, rfl⟩
        go_wp2_with fail
        go_ret2
        exact ⟨rfl, Grw.rfl' _⟩
    · have e2 : (K : Int) + 1 < (s.size : Int) := by omega
      have e3 : K + 1 < s.size := by omega
      have hr := drop_cons s (K + 1) e3
      by_cases h84 : s[K + 1] = 84
      · have HC := Lib.hid hcal0
        have HD : Hid (dur s.data.toList = clock (n * 86400) (item (s.data.toList.drop (K + 2)))) := Lib.hid (by rw [hdur, hr, h84]; exact days_T _ _)
        have q2 : ((s[K + 1].toNat : Int) != 84) = false := by rw [h84]; rfl
        have G := Grw.rfl' w
        clear hdur hr hcal0 h84
        go_enter Tryd.func25, Tryd.ntmps25
        go_wp2_with fail
        refine (T.out _).mono ?_
        rintro _ _ ⟨rfl, rfl⟩
        clear T
        go_wp2_with fail
        refine (D.out _).mono ?_
        rintro _ _ ⟨rfl, rfl⟩
        clear D
        go_wp2_with fail
        go_loopw [4, 5, 9, 11, 12, 13, 14] (fun v4 v5 v9 v11 _ _ _ wr => ∃ (j p x : Nat) (b : Bool), j ≤ 3 ∧ p ≤ s.size ∧ v11 = .int .i64 j ∧ v4 = .int .i64 p ∧ v5 = .int .u64 (satT x) ∧ v9 = .bool b ∧ Hid (stK (s.data.toList.drop (K + 2)) (n * 86400) j = (s.data.toList.drop p, x, b)) ∧ Grw (w.alloc (.cells #[.int .u64 3600, .int .u64 60, .int .u64 1] 23)) wr) (fun _ _ _ v _ _ _ _ => 3 - (intOf v).toNat)
        case atStart => exact ⟨0, K + 2, n * 86400, false, by omega, by omega, rfl, rfl, rfl, rfl, Lib.hid rfl, Grw.rfl' _⟩
        case round =>
          obtain ⟨j, p, x, b, hj, hp, rfl, rfl, rfl, rfl, H, hgr⟩ := hrel
          rcases j with _ | _ | _ | _ | j
          · have X := Lib.hid (fun w => idx0 w)
            have X0 := X.out
            clear X
            have hc := hgr.cell (a := ⟨w.heap.size, 0, none⟩) (v := .int .u64 3600) (by simp [go_sem])
            rcases hN : numB (ds (s.data.toList.drop p)) with _ | _
            · have T := Lib.hid (fun w => number_no s p w hs hp hN)
              have H2 : Hid (stK (s.data.toList.drop (K + 2)) (n * 86400) 1 = (s.data.toList.drop p, x, b)) := Lib.hid (by show stepL _ _ (stK _ _ 0) = _; rw [H.out]; exact stepL_none (item_pos_no _ _ hN))
              clear hN H
              go_wp2_with fail
              refine (T.out _).mono ?_
              rintro _ _ ⟨rfl, rfl⟩
              clear T
              go_wp2_with fail
              go_quiet (fail)
              go_wp2_with fail
              go_roundw
              case rel => exact ⟨1, p, x, b, by omega, by omega, by go_num, by go_num, rfl, rfl, H2, hgr.drewN _⟩
              case measure => simp [intOf]
            · have hKK := endOf_le s.data.toList p (by rw [← size_len]; exact hp)
              rw [← size_len] at hKK
              have T := fun w => number_yes s p w hs hp hN
              have hnn := nval_ds_lt _ hN
              have hlt := item_pos_end s.data.toList p
              have hhit := fun h => item_pos_hit s p hN h
              generalize endOf s.data.toList p = KK at *
              generalize nval (ds (s.data.toList.drop p)) = nn at *
              have T := Lib.hid T
              by_cases hKs : KK < s.size
              · have hit := hhit hKs
                clear hhit hlt
                have d1 : decide (KK < s.size) = true := decide_eq_true hKs
                by_cases hc0 : s[KK] = 72
                · have q1 : ((s[KK].toNat : Int) == 72) = true := by rw [hc0]; rfl
                  have H2 : Hid (stK (s.data.toList.drop (K + 2)) (n * 86400) 1 = (s.data.toList.drop (KK + 1), x + nn * 3600, true)) := Lib.hid (by show stepL _ _ (stK _ _ 0) = _; rw [H.out]; rw [hc0] at hit; exact stepL_hit hit)
                  have D := Lib.hid (fun w => add_any x nn 3600 w (by omega) (by omega) (by omega))
                  clear hN H hit hc0
                  go_wp2_with fail
                  refine (T.out _).mono ?_
                  rintro _ _ ⟨rfl, rfl⟩
                  clear T
                  go_wp2_with fail
                  go_quiet (fail)
                  go_wp2_with fail
                  refine (D.out _).mono ?_
                  rintro _ _ ⟨rfl, rfl⟩
                  go_wp2_with fail
                  go_roundw
                  case rel => exact ⟨1, KK + 1, x + nn * 3600, true, by omega, by omega, by go_num, by go_num, rfl, rfl, H2, hgr.drewN _⟩
                  case measure => simp [intOf]
                · have q1 : ((s[KK].toNat : Int) == 72) = false := ueq _ 72 hc0
                  have H2 : Hid (stK (s.data.toList.drop (K + 2)) (n * 86400) 1 = (s.data.toList.drop p, x, b)) := Lib.hid (by show stepL _ _ (stK _ _ 0) = _; rw [H.out]; exact stepL_miss hit hc0)
                  clear hN H hit hc0
                  go_wp2_with fail
                  refine (T.out _).mono ?_
                  rintro _ _ ⟨rfl, rfl⟩
                  clear T
                  go_wp2_with fail
                  go_quiet (fail)
                  go_wp2_with fail
                  go_roundw
                  case rel => exact ⟨1, p, x, b, by omega, by omega, by go_num, by go_num, rfl, rfl, H2, hgr.drewN _⟩
                  case measure => simp [intOf]
              · have d1 : decide (KK < s.size) = false := decide_eq_false hKs
                have H2 : Hid (stK (s.data.toList.drop (K + 2)) (n * 86400) 1 = (s.data.toList.drop p, x, b)) := Lib.hid (by show stepL _ _ (stK _ _ 0) = _; rw [H.out]; exact stepL_none (hlt (by rw [← size_len]; exact hKs)))
                clear hN H hhit hlt
                go_wp2_with fail
                refine (T.out _).mono ?_
                rintro _ _ ⟨rfl, rfl⟩
                clear T
                go_wp2_with fail
                go_quiet (fail)
                go_wp2_with fail
                go_roundw
                case rel => exact ⟨1, p, x, b, by omega, by omega, by go_num, by go_num, rfl, rfl, H2, hgr.drewN _⟩
                case measure => simp [intOf]
          · have X := Lib.hid (fun w => idx1 w)
            have X0 := X.out
            clear X
            have hc := hgr.cell (a := ⟨w.heap.size, 1, none⟩) (v := .int .u64 60) (by simp [go_sem])
            rcases hN : numB (ds (s.data.toList.drop p)) with _ | _
            · have T := Lib.hid (fun w => number_no s p w hs hp hN)
              have H2 : Hid (stK (s.data.toList.drop (K + 2)) (n * 86400) 2 = (s.data.toList.drop p, x, b)) := Lib.hid (by show stepL _ _ (stK _ _ 1) = _; rw [H.out]; exact stepL_none (item_pos_no _ _ hN))
              clear hN H
              go_wp2_with fail
              refine (T.out _).mono ?_
              rintro _ _ ⟨rfl, rfl⟩
              clear T
              go_wp2_with fail
              go_quiet (fail)
              go_wp2_with fail
              go_roundw
              case rel => exact ⟨2, p, x, b, by omega, by omega, by go_num, by go_num, rfl, rfl, H2, hgr.drewN _⟩
              case measure => simp [intOf]
            · have hKK := endOf_le s.data.toList p (by rw [← size_len]; exact hp)
              rw [← size_len] at hKK
              have T := fun w => number_yes s p w hs hp hN
              have hnn := nval_ds_lt _ hN
              have hlt := item_pos_end s.data.toList p
              have hhit := fun h => item_pos_hit s p hN h
              generalize endOf s.data.toList p = KK at *
              generalize nval (ds (s.data.toList.drop p)) = nn at *
              have T := Lib.hid T
              by_cases hKs : KK < s.size
              · have hit := hhit hKs
                clear hhit hlt
                have d1 : decide (KK < s.size) = true := decide_eq_true hKs
                by_cases hc0 : s[KK] = 77
                · have q1 : ((s[KK].toNat : Int) == 77) = true := by rw [hc0]; rfl
                  have H2 : Hid (stK (s.data.toList.drop (K + 2)) (n * 86400) 2 = (s.data.toList.drop (KK + 1), x + nn * 60, true)) := Lib.hid (by show stepL _ _ (stK _ _ 1) = _; rw [H.out]; rw [hc0] at hit; exact stepL_hit hit)
                  have D := Lib.hid (fun w => add_any x nn 60 w (by omega) (by omega) (by omega))
                  clear hN H hit hc0
                  go_wp2_with fail
                  refine (T.out _).mono ?_
                  rintro _ _ ⟨rfl, rfl⟩
                  clear T
                  go_wp2_with fail
                  go_quiet (fail)
                  go_wp2_with fail
                  refine (D.out _).mono ?_
                  rintro _ _ ⟨rfl, rfl⟩
                  go_wp2_with fail
                  go_roundw
                  case rel => exact ⟨2, KK + 1, x + nn * 60, true, by omega, by omega, by go_num, by go_num, rfl, rfl, H2, hgr.drewN _⟩
                  case measure => simp [intOf]
                · have q1 : ((s[KK].toNat : Int) == 77) = false := ueq _ 77 hc0
                  have H2 : Hid (stK (s.data.toList.drop (K + 2)) (n * 86400) 2 = (s.data.toList.drop p, x, b)) := Lib.hid (by show stepL _ _ (stK _ _ 1) = _; rw [H.out]; exact stepL_miss hit hc0)
                  clear hN H hit hc0
                  go_wp2_with fail
                  refine (T.out _).mono ?_
                  rintro _ _ ⟨rfl, rfl⟩
                  clear T
                  go_wp2_with fail
                  go_quiet (fail)
                  go_wp2_with fail
                  go_roundw
                  case rel => exact ⟨2, p, x, b, by omega, by omega, by go_num, by go_num, rfl, rfl, H2, hgr.drewN _⟩
                  case measure => simp [intOf]
              · have d1 : decide (KK < s.size) = false := decide_eq_false hKs
                have H2 : Hid (stK (s.data.toList.drop (K + 2)) (n * 86400) 2 = (s.data.toList.drop p, x, b)) := Lib.hid (by show stepL _ _ (stK _ _ 1) = _; rw [H.out]; exact stepL_none (hlt (by rw [← size_len]; exact hKs)))
                clear hN H hhit hlt
                go_wp2_with fail
                refine (T.out _).mono ?_
                rintro _ _ ⟨rfl, rfl⟩
                clear T
                go_wp2_with fail
                go_quiet (fail)
                go_wp2_with fail
                go_roundw
                case rel => exact ⟨2, p, x, b, by omega, by omega, by go_num, by go_num, rfl, rfl, H2, hgr.drewN _⟩
                case measure => simp [intOf]
          · have X := Lib.hid (fun w => idx2 w)
            have X0 := X.out
            clear X
            have hc := hgr.cell (a := ⟨w.heap.size, 2, none⟩) (v := .int .u64 1) (by simp [go_sem])
            rcases hN : numB (ds (s.data.toList.drop p)) with _ | _
            · have T := Lib.hid (fun w => number_no s p w hs hp hN)
              have H2 : Hid (stK (s.data.toList.drop (K + 2)) (n * 86400) 3 = (s.data.toList.drop p, x, b)) := Lib.hid (by show stepL _ _ (stK _ _ 2) = _; rw [H.out]; exact stepL_none (item_pos_no _ _ hN))
              clear hN H
              go_wp2_with fail
              refine (T.out _).mono ?_
              rintro _ _ ⟨rfl, rfl⟩
              clear T
              go_wp2_with fail
              go_quiet (fail)
              go_wp2_with fail
              go_roundw
              case rel => exact ⟨3, p, x, b, by omega, by omega, by go_num, by go_num, rfl, rfl, H2, hgr.drewN _⟩
              case measure => simp [intOf]
            · have hKK := endOf_le s.data.toList p (by rw [← size_len]; exact hp)
              rw [← size_len] at hKK
              have T := fun w => number_yes s p w hs hp hN
              have hnn := nval_ds_lt _ hN
              have hlt := item_pos_end s.data.toList p
              have hhit := fun h => item_pos_hit s p hN h
              generalize endOf s.data.toList p = KK at *
              generalize nval (ds (s.data.toList.drop p)) = nn at *
              have T := Lib.hid T
              by_cases hKs : KK < s.size
              · have hit := hhit hKs
                clear hhit hlt
                have d1 : decide (KK < s.size) = true := decide_eq_true hKs
                by_cases hc0 : s[KK] = 83
                · have q1 : ((s[KK].toNat : Int) == 83) = true := by rw [hc0]; rfl
                  have H2 : Hid (stK (s.data.toList.drop (K + 2)) (n * 86400) 3 = (s.data.toList.drop (KK + 1), x + nn * 1, true)) := Lib.hid (by show stepL _ _ (stK _ _ 2) = _; rw [H.out]; rw [hc0] at hit; exact stepL_hit hit)
                  have D := Lib.hid (fun w => add_any x nn 1 w (by omega) (by omega) (by omega))
                  clear hN H hit hc0
                  go_wp2_with fail
                  refine (T.out _).mono ?_
                  rintro _ _ ⟨rfl, rfl⟩
                  clear T
                  go_wp2_with fail
                  go_quiet (fail)
                  go_wp2_with fail
                  refine (D.out _).mono ?_
                  rintro _ _ ⟨rfl, rfl⟩
                  go_wp2_with fail
                  go_roundw
                  case rel => exact ⟨3, KK + 1, x + nn * 1, true, by omega, by omega, by go_num, by go_num, by rw [Nat.mul_one], rfl, H2, hgr.drewN _⟩
                  case measure => simp [intOf]
                · have q1 : ((s[KK].toNat : Int) == 83) = false := ueq _ 83 hc0
                  have H2 : Hid (stK (s.data.toList.drop (K + 2)) (n * 86400) 3 = (s.data.toList.drop p, x, b)) := Lib.hid (by show stepL _ _ (stK _ _ 2) = _; rw [H.out]; exact stepL_miss hit hc0)
                  clear hN H hit hc0
                  go_wp2_with fail
                  refine (T.out _).mono ?_
                  rintro _ _ ⟨rfl, rfl⟩
                  clear T
                  go_wp2_with fail
                  go_quiet (fail)
                  go_wp2_with fail
                  go_roundw
                  case rel => exact ⟨3, p, x, b, by omega, by omega, by go_num, by go_num, rfl, rfl, H2, hgr.drewN _⟩
                  case measure => simp [intOf]
              · have d1 : decide (KK < s.size) = false := decide_eq_false hKs
                have H2 : Hid (stK (s.data.toList.drop (K + 2)) (n * 86400) 3 = (s.data.toList.drop p, x, b)) := Lib.hid (by show stepL _ _ (stK _ _ 2) = _; rw [H.out]; exact stepL_none (hlt (by rw [← size_len]; exact hKs)))
                clear hN H hhit hlt
                go_wp2_with fail
                refine (T.out _).mono ?_
                rintro _ _ ⟨rfl, rfl⟩
                clear T
                go_wp2_with fail
                go_quiet (fail)
                go_wp2_with fail
                go_roundw
                case rel => exact ⟨3, p, x, b, by omega, by omega, by go_num, by go_num, rfl, rfl, H2, hgr.drewN _⟩
                case measure => simp [intOf]
          · have hfin := end_of s p x _ _ b hp HC.out HD.out H.out
            clear H HC HD
            rcases b with _ | _
            · have EV := Lib.hid (hfin.1 rfl)
              clear hfin
              go_wp2_with fail
              go_ret2
              exact ⟨by rw [EV.out.1, EV.out.2]; rfl, (G.alloc _).trans hgr⟩
            · by_cases hps : p = s.size
              · by_cases hx : x ≤ top
                · have EV := Lib.hid (hfin.2.2.1 rfl hps hx)
                  have es : satT x = x := by unfold satT; unfold top at hx; omega
                  have d2 : ((p : Int) != (s.size : Int)) = false := by simp; omega
                  rw [es]
                  unfold top at hx
                  clear hfin es hps
                  go_wp2_with fail
                  go_ret2
                  exact ⟨by rw [EV.out.1, EV.out.2]; rfl, (G.alloc _).trans hgr⟩
                · have EV := Lib.hid (hfin.2.2.2 rfl hps hx)
                  have es : satT x = 1125899906842625 := by unfold satT; unfold top at hx; omega
                  have d2 : ((p : Int) != (s.size : Int)) = false := by simp; omega
                  rw [es]
                  clear hfin es hx hps
                  go_wp2_with fail
                  go_ret2
                  exact ⟨by rw [EV.out.1, EV.out.2]; rfl, (G.alloc _).trans hgr⟩
              · have EV := Lib.hid (hfin.2.1 rfl hps)
                have d2 : ((p : Int) != (s.size : Int)) = true := by simp; omega
                clear hfin hps
                go_wp2_with fail
                go_ret2
                exact ⟨by rw [EV.out.1, EV.out.2]; rfl, (G.alloc _).trans hgr⟩
          · omega
      · have ev := p_form hcal0 (by rw [hdur]; refine days_noT ?_ ?_; (rw [hr]; simp); (rintro ⟨t, e⟩; rw [hr] at e; exact h84 (List.cons.inj e).1))
        rw [ev.1, ev.2]
        have q2 : ((s[K + 1].toNat : Int) != 84) = true := une _ 84 h84
        clear ev hdur hr hcal0 h84
        generalize satT (n * 86400) = y at *
        go_enter Tryd.func25, Tryd.ntmps25
        go_wp2_with fail
        refine (T.out _).mono ?_
        rintro _ _ ⟨rfl, rfl⟩
        go_wp2_with fail
        refine (D.out _).mono ?_
        rintro _ _ ⟨rfl, rfl⟩
        go_wp2_with fail
        go_ret2
        exact ⟨rfl, Grw.rfl' _⟩
  · have y4 : ((u.toNat : Int) == 68) = false := ueq u 68 c4
    have ev := p_form hcal0 (by rw [hdur]; simp [bodyI, c3, c4])
    rw [ev.1, ev.2]
    clear ev hdur hcal0 c3 c4
    go_enter Tryd.func25, Tryd.ntmps25
    go_wp2_with fail
    refine (T.out _).mono ?_
    rintro _ _ ⟨rfl, rfl⟩
    go_wp2_with fail
    go_ret2
    exact ⟨rfl, Grw.rfl' _⟩

end Go.Proofs.YtcdfjheklggfhaaDoor
