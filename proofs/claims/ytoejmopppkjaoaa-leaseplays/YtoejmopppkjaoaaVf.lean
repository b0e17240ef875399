/- The document's Over. -/
import Derived.Test.YtoejmopppkjaoaaVe
namespace Go.Proofs.Ytoejmopppkjaoaa
open Go.RowKit
set_option linter.unusedSimpArgs false

theorem own_up {w : World} {B n : Nat} {v : Value} {xs : List Value} (o : w.ownsRow 0 39 3 v n xs) (h : ∀ k, v.ownBlock = some k → B ≤ k) : w.ownsRow B 39 3 v n xs := by
  refine ⟨o.1, ?_⟩
  rcases o.2 with h1 | ⟨b, cap, cur, h1, h2, h3⟩
  · exact Or.inl h1
  · exact Or.inr ⟨b, cap, cur, h1, h b (by rw [h1]; rfl), h3⟩
set_option maxHeartbeats 8000000 in
set_option maxRecDepth 100000 in
theorem rover_is {w : World} {r last : Nat} {v : Value} {L : List Gr} (h : RT w r last v L) (ok : Ok last L) (t : Nat) :
    Calls Try.prog 16 #[.pointer (some ⟨r, 0, none⟩), .int .u64 (t : Nat)] w fun e w' => ∃ ao cap, e = .returned (.slice ao (ov t L).length cap) ∧ Lies w' ao (cg (ov t L)) ∧ (∀ a, ao = some a → w.heap.size ≤ a.block) ∧ ∃ v', RT w' r last v' (lf t L) ∧ Frm (fun k => k = r) w w' ∧ (∀ k, v'.ownBlock = some k → w.heap.size ≤ k) := by
  obtain ⟨i0, hi, hz0, hz1, hz2⟩ := info_parts Try.info39
  have OK := Lib.hid ok
  obtain ⟨ao, cap, hv, hl⟩ := ownsRow_lies h.row
  subst hv
  have H := Lib.hid h
  have LI := Lib.hid hl
  have hb := h.len
  obtain ⟨n, hn⟩ : ∃ n, L.length = n := ⟨_, rfl⟩
  have HN := Lib.hid hn
  have C0 : Hid (∀ u, Grw w u → u.cell? ⟨r, 0, none⟩ = some (.slice ao n cap) ∧ u.frozen? ⟨r, 0, none⟩ = false) := (fun u g => ⟨by rw [← hn]; exact g.cell h.c0, frz_frm (g.frm (fun _ => False)) h.c0 (fun e => e) h.f0⟩ : ∀ u, Grw w u → u.cell? ⟨r, 0, none⟩ = some (.slice ao n cap) ∧ u.frozen? ⟨r, 0, none⟩ = false)
  rw [hn] at hb
  clear h hl hn ok
  go_enter Try.func16, Try.ntmps16
  go_wp2_with fail
  go_loopw [5, 6, 7] (fun u5 u6 u7 wr => ∃ (i : Nat), i ≤ n ∧ u7 = .int .i64 i ∧ Out w.heap.size wr u5 (ov t (L.take i)) ∧ wr.ownsRow 0 39 3 u6 (lf t (L.take i)).length (cg (lf t (L.take i))) ∧ (∀ k, u6.ownBlock = some k → w.heap.size ≤ k) ∧ (∀ b o c len, u5 = .slice (some ⟨b, o, none⟩) len c → u6.ownBlock ≠ some b) ∧ Grw w wr) (fun _ _ u7 _ => n - (intOf u7).toNat)
  case atStart => exact ⟨0, Nat.zero_le _, rfl, Or.inl ⟨rfl, rfl⟩, World.ownsRow_nil _ _ _ _, (fun k e => by cases e), (fun _ _ _ _ e => by cases e), Grw.rfl' _⟩
  case round =>
    obtain ⟨i, hi', rfl, hout, hrow, hbn, hdj, hg⟩ := hrel
    have G := Lib.hid hg
    obtain ⟨cr, fr⟩ := C0.out _ hg
    clear hg
    by_cases ci : i < n
    · have d1 : decide (i < n) = true := by simp [ci]
      have d2 : (i : Int) < (n : Int) := by omega
      have hil : i < L.length := by rw [HN.out]; exact ci
      obtain ⟨b, o, rfl, e0, e1, e2⟩ := glies_at (LI.out.later G.out) hil
      have q7 : IntKind.i64.wrap ((i : Int) + 1) = ((i + 1 : Nat) : Int) := by simp [IntKind.wrap_i64]; omega
      have PY := Lib.hid (fun hu => ov_put (t := t) hil hu)
      have PN := Lib.hid (fun hu => ov_not (t := t) hil hu)
      have QY := Lib.hid (fun hu => lf_put (t := t) hil hu)
      have QN := Lib.hid (fun hu => lf_not (t := t) hil hu)
      obtain ⟨x, hx⟩ : ∃ x, L[i] = x := ⟨_, rfl⟩
      rw [hx] at e0 e1 e2 PY PN QY QN
      obtain ⟨xn, xj, xu⟩ := x
      simp only at e0 e1 e2
      have hll : (lf t (L.take i)).length ≤ i := Nat.le_trans (lf_sub t _).length_le (by rw [List.length_take]; omega)
      have hol : (ov t (L.take i)).length ≤ i := by have := ov_len t (L.take i); rw [List.length_take] at this; omega
      obtain ⟨w2, hw2⟩ : ∃ w2, wr.alloc (.cells #[.int .i64 xn, .int .i64 xj, .int .u64 (xu : Nat)] 39) = w2 := ⟨_, rfl⟩
      have b0 : w2.cell? ⟨wr.heap.size, 0, none⟩ = some (.int .i64 xn) := by rw [← hw2]; simp [go_sem]
      have b1 : w2.cell? ⟨wr.heap.size, 1, none⟩ = some (.int .i64 xj) := by rw [← hw2]; simp [go_sem]
      have b2 : w2.cell? ⟨wr.heap.size, 2, none⟩ = some (.int .u64 (xu : Nat)) := by rw [← hw2]; simp [go_sem]
      have gw2 : Grw wr w2 := by rw [← hw2]; exact (Grw.rfl' wr).alloc _
      have WS2 : Hid (w2.heap.size = wr.heap.size + 1) := (by rw [← hw2, size_new] : w2.heap.size = wr.heap.size + 1)
      have G2 := Lib.hid (G.out.trans gw2)
      have OU := Lib.hid (hout.later gw2)
      have RO := Lib.hid (ownsRow_frm hrow (gw2.frm (fun _ => False)) (fun _ _ e => e))
      have DJ := Lib.hid (And.intro hbn hdj)
      clear hx hil hout hrow hbn hdj
      by_cases cu' : t < xu
      · have d3 : decide (t < xu) = true := by simp [cu']
        have d3' : (t : Int) < (xu : Int) := by omega
        have D1 := Lib.hid (one_gr w2 ⟨xn, xj, xu⟩)
        have D2 := Lib.hid (cg_one [⟨xn, xj, xu⟩])
        have RO3 := Lib.hid (ownsRow_frm RO.out (((Grw.rfl' w2).alloc (.cells #[.int .i64 xn, .int .i64 xj, .int .u64 (xu : Nat)] 39)).frm (fun _ => False)) (fun _ _ e => e))
        go_wp2_with (at_builtin; refine wpList_append_mine _ rfl _ _ 26 rfl 39 i0 _ 3 24 Try.underlying26 hi hz0 hz1 hz2 rfl (by decide) _ _ _ rfl RO3.out ⟨w2.heap.size, 0, none⟩ 1 1 (cg [⟨xn, xj, xu⟩]) rfl rfl D1.out D2.out (by unfold maxLen; omega) (by omega) ?_)
        intro v4 w4 hrow4 hg4 hob
        have g3 : Grw w2 (w2.alloc (.cells #[.int .i64 xn, .int .i64 xj, .int .u64 (xu : Nat)] 39)) := (Grw.rfl' w2).alloc _
        have G4 : Hid (Grw w w4) := (Frm.grw (G2.out.trans g3) (grownBy_frm hg4) (fun q e => DJ.out.1 q e) : Grw w w4)
        have BN : Hid (∀ k, v4.ownBlock = some k → w.heap.size ≤ k) := (fun k e => by
          rcases hob with hob | hob
          · exact DJ.out.1 k (hob ▸ e)
          · rw [hob] at e; injection e with e; rw [← e]; have := Below.size (G2.out.trans g3); simp only [size_new] at this; exact this : ∀ k, v4.ownBlock = some k → w.heap.size ≤ k)
        have OU4 : Hid (Out w.heap.size w4 u5 (ov t (L.take i))) := (by
          rcases OU.out with ⟨h1, h2⟩ | ⟨h1, ob, oo, oc, rfl, h2, h3, h4, h5⟩
          · exact Or.inl ⟨h1, h2⟩
          · exact Or.inr ⟨h1, ob, oo, oc, rfl, h2, h3, h4, (h5.later g3).frm (grownBy_frm hg4) (fun a e c => by injection e with e; subst e; exact DJ.out.2 ob oo oc _ rfl c)⟩ : Out w.heap.size w4 u5 (ov t (L.take i)))
        have DJ4 : Hid (∀ b o c len, u5 = .slice (some ⟨b, o, none⟩) len c → v4.ownBlock ≠ some b) := (fun b o c len e hb => by
          rcases hob with hob | hob
          · exact DJ.out.2 b o c len e (hob ▸ hb)
          · rcases OU.out with ⟨h1, h2⟩ | ⟨h1, ob, oo, oc, h0, h2, h3, h4, h5⟩
            · rw [h2] at e; cases e
            · rw [h0] at e
              injection e with e
              injection e with e
              injection e with e
              subst e
              rcases h5 with h5 | ⟨b', off', e', hlt, _⟩
              · have := cg_len (ov t (L.take i)); rw [h5] at this; simp at this; omega
              · injection e' with e'
                injection e' with e'
                subst e'
                rw [hob] at hb
                injection hb with hb
                have := Below.size g3
                omega : ∀ b o c len, u5 = .slice (some ⟨b, o, none⟩) len c → v4.ownBlock ≠ some b)
        have R4 : Hid (w4.ownsRow 0 39 3 v4 (lf t (L.take (i + 1))).length (cg (lf t (L.take (i + 1))))) := (by rw [QY.out cu', cg_app]; simpa using hrow4 : w4.ownsRow 0 39 3 v4 (lf t (L.take (i + 1))).length (cg (lf t (L.take (i + 1)))))
        clear hrow4 hg4 hob g3
        go_wp2_with fail
        go_roundw
        case rel => exact ⟨i + 1, ci, rfl, by rw [PN.out (by show ¬ xu ≤ t; omega)]; exact OU4.out, R4.out, BN.out, DJ4.out, G4.out⟩
        case measure => simp only [intOf]; omega
      · have d3 : decide (t < xu) = false := by simp [cu']
        have d3' : ¬ (t : Int) < (xu : Int) := by omega
        have hu : xu ≤ t := by omega
        rcases OU.out with ⟨h1, rfl⟩ | ⟨h1, ob, oo, oc, rfl, h2, h3, h4, h5⟩
        · have H1 := Lib.hid h1
          clear h1
          go_wp2_with fail
          refine wp_loop_rounds 1 ?_
          rw [rounds_succ]
          have z2 := gw_cell b2
          go_wp2_with fail
          refine wp_region_grown (by kernel_rfl) (by kernel_rfl) ?_
          repeat (go_big_quiet_step (fail))
          refine wpQuiet_nil ?_
          rintro _ ⟨qw, rfl⟩
          have GIQ : Grw w2 qw.x := qw.h
          obtain ⟨wq, hwq⟩ : ∃ wq, qw.x = wq := ⟨_, rfl⟩
          have GQ := Lib.hid (G2.out.trans GIQ)
          have RQ := Lib.hid (ownsRow_frm RO.out (GIQ.frm (fun _ => False)) (fun _ _ e => e))
          have e0' := GIQ.cell b0
          have e1' := GIQ.cell b1
          have e2' := GIQ.cell b2
          rw [hwq] at GQ RQ e0' e1' e2' ⊢
          clear z2 hwq GIQ
          obtain ⟨v2, y2, hr1, hr2, ho2, hg2⟩ := sort_first wq ⟨xn, xj, xu⟩
          have NL : Hid (ov t (L.take (i + 1)) = [⟨xn, xj, xu⟩]) := (by rw [PY.out hu]; exact (by rw [H1.out]; rfl) : ov t (L.take (i + 1)) = [⟨xn, xj, xu⟩])
          have GF := Lib.hid (GQ.out.trans hg2)
          have OF : Hid (Out w.heap.size y2 v2 (ov t (L.take (i + 1)))) := (by rw [NL.out]; exact ho2.base (Below.size GQ.out) : Out w.heap.size y2 v2 (ov t (L.take (i + 1))))
          have RF : Hid (y2.ownsRow 0 39 3 u6 (lf t (L.take (i + 1))).length (cg (lf t (L.take (i + 1))))) := (by rw [QN.out (by show ¬ t < xu; omega)]; exact ownsRow_frm RQ.out (hg2.frm (fun _ => False)) (fun _ _ e => e) : y2.ownsRow 0 39 3 u6 (lf t (L.take (i + 1))).length (cg (lf t (L.take (i + 1)))))
          have DF : Hid (∀ b o c len, v2 = .slice (some ⟨b, o, none⟩) len c → u6.ownBlock ≠ some b) := (fun b o c len e hb => by
            have h1 := (RQ.out.lt b hb).2
            rcases ho2 with ⟨_, h2⟩ | ⟨_, ob', oo', oc', h0, h2, _⟩
            · rw [h2] at e; cases e
            · rw [h0] at e
              injection e with e
              injection e with e
              injection e with e
              omega : ∀ b o c len, v2 = .slice (some ⟨b, o, none⟩) len c → u6.ownBlock ≠ some b)
          simp only at hr1 hr2
          clear ho2 hg2 b0 b1 b2 hw2
          go_wp2_with fail
          go_region_law (first | (refine step_append_run rfl (.tmp 56) (.tmp 59) 26 rfl (.slice (some ⟨wq.heap.size, 0, none⟩) 1 1) (.slice none 0 0) (by simp [Act.eval, Act.put]) (by simp [Act.eval, Act.put]) (hr1 _) ?_) | (refine step_append_run rfl (.tmp 54) (.tmp 60) 26 rfl (.slice none 0 0) (.slice (some ⟨wq.heap.size, 0, none⟩) 1 1) (by simp [Act.eval, Act.put]) (by simp [Act.eval, Act.put]) (hr2 _) ?_))
          clear hr1 hr2
          go_wp2_with fail
          go_roundw
          case rel => exact ⟨i + 1, ci, rfl, OF.out, RF.out, DJ.out.1, DF.out, GF.out⟩
          case measure => simp only [intOf]; omega
        · have H1 := Lib.hid h1
          have H5 := Lib.hid h5
          have HS := Lib.hid (show (ov t (L.take i)).Pairwise lt from srtG_pw ((OK.out.asc.sublist (List.take_sublist _ _)).sublist List.filter_sublist))
          obtain ⟨oL, hoL⟩ : ∃ oL, ov t (L.take i) = oL := ⟨_, rfl⟩
          rw [hoL] at H1 H5 HS h3 hol PY ⊢
          obtain ⟨m, hm⟩ : ∃ m, oL.length = m := ⟨_, rfl⟩
          have HM := Lib.hid hm
          rw [hm] at h3 hol ⊢
          clear h1 h5 hoL hm
          go_wp2_with fail
          go_loopw [9] (fun u9 wz => ∃ k : Nat, k ≤ m ∧ u9 = .int .i64 k ∧ Grw w2 wz ∧ ∀ j (h : j < oL.length), k ≤ j → xu < oL[j].u) (fun u9 _ => (intOf u9).toNat)
          case atStart => exact ⟨m, Nat.le_refl _, rfl, Grw.rfl' _, fun j h hj => by have := HM.out; omega⟩
          case round =>
            obtain ⟨k, hk, rfl, hgk, hgt⟩ := hrel
            have GK := Lib.hid hgk
            have GT := Lib.hid hgt
            have x2 := hgk.cell b2
            have z2 := gw_cell x2
            clear hgt
            by_cases hk0 : 0 < k
            · obtain ⟨q, hq⟩ : ∃ q, k = q + 1 := ⟨k - 1, by omega⟩
              have hql : q < oL.length := by rw [HM.out]; omega
              obtain ⟨b2', off2, e2, f0, f1, f2⟩ := glies_at (H5.out.later hgk) hql
              injection e2 with e2
              injection e2 with e2 e3
              subst e2; subst e3
              obtain ⟨y, hy⟩ : ∃ y, oL[q] = y := ⟨_, rfl⟩
              rw [hy] at f0 f1 f2
              have HY := Lib.hid hy
              obtain ⟨yn, yj, yu⟩ := y
              simp only at f2
              have n2 := gw_cell f2
              have hqo : q < m := by omega
              have hqi : (q : Int) < (m : Int) := by omega
              have hpos' : decide (0 < (k : Int)) = true := by simp; omega
              have hpos'' : decide (0 < k) = true := by simp; omega
              have hq1 : IntKind.i64.wrap ((k : Int) - 1) = (q : Int) := by rw [IntKind.wrap_i64]; omega
              have HQ := Lib.hid hq
              clear hy hq f0 f1 f2 hgk
              by_cases hyx : xu < yu
              · have r1 : decide ((xu : Int) < (yu : Int)) = true := by simp; omega
                have r2 : decide (xu < yu) = true := by simp; omega
                go_wp2_with fail
                refine wp_region_grown (by kernel_rfl) (by kernel_rfl) ?_
                repeat (go_big_quiet_step (fail))
                refine wpQuiet_nil ?_
                rintro _ ⟨qw, rfl⟩
                have GQ := Lib.hid (GK.out.trans qw.h)
                clear z2 n2 x2
                go_wp2_with fail
                go_roundw
                case rel => exact ⟨q, by omega, by have := HQ.out; first | rfl | go_num, GQ.out, fun j h hj => by
                  rcases Nat.lt_or_ge q j with c | c
                  · exact GT.out j h (by have := HQ.out; omega)
                  · obtain rfl : j = q := by omega
                    rw [HY.out]; exact hyx⟩
                case measure => have := HQ.out; simp [intOf]; omega
              · have r1 : decide ((xu : Int) < (yu : Int)) = false := by simp; omega
                have r2 : decide (xu < yu) = false := by simp; omega
                have NS : Hid (ov t (L.take (i + 1)) = oL.take k ++ ⟨xn, xj, xu⟩ :: oL.drop k) := (by
                  rw [PY.out hu]
                  refine insG_split _ oL k (by rw [HM.out]; exact hk) (fun j h hj => ?_) (fun h => GT.out k h (Nat.le_refl _))
                  have h1 := pw_le HS.out hql (show j ≤ q by have := HQ.out; omega)
                  rw [HY.out] at h1
                  simp only at h1 ⊢
                  omega : ov t (L.take (i + 1)) = oL.take k ++ ⟨xn, xj, xu⟩ :: oL.drop k)
                go_wp2_with fail
                refine wp_region_grown (by kernel_rfl) (by kernel_rfl) ?_
                repeat (go_big_quiet_step (fail))
                refine wpQuiet_nil ?_
                rintro _ ⟨qw, rfl⟩
                have GIQ : Grw w2 qw.x := GK.out.trans qw.h
                obtain ⟨wq, hwq⟩ : ∃ wq, qw.x = wq := ⟨_, rfl⟩
                have GQ := Lib.hid (G2.out.trans GIQ)
                have RQ := Lib.hid (ownsRow_frm RO.out (GIQ.frm (fun _ => False)) (fun _ _ e => e))
                have OQ := Lib.hid (H5.out.later GIQ)
                have e0' := GIQ.cell b0
                have e1' := GIQ.cell b1
                have e2' := GIQ.cell b2
                rw [hwq] at GQ RQ OQ e0' e1' e2' ⊢
                clear z2 n2 x2 hwq GIQ b0 b1 b2 hw2 hq1
                by_cases hck : oc = k
                · obtain rfl : k = m := by omega
                  subst hck
                  obtain ⟨v1, y1, v2, y2, hr1, hr2, ho2, hg2⟩ := sort_appends wq ob oo oc oL ⟨xn, xj, xu⟩ oc (by rw [HM.out]; omega) (by rw [HM.out]; omega) OQ.out (by rw [HM.out]; omega) ⟨ob, oo, none⟩ 0 (by rw [if_pos rfl])
                  rw [HM.out, Nat.sub_self] at hr1
                  have GF := Lib.hid (GQ.out.trans hg2)
                  have OF : Hid (Out w.heap.size y2 v2 (ov t (L.take (i + 1)))) := (by rw [NS.out]; exact ho2.base (Below.size GQ.out) : Out w.heap.size y2 v2 (ov t (L.take (i + 1))))
                  have RF : Hid (y2.ownsRow 0 39 3 u6 (lf t (L.take (i + 1))).length (cg (lf t (L.take (i + 1))))) := (by rw [QN.out (by show ¬ t < xu; omega)]; exact ownsRow_frm RQ.out (hg2.frm (fun _ => False)) (fun _ _ e => e) : y2.ownsRow 0 39 3 u6 (lf t (L.take (i + 1))).length (cg (lf t (L.take (i + 1)))))
                  have DF : Hid (∀ b o c len, v2 = .slice (some ⟨b, o, none⟩) len c → u6.ownBlock ≠ some b) := (fun b o c len e hb => by
                    have h1 := (RQ.out.lt b hb).2
                    rcases ho2 with ⟨_, h2⟩ | ⟨_, ob', oo', oc', h0, h2, _⟩
                    · rw [h2] at e; cases e
                    · rw [h0] at e
                      injection e with e
                      injection e with e
                      injection e with e
                      omega : ∀ b o c len, v2 = .slice (some ⟨b, o, none⟩) len c → u6.ownBlock ≠ some b)
                  simp only [Nat.zero_mul, Nat.add_zero, Nat.sub_zero] at hr1 hr2
                  clear ho2 hg2 
                  go_wp2_with fail
                  go_region_law (first | (refine step_append_run rfl (.tmp 56) (.tmp 59) 26 rfl _ _ (by simp [Act.eval, Act.put]) (by simp [Act.eval, Act.put]) (hr1 _) ?_) | (refine step_append_run rfl (.tmp 54) (.tmp 60) 26 rfl _ _ (by simp [Act.eval, Act.put]) (by simp [Act.eval, Act.put]) (hr2 _) ?_))
                  clear hr1 hr2
                  go_wp2_with fail
                  refine ⟨⟨i + 1, ci, rfl, OF.out, RF.out, DJ.out.1, DF.out, GF.out⟩, by simp only [intOf]; omega⟩
                · skip
                  obtain ⟨v1, y1, v2, y2, hr1, hr2, ho2, hg2⟩ := sort_appends wq ob oo oc oL ⟨xn, xj, xu⟩ k (by rw [HM.out]; omega) (by rw [HM.out]; omega) OQ.out (by rw [HM.out]; omega) ⟨ob, oo + k * 3, none⟩ (oc - k) (by rw [if_neg hck])
                  rw [HM.out] at hr1
                  have GF := Lib.hid (GQ.out.trans hg2)
                  have OF : Hid (Out w.heap.size y2 v2 (ov t (L.take (i + 1)))) := (by rw [NS.out]; exact ho2.base (Below.size GQ.out) : Out w.heap.size y2 v2 (ov t (L.take (i + 1))))
                  have RF : Hid (y2.ownsRow 0 39 3 u6 (lf t (L.take (i + 1))).length (cg (lf t (L.take (i + 1))))) := (by rw [QN.out (by show ¬ t < xu; omega)]; exact ownsRow_frm RQ.out (hg2.frm (fun _ => False)) (fun _ _ e => e) : y2.ownsRow 0 39 3 u6 (lf t (L.take (i + 1))).length (cg (lf t (L.take (i + 1)))))
                  have DF : Hid (∀ b o c len, v2 = .slice (some ⟨b, o, none⟩) len c → u6.ownBlock ≠ some b) := (fun b o c len e hb => by
                    have h1 := (RQ.out.lt b hb).2
                    rcases ho2 with ⟨_, h2⟩ | ⟨_, ob', oo', oc', h0, h2, _⟩
                    · rw [h2] at e; cases e
                    · rw [h0] at e
                      injection e with e
                      injection e with e
                      injection e with e
                      omega : ∀ b o c len, v2 = .slice (some ⟨b, o, none⟩) len c → u6.ownBlock ≠ some b)
                  simp only [Nat.zero_mul, Nat.add_zero, Nat.sub_zero] at hr1 hr2
                  have hk3 := hck
                  have hk2 : k ≤ oc := by omega
                  clear ho2 hg2 hck
                  go_wp2_with fail
                  go_region_law (first | (refine step_append_run rfl (.tmp 56) (.tmp 59) 26 rfl _ _ (by simp [Act.eval, Act.put]) (by simp [Act.eval, Act.put]) (hr1 _) ?_) | (refine step_append_run rfl (.tmp 54) (.tmp 60) 26 rfl _ _ (by simp [Act.eval, Act.put]) (by simp [Act.eval, Act.put]) (hr2 _) ?_))
                  clear hr1 hr2
                  go_wp2_with fail
                  refine ⟨⟨i + 1, ci, rfl, OF.out, RF.out, DJ.out.1, DF.out, GF.out⟩, by simp only [intOf]; omega⟩
            · obtain rfl : k = 0 := by omega
              have hck : ¬ oc = 0 := by have := H1.out; have := HM.out; omega
              have NS : Hid (ov t (L.take (i + 1)) = oL.take 0 ++ ⟨xn, xj, xu⟩ :: oL.drop 0) := (by
                rw [PY.out hu]
                exact insG_split _ oL 0 (Nat.zero_le _) (fun j h hj => by omega) (fun h => GT.out 0 h (Nat.le_refl _)) : ov t (L.take (i + 1)) = oL.take 0 ++ ⟨xn, xj, xu⟩ :: oL.drop 0)
              clear hgk
              go_wp2_with fail
              refine wp_region_grown (by kernel_rfl) (by kernel_rfl) ?_
              repeat (go_big_quiet_step (fail))
              refine wpQuiet_nil ?_
              rintro _ ⟨qw, rfl⟩
              have GIQ : Grw w2 qw.x := GK.out.trans qw.h
              obtain ⟨wq, hwq⟩ : ∃ wq, qw.x = wq := ⟨_, rfl⟩
              have GQ := Lib.hid (G2.out.trans GIQ)
              have RQ := Lib.hid (ownsRow_frm RO.out (GIQ.frm (fun _ => False)) (fun _ _ e => e))
              have OQ := Lib.hid (H5.out.later GIQ)
              have e0' := GIQ.cell b0
              have e1' := GIQ.cell b1
              have e2' := GIQ.cell b2
              rw [hwq] at GQ RQ OQ e0' e1' e2' ⊢
              clear z2 x2 hwq GIQ b0 b1 b2 hw2
              obtain ⟨v1, y1, v2, y2, hr1, hr2, ho2, hg2⟩ := sort_appends wq ob oo oc oL ⟨xn, xj, xu⟩ 0 (by rw [HM.out]; omega) (by rw [HM.out]; omega) OQ.out (by rw [HM.out]; omega) ⟨ob, oo + 0 * 3, none⟩ (oc - 0) (by rw [if_neg hck])
              rw [HM.out] at hr1
              have GF := Lib.hid (GQ.out.trans hg2)
              have OF : Hid (Out w.heap.size y2 v2 (ov t (L.take (i + 1)))) := (by rw [NS.out]; exact ho2.base (Below.size GQ.out) : Out w.heap.size y2 v2 (ov t (L.take (i + 1))))
              have RF : Hid (y2.ownsRow 0 39 3 u6 (lf t (L.take (i + 1))).length (cg (lf t (L.take (i + 1))))) := (by rw [QN.out (by show ¬ t < xu; omega)]; exact ownsRow_frm RQ.out (hg2.frm (fun _ => False)) (fun _ _ e => e) : y2.ownsRow 0 39 3 u6 (lf t (L.take (i + 1))).length (cg (lf t (L.take (i + 1)))))
              have DF : Hid (∀ b o c len, v2 = .slice (some ⟨b, o, none⟩) len c → u6.ownBlock ≠ some b) := (fun b o c len e hb => by
                have h1 := (RQ.out.lt b hb).2
                rcases ho2 with ⟨_, h2⟩ | ⟨_, ob', oo', oc', h0, h2, _⟩
                · rw [h2] at e; cases e
                · rw [h0] at e
                  injection e with e
                  injection e with e
                  injection e with e
                  omega : ∀ b o c len, v2 = .slice (some ⟨b, o, none⟩) len c → u6.ownBlock ≠ some b)
              simp only [Nat.zero_mul, Nat.add_zero, Nat.sub_zero] at hr1 hr2
              have hk3 := hck
              have hk2 : 0 ≤ oc := by omega
              clear ho2 hg2 hck
              go_wp2_with fail
              go_region_law (first | (refine step_append_run rfl (.tmp 56) (.tmp 59) 26 rfl _ _ (by simp [Act.eval, Act.put]) (by simp [Act.eval, Act.put]) (hr1 _) ?_) | (refine step_append_run rfl (.tmp 54) (.tmp 60) 26 rfl _ _ (by simp [Act.eval, Act.put]) (by simp [Act.eval, Act.put]) (hr2 _) ?_))
              clear hr1 hr2
              go_wp2_with fail
              refine ⟨⟨i + 1, ci, rfl, OF.out, RF.out, DJ.out.1, DF.out, GF.out⟩, by simp only [intOf]; omega⟩
    · have d1 : decide (i < n) = false := by simp [ci]
      have d2 : ¬ (i : Int) < (n : Int) := by omega
      have e : L.take i = L := List.take_of_length_le (by rw [HN.out]; omega)
      rw [e] at hout hrow
      have hrl := World.block_lt_of_cell? _ _ H.out.c0
      simp only at hrl
      obtain ⟨ao', cap', rfl⟩ := own_len hrow
      obtain ⟨R5, F5⟩ := H.out.row2 (L' := lf t L) G.out (own_up hrow hbn) (by have := (lf_sub t L).length_le; have := HN.out; omega)
      have R := Lib.hid (And.intro R5 (And.intro F5 hbn))
      have f5 : Frm (fun q => q = r) wr (wr.setCell ⟨r, 0, none⟩ (.slice ao' (lf t L).length cap')) := frm_set wr ⟨r, 0, none⟩ _ rfl
      rcases hout with ⟨h1, rfl⟩ | ⟨h1, ob, oo, oc, rfl, h2, h3, h4, h5⟩
      · have H1 := Lib.hid h1
        clear h1 hrow hbn hdj R5 F5 f5 e
        go_wp2_with fail
        go_ret
        exact ⟨none, ⟨0, by rw [H1.out]; rfl⟩, by rw [H1.out]; exact Or.inl rfl, (fun a e => by cases e), _, R.out⟩
      · have HB2 := Lib.hid h2
        have LO := Lib.hid (h5.frm f5 (fun a e c => by injection e with e; subst e; simp only at c; omega))
        clear h1 h2 h3 h4 h5 hrow hbn hdj R5 F5 f5 e
        go_wp2_with fail
        go_ret
        exact ⟨_, ⟨oc, rfl⟩, LO.out, (fun a e => by injection e with e; subst e; exact HB2.out), _, R.out⟩
end Go.Proofs.Ytoejmopppkjaoaa
