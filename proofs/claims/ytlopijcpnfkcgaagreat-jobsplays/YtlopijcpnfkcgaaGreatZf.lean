/- The document's book: Rested and Drop. -/
import Derived.Test.YtlopijcpnfkcgaaGreatZe
namespace Go.Proofs.YtlopijcpnfkcgaaGreat
open Go.RowKit
set_option linter.unusedSimpArgs false
variable {w x : World} {r : Nat} {a room n count : Int} {V V' : ZV} {last : Nat} {L : List QQ.Wt} {G : List LE.Gr} {J : List Jb}
set_option maxHeartbeats 1000000 in
set_option maxRecDepth 100000 in
theorem zrested_un (h : ZB w r a room n count V last L G J) {i : Int} (hi : ∀ x ∈ J, x.id ≠ i) :
    Calls Tryz.prog 18 #[.pointer (some ⟨r, 0, none⟩), .int .i64 i] w fun e w' => e = .returned (.bool false) ∧ Grw w w' := by
  have C := Lib.hid (zfind_no h hi)
  clear h hi
  go_enter Tryz.func18, Tryz.ntmps18
  go_wp2_with fail
  refine C.out.mono ?_
  rintro _ w1 ⟨rfl, g⟩
  have G1 := Lib.hid g
  clear g
  go_wp2_with fail
  go_ret
  exact ⟨rfl, G1.out⟩
set_option maxHeartbeats 1000000 in
set_option maxRecDepth 100000 in
theorem zrested_no (h : ZB w r a room n count V last L G J) (hI : Ids J) {i : Int} {j : Nat} (hj : j < J.length) (hid : J[j].id = i) (hs : (J[j].s == 3) = false) :
    Calls Tryz.prog 18 #[.pointer (some ⟨r, 0, none⟩), .int .i64 i] w fun e w' => e = .returned (.bool false) ∧ Grw w w' := by
  have C := Lib.hid (zfind_at h hI hj hid)
  obtain ⟨gb, cap, hv, -, -, -, b2, -, -, -⟩ := own_at (RB.rj h) hj
  obtain ⟨ys, hys⟩ : ∃ ys, J[j].s = ys := ⟨_, rfl⟩
  obtain ⟨mm, hmm⟩ : ∃ mm, J.length = mm := ⟨_, rfl⟩
  have c7 := RB.c7 h
  rw [hv, hmm] at c7
  rw [hys] at b2 hs
  have d0 : decide ((j : Int) < 0) = false := by simp
  have d1 : (j : Int) < (mm : Int) := by omega
  have hjm : j < mm := by omega
  have MC := Lib.hid (And.intro c7 b2)
  clear h hid hys hmm hj hv c7 b2
  go_enter Tryz.func18, Tryz.ntmps18
  go_wp2_with fail
  refine C.out.mono ?_
  rintro _ w1 ⟨rfl, g⟩
  have m7 := g.cell MC.out.1
  have m2 := g.cell MC.out.2
  have G1 := Lib.hid g
  clear g
  go_wp2_with fail
  go_ret
  exact ⟨rfl, G1.out⟩
set_option maxHeartbeats 8000000 in
set_option maxRecDepth 100000 in
theorem zrested_yes (h : ZB w r a room n count V last L G J) (hI : Ids J) {i : Int} {j : Nat} (hj : j < J.length) (hid : J[j].id = i) (hs : J[j].s = 3) (hgd : RE.gd n 3 J[j].u = true) (hc : 0 ≤ J[j].cl ∧ J[j].cl < 8) (hL : ∀ m, m < L.length → (QQ.gt L m).id ≠ i) (hl : (L.length : Int) < room) (hlb : L.length ≤ 1000) :
    Calls Tryz.prog 18 #[.pointer (some ⟨r, 0, none⟩), .int .i64 i] w fun e w' => e = .returned (.bool true) ∧
      ∃ V', ZB w' r a room n count V' last (L ++ [⟨i, J[j].cl, count⟩]) G (upd J ⟨i, J[j].cl, 1, J[j].u⟩) ∧ Zs r V V' w w' := by
  have C := Lib.hid (zfind_at h hI hj hid)
  have H := Lib.hid h
  have ST := Lib.hid (fun y => RE.rstep_is n 3 J[j].u 4 1 J[j].u true y (st_4 hgd))
  obtain ⟨gb, cap, hv, hgb, -, -, b2, -, -, -⟩ := own_at (RB.rj h) hj
  have HH := Lib.hid (And.intro hI (And.intro hid (And.intro hv (And.intro hs (And.intro hgb hgd)))))
  have HC := Lib.hid (And.intro hc (And.intro hL (And.intro hl hlb)))
  obtain ⟨mm, hmm⟩ : ∃ mm, J.length = mm := ⟨_, rfl⟩
  have c7 := RB.c7 h
  rw [hv, hmm] at c7
  rw [hs] at b2
  have d0 : decide ((j : Int) < 0) = false := by simp
  have d1 : (j : Int) < (mm : Int) := by omega
  have hjm : j < mm := by omega
  have MC := Lib.hid (And.intro c7 b2)
  have MM := Lib.hid hmm
  clear h hgb hgd hc hL hl hlb hid hv hs c7 b2 hmm
  go_enter Tryz.func18, Tryz.ntmps18
  go_wp2_with fail
  refine C.out.mono ?_
  rintro _ w3 ⟨rfl, g3⟩
  have m7 := g3.cell MC.out.1
  have m2 := g3.cell MC.out.2
  have R3 := Lib.hid (H.out.later g3)
  have Z3 := Lib.hid (Zs.of r V g3)
  clear g3
  go_upto_region 4 with fail
  clear m7 m2
  go_cut [] from 23 to 44 (fun wx => ZB wx r a room n count V last L G (upd J ⟨J[j].id, J[j].cl, 1, J[j].u⟩) ∧ Frm (fun q => q = gb) w3 wx)
  case first =>
    obtain ⟨gb', cap', hv', -, -, -, b2, b3, fz2, fz3⟩ := own_at (RB.rj R3.out) hj
    have e1 := HH.out.2.2.1.symm.trans hv'
    injection e1 with e1 e2 e3
    injection e1 with e1
    injection e1 with e1
    subst e1 e3
    obtain ⟨yu, hyu⟩ : ∃ yu, J[j].u = yu := ⟨_, rfl⟩
    have c7 := RB.c7 R3.out
    have c6 := RB.c6 R3.out
    rw [HH.out.2.2.2.1] at b2
    rw [hyu] at b3 ST

    rw [hv', MM.out] at c7
    have LT3 := Lib.hid (RB.lt8 R3.out)
    have fd := fld85
    have SS : Hid (∀ u, Grw w3 u → (u.cell? ⟨r, 7, none⟩ = some (.slice (some ⟨gb, 0, none⟩) mm cap) ∧ u.cell? ⟨r, 6, none⟩ = some (.int .i64 n) ∧ u.cell? ⟨gb, j * 4 + 2, none⟩ = some (.int .i64 3) ∧ u.cell? ⟨gb, j * 4 + 3, none⟩ = some (.int .i64 yu) ∧ u.frozen? ⟨gb, j * 4 + 2, none⟩ = false ∧ u.frozen? ⟨gb, j * 4 + 3, none⟩ = false ∧ u.cell? ⟨gb, j * 4 + 2 + 1, none⟩ = some (.int .i64 yu) ∧ u.frozen? ⟨gb, j * 4 + 2 + 1, none⟩ = false)) :=
      (fun u g => ⟨g.cell c7, g.cell c6, g.cell b2, g.cell b3, LE.frz_frm (g.frm (fun _ => False)) b2 (fun e => e) fz2, LE.frz_frm (g.frm (fun _ => False)) b3 (fun e => e) fz3, g.cell b3, LE.frz_frm (g.frm (fun _ => False)) b3 (fun e => e) fz3⟩ : ∀ u, Grw w3 u → (u.cell? ⟨r, 7, none⟩ = some (.slice (some ⟨gb, 0, none⟩) mm cap) ∧ u.cell? ⟨r, 6, none⟩ = some (.int .i64 n) ∧ u.cell? ⟨gb, j * 4 + 2, none⟩ = some (.int .i64 3) ∧ u.cell? ⟨gb, j * 4 + 3, none⟩ = some (.int .i64 yu) ∧ u.frozen? ⟨gb, j * 4 + 2, none⟩ = false ∧ u.frozen? ⟨gb, j * 4 + 3, none⟩ = false ∧ u.cell? ⟨gb, j * 4 + 2 + 1, none⟩ = some (.int .i64 yu) ∧ u.frozen? ⟨gb, j * 4 + 2 + 1, none⟩ = false))
    have HY := Lib.hid (And.intro hyu (And.intro hv' hj))
    have UB := Lib.hid (fun y (gy : Grw w3 y) => (R3.out.later gy).turn HH.out.1 hj hv' 1 J[j].u)
    rw [hyu] at UB
    unfold RE.rv at ST
    have b3' : w3.cell? ⟨gb, j * 4 + 2 + 1, none⟩ = some (.int .i64 yu) := b3
    have fz3' : w3.frozen? ⟨gb, j * 4 + 2 + 1, none⟩ = false := fz3
    clear hyu hv'
    go_region_law (first | (go_simp; go_at_call 35; (with_reducible refine (ST.out _).mono ?_); rintro _ w4 ⟨rfl, hw4⟩; have hx : Grw w3 w4 := Grw.trans (by repeat (first | with_reducible exact Grw.rfl' _ | with_reducible refine Grw.drew ?_)) hw4; obtain ⟨k7, k6, k2, k3, k8, k9, k10, k11⟩ := SS.out _ hx; clear hw4))
    all_goals
      have UU := UB.out _ hx
      go_wp2_with fail
      go_meet
      case rel => exact ⟨by have e := HY.out.1; simp only [e]; exact UU.1, (hx.frm _).trans UU.2 (fun _ e => Or.inl e)⟩
  case rest =>
    obtain ⟨hz, hfr⟩ := hcut
    have R4 := Lib.hid hz
    have Z4 := Lib.hid (Z3.out.trans (Zs.ofJ (V := V) HH.out.2.2.1 hfr))
    obtain ⟨hj', hz'⟩ := upd_at (z := ⟨J[j].id, J[j].cl, 1, J[j].u⟩) hj rfl
    obtain ⟨gb', cap', hv', -, -, b1, -, -, -, -⟩ := own_at (RB.rj R4.out) hj'
    rw [hz'] at b1
    obtain ⟨yc, hyc⟩ : ∃ yc, J[j].cl = yc := ⟨_, rfl⟩
    have c7 := RB.c7 R4.out
    have NG : Hid (¬ gb' = r) := (fun e => RB.nj R4.out (by rw [hv', ← e]; rfl) : ¬ gb' = r)
    have hln : (upd J ⟨J[j].id, J[j].cl, 1, J[j].u⟩).length = mm := by rw [upd_len]; exact MM.out
    simp only at b1
    have HV := Lib.hid hv'
    rw [hv', hln] at c7
    rw [hyc] at b1
    have HYC := Lib.hid hyc
    have PU := Lib.hid (QQ.rput_yes (RB.toQ (hz.later ((Grw.rfl' _).drew))) i yc (by have := HC.out.1.1; omega) (by have := HC.out.1.2; omega) HC.out.2.1 HC.out.2.2.1 (by have := HC.out.2.2.2; omega))
    clear hz hfr hv' hz' hyc
    go_upto_region 5 with fail
    go_region_held3 (fun u => u.cell? ⟨r, 7, none⟩ = some (.slice (some ⟨gb', 0, none⟩) mm cap') ∧ u.cell? ⟨gb', j * 4 + 1, none⟩ = some (.int .i64 yc)) (first | exact ⟨c7, b1⟩ | exact ⟨c7', b1'⟩) (first | (go_at_call 29; refine PU.out.mono ?_; rintro _ w5 ⟨rfl, vq', q5, f5, n5⟩; have b1' := f5.cell (v := .int .i64 yc) b1 NG.out; have R5 := Lib.hid ((R4.out.later ((Grw.rfl' _).drew)).stepQ q5 f5 n5); have c7' := RB.c7 R5.out.1; simp only at c7'; rw [HV.out, hln] at c7'; clear q5 f5 n5))
    go_wp2_with fail
    go_ret
    exact ⟨rfl, _, by have e := R5.out.1; rw [← HYC.out] at e; rw [← HH.out.2.1]; rw [HH.out.2.1] at e ⊢; exact e, (Z4.out.trans (Zs.of r _ ((Grw.rfl' _).drew))).trans R5.out.2⟩
theorem ZB.qdrop (h : ZB w r a room n count V last L G J) (hids : (L.map QQ.Wt.id).Nodup) (i : Int) {L' : List QQ.Wt} (h1 : (∀ y ∈ L, y.id ≠ i) → L' = L) (h2 : ∀ j, j < L.length → (QQ.gt L j).id = i → L' = QQ.rem L j) :
    Calls Tryz.prog 44 #[.pointer (some ⟨r, 0, none⟩), .int .i64 i] w fun e w' => ∃ b, e = .returned (.bool b) ∧ ∃ V', ZB w' r a room n count V' last L' G J ∧ Zs r V V' w w' := by
  by_cases c : ∃ j, j < L.length ∧ (QQ.gt L j).id = i
  · obtain ⟨j, hj, e⟩ := c
    rw [h2 j hj e]
    refine (QQ.rdrop_yes (RB.toQ h) i j hj e (fun m hm em => ?_)).mono ?_
    · have hp := List.pairwise_iff_getElem.1 hids
      rw [QQ.gt_at hm] at em
      rw [QQ.gt_at hj] at e
      rcases Nat.lt_trichotomy m j with c | c | c
      · exact (hp m j (by simpa using hm) (by simpa using hj) c (by rw [List.getElem_map, List.getElem_map, em, e])).elim
      · exact c
      · exact (hp j m (by simpa using hj) (by simpa using hm) c (by rw [List.getElem_map, List.getElem_map, em, e])).elim
    · rintro e w' ⟨he, v', q, f, nn⟩
      exact ⟨true, he, _, h.stepQ q f nn⟩
  · have hno : ∀ j, j < L.length → (QQ.gt L j).id ≠ i := fun j hj e => c ⟨j, hj, e⟩
    rw [h1 (fun y hy e => by
      obtain ⟨j, hj, rfl⟩ := List.mem_iff_getElem.1 hy
      exact hno j hj (by rw [QQ.gt_at hj]; exact e))]
    exact (QQ.rdrop_no (RB.toQ h) i hno).mono fun e w' ⟨he, g⟩ => ⟨false, he, V, h.later g, Zs.of r V g⟩
set_option maxHeartbeats 1000000 in
set_option maxRecDepth 100000 in
theorem zdrop_no (h : ZB w r a room n count V last L G J) {i : Int} (hi : ∀ x ∈ J, x.id ≠ i) :
    Calls Tryz.prog 20 #[.pointer (some ⟨r, 0, none⟩), .int .i64 i] w fun e w' => e = .returned (.bool false) ∧ Grw w w' := by
  have C := Lib.hid (zfind_no h hi)
  clear h hi
  go_enter Tryz.func20, Tryz.ntmps20
  go_wp2_with fail
  refine C.out.mono ?_
  rintro _ w1 ⟨rfl, g⟩
  have G1 := Lib.hid g
  clear g
  go_wp2_with fail
  go_ret
  exact ⟨rfl, G1.out⟩
set_option maxHeartbeats 4000000 in
set_option maxRecDepth 100000 in
theorem zdrop_yes (h : ZB w r a room n count V last L G J) (hI : Ids J) (hids : (L.map QQ.Wt.id).Nodup) (hok : LE.Ok last G) {i : Int} {j : Nat} (hj : j < J.length) (hid : J[j].id = i)
    {L' : List QQ.Wt} (h1 : (∀ y ∈ L, y.id ≠ i) → L' = L) (h2 : ∀ j, j < L.length → (QQ.gt L j).id = i → L' = QQ.rem L j) :
    Calls Tryz.prog 20 #[.pointer (some ⟨r, 0, none⟩), .int .i64 i] w fun e w' => e = .returned (.bool true) ∧ ∃ V', ZB w' r a room n count V' last L' (lg G i) (gon J i) ∧ Zs r V V' w w' := by
  have C := Lib.hid (zfind_at h hI hj hid)
  have H := Lib.hid h
  have HH := Lib.hid (And.intro hids (And.intro h1 (And.intro h2 hok)))
  have d0 : decide ((j : Int) < 0) = false := by simp
  clear h hI hids hok hid h1 h2
  go_enter Tryz.func20, Tryz.ntmps20
  go_wp2_with fail
  refine C.out.mono ?_
  rintro _ w1 ⟨rfl, g⟩
  have R1 := Lib.hid (And.intro (H.out.later g) (Zs.of r V g))
  clear g
  go_wp2_with fail
  refine (R1.out.1.gone i).mono ?_
  rintro _ w2 ⟨rfl, V2, z2, s2⟩
  have R2 := Lib.hid (And.intro z2 (R1.out.2.trans s2))
  clear z2 s2
  go_wp2_with fail
  refine (R2.out.1.qdrop HH.out.1 i HH.out.2.1 HH.out.2.2.1).mono ?_
  rintro _ w3 ⟨b3, rfl, V3, z3, s3⟩
  have R3 := Lib.hid (And.intro z3 (R2.out.2.trans s3))
  clear z3 s3
  go_wp2_with fail
  have OF := Lib.hid (LE.rof_is (RB.toT R3.out.1) i)
  rcases hb : LE.byJ G i with _ | ⟨gn, gj, gu⟩
  · rw [hb] at OF
    unfold LE.fv LE.g0 at OF
    simp only [Option.getD_none, Option.isSome_none] at OF
    refine OF.out.mono ?_
    rintro _ w4 ⟨rfl, g4⟩
    have G4 := Lib.hid g4
    have HB := Lib.hid hb
    clear g4 hb
    go_wp2_with fail
    go_ret
    exact ⟨rfl, _, by have e : lg G i = G := by unfold lg; rw [HB.out]
                      rw [e]; exact R3.out.1.later (G4.out.alloc _), R3.out.2.trans (Zs.of r _ (G4.out.alloc _))⟩
  · rw [hb] at OF
    unfold LE.fv at OF
    simp only [Option.getD_some, Option.isSome_some] at OF
    refine OF.out.mono ?_
    rintro _ w4 ⟨rfl, g4⟩
    obtain ⟨w5, hw5⟩ : ∃ w5, w4.alloc (.cells #[.int .i64 gn, .int .i64 gj, .int .u64 (gu : Nat), .bool true] 93) = w5 := ⟨_, rfl⟩
    have g5 : Grw w4 w5 := by rw [← hw5]; exact (Grw.rfl' w4).alloc _
    have x0 : w5.cell? ⟨w4.heap.size, 0, none⟩ = some (.int .i64 gn) := by rw [← hw5]; simp [go_sem]
    have x3 : w5.cell? ⟨w4.heap.size, 3, none⟩ = some (.bool true) := by rw [← hw5]; simp [go_sem]
    have R5 := Lib.hid (And.intro (R3.out.1.later (g4.trans g5)) (R3.out.2.trans (Zs.of r _ (g4.trans g5))))
    have HB := Lib.hid hb
    have NB : Hid (¬ w4.heap.size = r) := (fun e => (R3.out.1.later g4).nzb (Or.inl e) : ¬ w4.heap.size = r)
    have DR := Lib.hid (LE.rdrop_is (RB.toT (R5.out.1.later ((Grw.rfl' _).drew))) gn)
    clear g4 hb g5
    go_wp2_with fail
    clear hw5
    go_region_held3 (fun u => u.cell? ⟨w4.heap.size, 0, none⟩ = some (.int .i64 gn)) (first | exact x0 | exact x0') (first | (go_at_call 39; refine DR.out.mono ?_; rintro _ w6 ⟨rfl, vt', q6, f6, n6⟩; have x0' := f6.cell (v := .int .i64 gn) x0 NB.out; have R6 := Lib.hid ((R5.out.1.later ((Grw.rfl' _).drew)).stepT q6 f6 n6); clear q6 f6 n6))
    go_wp2_with fail
    go_ret
    refine ⟨rfl, _, ?_, (R5.out.2.trans (Zs.of r _ ((Grw.rfl' _).drew))).trans R6.out.2⟩
    have e : lg G i = LE.dr gn G := by
      have e1 := LE.off_n HH.out.2.2.2 (LE.byJ_some HB.out).1
      unfold lg LE.dr
      rw [HB.out]
      exact e1
    rw [e]
    exact R6.out.1
end Go.Proofs.YtlopijcpnfkcgaaGreat
