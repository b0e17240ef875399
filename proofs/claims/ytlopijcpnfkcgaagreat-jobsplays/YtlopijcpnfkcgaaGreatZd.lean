/- The document's book: Fetch. -/
import Derived.Test.YtlopijcpnfkcgaaGreatZc
import Derived.Deep.RegionLaw
namespace Go.Proofs.YtlopijcpnfkcgaaGreat
open Go.RowKit
set_option linter.unusedSimpArgs false
variable {w x : World} {r : Nat} {a room n count : Int} {V V' : ZV} {last : Nat} {L : List QQ.Wt} {G : List LE.Gr} {J : List Jb}
theorem fld85 (w : World) (s u : Int) (b : Bool) : (Instr.field 85 (.agg #[.int .i64 s, .int .i64 u, .bool b]) 0).run Tryz.prog w = .ok (.agg #[.int .i64 s, .int .i64 u]) w := by kernel_rfl
theorem upd_at {J : List Jb} {z : Jb} {j : Nat} (hj : j < J.length) (hid : J[j].id = z.id) : ∃ h : j < (upd J z).length, (upd J z)[j] = z := by
  refine ⟨by rw [upd_len]; exact hj, ?_⟩
  unfold upd
  rw [List.getElem_map, if_pos hid]
theorem ZB.turn (h : ZB w r a room n count V last L G J) (hI : Ids J) {j : Nat} (hj : j < J.length) {g cap : Nat} (hv : V.j = .slice (some ⟨g, 0, none⟩) J.length cap) (s u : Int) :
    ZB ((w.setCell ⟨g, j * 4 + 2, none⟩ (.int .i64 s)).setCell ⟨g, j * 4 + 3, none⟩ (.int .i64 u)) r a room n count V last L G (upd J ⟨J[j].id, J[j].cl, s, u⟩) ∧ Frm (fun k => k = g) w ((w.setCell ⟨g, j * 4 + 2, none⟩ (.int .i64 s)).setCell ⟨g, j * 4 + 3, none⟩ (.int .i64 u)) := RB.turn h hI hj hv s u
theorem ZB.nzb (h : ZB w r a room n count V last L G J) : ¬ zb r V w.heap.size := fun e => Nat.lt_irrefl _ (RB.lt8 h _ e)
theorem Zs.ofJ {g : Nat} {cap m : Nat} (hv : V.j = .slice (some ⟨g, 0, none⟩) m cap) (f : Frm (fun k => k = g) w x) : Zs r V V w x :=
  ⟨f.mono (fun k e => Or.inr (Or.inr (Or.inr (by rw [hv, e]; rfl)))), fun _ h => Or.inl h⟩
theorem ZB.off (h : ZB w r a room n count V last L G J) {b : Nat} (hb : ¬ zb r V b) (o : Nat) (u : Value) : ZB (w.setCell ⟨b, o, none⟩ u) r a room n count V last L G J :=
  RB.keep h (frm_set (F := fun k => k = b) w ⟨b, o, none⟩ u rfl) (fun _ hk e => hb (e ▸ hk))
theorem Zs.set (h : Zs r V V' w x) {b : Nat} (hb : w.heap.size ≤ b) (o : Nat) (u : Value) : Zs r V V' w (x.setCell ⟨b, o, none⟩ u) := ⟨h.f.set _ _ (Or.inr hb), h.n⟩
set_option maxHeartbeats 1000000 in
set_option maxRecDepth 100000 in
theorem zfetch_none (h : ZB w r a room n count V last [] G J) (t : Nat) : Calls Tryz.prog 12 #[.pointer (some ⟨r, 0, none⟩), .int .u64 (t : Nat)] w fun e w' => e = .returned (.tuple #[lv 0 0 0 0, .int .i64 12]) ∧ Grw w w' := by
  have ga := (Grw.rfl' w).alloc (.cells #[.int .i64 0, .int .i64 0, .int .i64 0, .int .i64 0, .int .i64 0, .int .u64 0] 38)
  have GA := Lib.hid ga
  have C := Lib.hid (QQ.rtake_none (RB.toQ (h.later ga)))
  unfold QQ.wv at C
  simp only at C
  have S := Lib.hid (Six.new w (.int .i64 0) (.int .i64 0) (.int .i64 0) (.int .i64 0) (.int .i64 0) (.int .u64 0) 38)
  clear h ga
  go_enter Tryz.func12, Tryz.ntmps12
  go_wp2_with fail
  refine C.out.mono ?_
  rintro _ w1 ⟨rfl, hw⟩
  have G1 := Lib.hid (GA.out.trans hw)
  have s := S.out.later hw (by rw [size_new]; omega)
  have s' := s.later ((Grw.rfl' w1).alloc (.cells #[.int .i64 0, .int .i64 0, .int .i64 0] 77)) (by have := Below.size hw; rw [size_new] at this; omega)
  obtain ⟨z0, z1, z2, z3, z4, z5, k0, k1, k2, k3, k4, k5⟩ := s'
  clear hw s
  go_wp2_with fail
  exact bodyPost_ret (v := .tuple #[lv 0 0 0 0, .int .i64 12]) (by simp [results, Tryz.results12, go_sem, lv, z0, z1, z2, z3, z4, z5]) rfl ⟨rfl, by repeat (first | with_reducible exact G1.out | with_reducible refine Grw.alloc ?_ _ | with_reducible refine Grw.set ?_ (Nat.le_refl _) _)⟩
set_option maxHeartbeats 8000000 in
set_option maxRecDepth 100000 in
theorem zfetch_some (h : ZB w r a room n count V last L G J) (hI : Ids J) (hids : (L.map QQ.Wt.id).Nodup) {k : Nat} (hf : QQ.Fst a L k) (h0 : 0 ≤ count) (h1 : count ≤ 4611686018427387904) {j : Nat} (hj : j < J.length) (hid : J[j].id = (QQ.gt L k).id) (hs : J[j].s = 1) (hgd : RE.gd n 1 J[j].u = true)
    {t m : Nat} (hm : last + 1 = m) (hl : last ≤ 1000000) (hG : G.length < 10000) (hbj : LE.byJ G J[j].id = none) (hok : LE.byN (G ++ [⟨(m : Nat), J[j].id, t⟩]) (m : Nat) = some ⟨(m : Nat), J[j].id, t⟩) :
    Calls Tryz.prog 12 #[.pointer (some ⟨r, 0, none⟩), .int .u64 (t : Nat)] w fun e w' => e = .returned (.tuple #[lv (m : Nat) J[j].id (J[j].u + 1) t, .int .i64 0]) ∧
      ∃ V', ZB w' r a room n (count + 1) V' m (QQ.rem L k) (G ++ [⟨(m : Nat), J[j].id, t⟩]) (upd J ⟨J[j].id, J[j].cl, 2, J[j].u + 1⟩) ∧ Zs r V V' w w' := by
  obtain ⟨⟨gi, gc, gm⟩, hg⟩ : ∃ z, QQ.gt L k = z := ⟨_, rfl⟩
  rw [hg] at hid
  simp only at hid
  have ga := (Grw.rfl' w).alloc (.cells #[.int .i64 0, .int .i64 0, .int .i64 0, .int .i64 0, .int .i64 0, .int .u64 0] 38)
  have H0 := Lib.hid (h.later ga)
  have C := Lib.hid (QQ.rtake_some (RB.toQ H0.out) hf hids h0 h1)
  rw [hg] at C
  unfold QQ.wv at C
  simp only at C
  have S := Lib.hid (Six.new w (.int .i64 0) (.int .i64 0) (.int .i64 0) (.int .i64 0) (.int .i64 0) (.int .u64 0) 38)
  have GA := Lib.hid ga
  have NB := Lib.hid h.nzb
  have ST := Lib.hid (fun y => RE.rstep_is n 1 J[j].u 1 2 (J[j].u + 1) true y (st_1 hgd))
  obtain ⟨gb, cap, hv, hgb, -, -, -, -, -, -⟩ := own_at (RB.rj h) hj
  have HH := Lib.hid (And.intro hI (And.intro hid (And.intro hv (And.intro hs (And.intro hgb hgd)))))
  have HM := Lib.hid (And.intro hm (And.intro hl (And.intro hG (And.intro hbj hok))))
  clear h hf hids h0 h1 hg ga hgb hgd hm hl hG hbj hok
  go_enter Tryz.func12, Tryz.ntmps12
  go_wp2_with fail
  refine C.out.mono ?_
  rintro _ w1 ⟨rfl, vq', q1, f1, n1⟩
  have R1 := Lib.hid (H0.out.stepQ q1 f1 n1)
  obtain ⟨w2, hw2⟩ : ∃ w2, w1.alloc (.cells #[.int .i64 gi, .int .i64 gc, .int .i64 gm] 77) = w2 := ⟨_, rfl⟩
  have g2 : Grw w1 w2 := by rw [← hw2]; exact (Grw.rfl' w1).alloc _
  have x0 : w2.cell? ⟨w1.heap.size, 0, none⟩ = some (.int .i64 gi) := by rw [← hw2]; simp [go_sem]
  have R2 := Lib.hid (R1.out.1.later g2)
  have FN := Lib.hid (zfind_at R2.out HH.out.1 hj HH.out.2.1)
  have Z2 := Lib.hid (R1.out.2.trans (Zs.of r _ g2))
  have N2 := Lib.hid R1.out.1.nzb
  clear q1 f1 n1 g2 hid hv hs
  go_wp2_with fail
  refine FN.out.mono ?_
  rintro _ w3 ⟨rfl, g3⟩
  have R3 := Lib.hid (R2.out.later g3)
  have X3 := Lib.hid (g3.cell x0)
  have Z3 := Lib.hid (Z2.out.trans (Zs.of r _ g3))
  clear x0 g3 hw2
  go_upto_region 5 with fail
  go_cut [] from 26 to 47 (fun wx => ZB wx r a room n (count + 1) ⟨vq', V.t, V.j⟩ last (QQ.rem L k) G (upd J ⟨J[j].id, J[j].cl, 2, J[j].u + 1⟩) ∧ Frm (fun q => q = gb) w3 wx)
  case first =>
    obtain ⟨gb', cap', hv', -, -, -, b2, b3, fz2, fz3⟩ := own_at (RB.rj R3.out) hj
    have e1 := HH.out.2.2.1.symm.trans hv'
    injection e1 with e1 e2 e3
    injection e1 with e1
    injection e1 with e1
    subst e1 e3
    obtain ⟨yu, hyu⟩ : ∃ yu, J[j].u = yu := ⟨_, rfl⟩
    obtain ⟨mm, hmm⟩ : ∃ mm, J.length = mm := ⟨_, rfl⟩
    have c7 := RB.c7 R3.out
    have c6 := RB.c6 R3.out
    rw [HH.out.2.2.2.1] at b2
    rw [hyu] at b3 ST
    simp only at hv' c7
    rw [hv', hmm] at c7
    have LT3 := Lib.hid (RB.lt8 R3.out)
    have d1 : (j : Int) < (mm : Int) := by omega
    have hjm : j < mm := by omega
    have fd := fld85
    have SS : Hid (∀ u, Grw w3 u → (u.cell? ⟨r, 7, none⟩ = some (.slice (some ⟨gb, 0, none⟩) mm cap) ∧ u.cell? ⟨r, 6, none⟩ = some (.int .i64 n) ∧ u.cell? ⟨gb, j * 4 + 2, none⟩ = some (.int .i64 1) ∧ u.cell? ⟨gb, j * 4 + 3, none⟩ = some (.int .i64 yu) ∧ u.frozen? ⟨gb, j * 4 + 2, none⟩ = false ∧ u.frozen? ⟨gb, j * 4 + 3, none⟩ = false ∧ u.cell? ⟨gb, j * 4 + 2 + 1, none⟩ = some (.int .i64 yu) ∧ u.frozen? ⟨gb, j * 4 + 2 + 1, none⟩ = false)) :=
      (fun u g => ⟨g.cell c7, g.cell c6, g.cell b2, g.cell b3, LE.frz_frm (g.frm (fun _ => False)) b2 (fun e => e) fz2, LE.frz_frm (g.frm (fun _ => False)) b3 (fun e => e) fz3, g.cell b3, LE.frz_frm (g.frm (fun _ => False)) b3 (fun e => e) fz3⟩ : ∀ u, Grw w3 u → (u.cell? ⟨r, 7, none⟩ = some (.slice (some ⟨gb, 0, none⟩) mm cap) ∧ u.cell? ⟨r, 6, none⟩ = some (.int .i64 n) ∧ u.cell? ⟨gb, j * 4 + 2, none⟩ = some (.int .i64 1) ∧ u.cell? ⟨gb, j * 4 + 3, none⟩ = some (.int .i64 yu) ∧ u.frozen? ⟨gb, j * 4 + 2, none⟩ = false ∧ u.frozen? ⟨gb, j * 4 + 3, none⟩ = false ∧ u.cell? ⟨gb, j * 4 + 2 + 1, none⟩ = some (.int .i64 yu) ∧ u.frozen? ⟨gb, j * 4 + 2 + 1, none⟩ = false))
    have HY := Lib.hid (And.intro hyu (And.intro hv' hj))
    have UB := Lib.hid (fun y (gy : Grw w3 y) => (R3.out.later gy).turn HH.out.1 hj hv' 2 (J[j].u + 1))
    rw [hyu] at UB
    unfold RE.rv at ST
    have b3' : w3.cell? ⟨gb, j * 4 + 2 + 1, none⟩ = some (.int .i64 yu) := b3
    have fz3' : w3.frozen? ⟨gb, j * 4 + 2 + 1, none⟩ = false := fz3
    clear hyu hmm hv'
    go_region_law (first | (go_simp; go_at_call 35; (with_reducible refine (ST.out _).mono ?_); rintro _ w4 ⟨rfl, hw4⟩; have hx : Grw w3 w4 := Grw.trans (by repeat (first | with_reducible exact Grw.rfl' _ | with_reducible refine Grw.drew ?_)) hw4; obtain ⟨k7, k6, k2, k3, k8, k9, k10, k11⟩ := SS.out _ hx; clear hw4))
    all_goals
      have UU := UB.out _ hx
      go_wp2_with fail
      go_meet
      case rel => exact ⟨by have e := HY.out.1; simp only [e]; exact UU.1, (hx.frm _).trans UU.2 (fun _ e => Or.inl e)⟩
  case rest =>
    obtain ⟨hz, hfr⟩ := hcut
    have R4 := Lib.hid hz
    have Z4 := Lib.hid (Z3.out.trans (Zs.ofJ (V := ⟨vq', V.t, V.j⟩) HH.out.2.2.1 hfr))
    have NG : Hid (¬ w1.heap.size = gb) := (fun e => N2.out (Or.inr (Or.inr (Or.inr (by simp only [HH.out.2.2.1]; rw [← e]; rfl)))) : ¬ w1.heap.size = gb)
    have x0 := hfr.cell X3.out NG.out
    have NR : Hid (¬ w1.heap.size = r) := (fun e => N2.out (Or.inl e) : ¬ w1.heap.size = r)
    have GR := Lib.hid (LE.rgrant_yes (RB.toT (hz.later ((Grw.rfl' _).drew))) gi t m HM.out.1 (by rw [← HH.out.2.1]; exact HM.out.2.2.2.1) HM.out.2.1 HM.out.2.2.1)
    clear hz hfr
    go_wp2_with fail
    go_region_held3 (fun u => u.cell? ⟨w1.heap.size, 0, none⟩ = some (.int .i64 gi)) (first | exact x0 | exact x0') (first | (go_at_call 36; refine GR.out.mono ?_; rintro _ w5 ⟨rfl, vt', q5, f5, n5⟩; have x0' := f5.cell (v := .int .i64 gi) x0 NR.out; have R5 := Lib.hid ((R4.out.later ((Grw.rfl' _).drew)).stepT q5 f5 n5); clear q5 f5 n5))
    obtain ⟨hj', hz'⟩ := upd_at (z := ⟨J[j].id, J[j].cl, 2, J[j].u + 1⟩) hj rfl
    have LS := Lib.hid (zlease_is R5.out.1 (HH.out.1.upd _) (g := ⟨(m : Nat), gi, t⟩) (by have := HM.out.2.2.2.2; rw [HH.out.2.1] at this; exact this) hj' (by rw [hz']; exact HH.out.2.1))
    rw [hz'] at LS
    simp only at LS
    have Z5 := Lib.hid ((Z4.out.trans (Zs.of r _ ((Grw.rfl' _).drew))).trans R5.out.2)
    clear x0 x0' hj' hz'
    go_wp2_with fail
    refine LS.out.mono ?_
    rintro _ w6 ⟨rfl, g6⟩
    have R6 := Lib.hid (And.intro (R5.out.1.later g6) (((Zs.of r V GA.out).trans Z5.out).trans (Zs.of r _ g6)))
    have s' := (S.out.frm Z5.out.f NB.out).later g6 (by have h1 := Z5.out.f.size; rw [size_new] at h1; omega)
    obtain ⟨z0, z1, z2, z3, z4, z5, k0, k1, k2, k3, k4, k5⟩ := s'
    have NV : Hid (¬ zb r ⟨vq', vt', V.j⟩ w.heap.size) := (fun e => (Z5.out.n _ e).elim NB.out (fun c => by rw [size_new] at c; omega) : ¬ zb r ⟨vq', vt', V.j⟩ w.heap.size)
    unfold lv
    clear g6
    go_wp2_with fail
    exact bodyPost_ret (v := .tuple #[lv (m : Nat) J[j].id (J[j].u + 1) t, .int .i64 0]) (by rw [HH.out.2.1]; simp [results, Tryz.results12, go_sem, lv, z0, z1, z2, z3, z4, z5]) rfl ⟨rfl, _, by have e := R6.out.1; rw [HH.out.2.1] at e ⊢; repeat (first | with_reducible exact e | with_reducible refine ZB.off ?_ NV.out _ _), by repeat (first | with_reducible exact R6.out.2 | with_reducible refine Zs.set ?_ (Nat.le_refl _) _ _)⟩
end Go.Proofs.YtlopijcpnfkcgaaGreat
