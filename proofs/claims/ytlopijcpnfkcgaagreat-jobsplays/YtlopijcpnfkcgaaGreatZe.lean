/- The document's book: Answer and Fail. -/
import Derived.Test.YtlopijcpnfkcgaaGreatZd
namespace Go.Proofs.YtlopijcpnfkcgaaGreat
open Go.RowKit
set_option linter.unusedSimpArgs false
variable {w x : World} {r : Nat} {a room n count : Int} {V V' : ZV} {last : Nat} {L : List QQ.Wt} {G : List LE.Gr} {J : List Jb}
theorem dr_no {G : List LE.Gr} {i : Int} (h : LE.byN G i = none) : LE.dr i G = G := by
  unfold LE.dr
  rw [List.filter_eq_self]
  intro g hg
  simpa using LE.byN_none h g hg
theorem ZB.gone (h : ZB w r a room n count V last L G J) (i : Int) : Calls Tryz.prog 40 #[.pointer (some ⟨r, 0, none⟩), .int .i64 i] w fun e w' => e = .returned (.tuple #[]) ∧ ∃ V', ZB w' r a room n count V' last L G (gon J i) ∧ Zs r V V' w w' :=
  (zgone_is h i).mono fun _ w' ⟨he, vj', b, f, nn⟩ => ⟨he, ⟨V.q, V.t, vj'⟩, b, ⟨f.mono (fun k e => Or.inl e), fun k hk => by
    rcases hk with e | e | e | e
    · exact Or.inl (Or.inl e)
    · exact Or.inl (Or.inr (Or.inl e))
    · exact Or.inl (Or.inr (Or.inr (Or.inl e)))
    · exact Or.inr (nn k e)⟩⟩
set_option maxHeartbeats 1000000 in
set_option maxRecDepth 100000 in
theorem zanswer_no (h : ZB w r a room n count V last L G J) {i : Int} (hb : LE.byN G i = none) :
    Calls Tryz.prog 14 #[.pointer (some ⟨r, 0, none⟩), .int .i64 i] w fun e w' => e = .returned (.tuple #[.int .i64 0, .int .i64 13]) ∧ ∃ V', ZB w' r a room n count V' last L G J ∧ Zs r V V' w w' := by
  have C := Lib.hid (LE.rdrop_is (RB.toT h) i)
  rw [hb, dr_no hb] at C
  unfold LE.fv LE.g0 at C
  simp only [Option.getD_none, Option.isSome_none] at C
  have H := Lib.hid h
  clear h hb
  go_enter Tryz.func14, Tryz.ntmps14
  go_wp2_with fail
  refine C.out.mono ?_
  rintro _ w1 ⟨rfl, vt', q, f, nn⟩
  have R1 := Lib.hid (H.out.stepT q f nn)
  clear q f nn
  go_wp2_with fail
  go_ret2
  exact ⟨rfl, _, R1.out.1.later ((Grw.rfl' w1).alloc _), R1.out.2.trans (Zs.of r _ ((Grw.rfl' w1).alloc _))⟩
set_option maxHeartbeats 1000000 in
set_option maxRecDepth 100000 in
theorem zanswer_yes (h : ZB w r a room n count V last L G J) {i : Int} {g : LE.Gr} (hb : LE.byN G i = some g) :
    Calls Tryz.prog 14 #[.pointer (some ⟨r, 0, none⟩), .int .i64 i] w fun e w' => e = .returned (.tuple #[.int .i64 g.j, .int .i64 0]) ∧ ∃ V', ZB w' r a room n count V' last L (LE.dr i G) (gon J g.j) ∧ Zs r V V' w w' := by
  have C := Lib.hid (LE.rdrop_is (RB.toT h) i)
  rw [hb] at C
  unfold LE.fv at C
  simp only [Option.getD_some, Option.isSome_some] at C
  have H := Lib.hid h
  clear h hb
  obtain ⟨gn, gj, gu⟩ := g
  simp only at C ⊢
  go_enter Tryz.func14, Tryz.ntmps14
  go_wp2_with fail
  refine C.out.mono ?_
  rintro _ w1 ⟨rfl, vt', q, f, nn⟩
  have R1 := Lib.hid (H.out.stepT q f nn)
  obtain ⟨w2, hw2⟩ : ∃ w2, w1.alloc (.cells #[.int .i64 gn, .int .i64 gj, .int .u64 (gu : Nat), .bool true] 93) = w2 := ⟨_, rfl⟩
  have g2 : Grw w1 w2 := by rw [← hw2]; exact (Grw.rfl' w1).alloc _
  have x1 : w2.cell? ⟨w1.heap.size, 1, none⟩ = some (.int .i64 gj) := by rw [← hw2]; simp [go_sem]
  have x3 : w2.cell? ⟨w1.heap.size, 3, none⟩ = some (.bool true) := by rw [← hw2]; simp [go_sem]
  have GN := Lib.hid ((R1.out.1.later g2).gone gj)
  have NB := Lib.hid R1.out.1.nzb
  have X1 := Lib.hid x1
  have G2 := Lib.hid g2
  clear q f nn g2
  go_wp2_with fail
  refine GN.out.mono ?_
  rintro _ w3 ⟨rfl, V', z3, s3⟩
  have y1 := s3.f.cell X1.out NB.out
  have R3 := Lib.hid (And.intro z3 ((R1.out.2.trans (Zs.of r _ G2.out)).trans s3))
  clear z3 s3 x1 x3 hw2
  go_wp2_with fail
  go_ret2
  exact ⟨rfl, _, R3.out.1, R3.out.2⟩
set_option maxHeartbeats 1000000 in
set_option maxRecDepth 100000 in
theorem zfail_no (h : ZB w r a room n count V last L G J) {i : Int} (hb : LE.byN G i = none) :
    Calls Tryz.prog 16 #[.pointer (some ⟨r, 0, none⟩), .int .i64 i] w fun e w' => e = .returned (.tuple #[.int .i64 0, .bool false, .int .i64 13]) ∧ ∃ V', ZB w' r a room n count V' last L G J ∧ Zs r V V' w w' := by
  have C := Lib.hid (LE.rdrop_is (RB.toT h) i)
  rw [hb, dr_no hb] at C
  unfold LE.fv LE.g0 at C
  simp only [Option.getD_none, Option.isSome_none] at C
  have H := Lib.hid h
  clear h hb
  go_enter Tryz.func16, Tryz.ntmps16
  go_wp2_with fail
  refine C.out.mono ?_
  rintro _ w1 ⟨rfl, vt', q, f, nn⟩
  have R1 := Lib.hid (H.out.stepT q f nn)
  clear q f nn
  go_wp2_with fail
  exact bodyPost_ret (v := .tuple #[.int .i64 0, .bool false, .int .i64 13]) (by simp [results, Tryz.results16, go_sem]) rfl ⟨rfl, _, R1.out.1.later ((Grw.rfl' w1).alloc _), R1.out.2.trans (Zs.of r _ ((Grw.rfl' w1).alloc _))⟩
theorem gon_upd (J : List Jb) (z : Jb) : gon (upd J z) z.id = gon J z.id := by
  unfold gon upd
  induction J with
  | nil => rfl
  | cons y J ih =>
    simp only [List.map_cons]
    by_cases c : y.id = z.id
    · rw [if_pos c, List.filter_cons_of_neg (by simp), List.filter_cons_of_neg (by simpa using c)]
      exact ih
    · rw [if_neg c, List.filter_cons_of_pos (by simpa using c), List.filter_cons_of_pos (by simpa using c), ih]
set_option maxHeartbeats 8000000 in
set_option maxRecDepth 100000 in
theorem zfail_is (h : ZB w r a room n count V last L G J) (hI : Ids J) {i : Int} {g : LE.Gr} (hb : LE.byN G i = some g) {j : Nat} (hj : j < J.length) (hid : J[j].id = g.j) (hs : J[j].s = 2) {s' : Int} {d : Bool} (hst : RE.st n 2 J[j].u 3 = (s', J[j].u, true)) (hd : (s' == 5) = d) :
    Calls Tryz.prog 16 #[.pointer (some ⟨r, 0, none⟩), .int .i64 i] w fun e w' => e = .returned (.tuple #[.int .i64 g.j, .bool d, .int .i64 0]) ∧
      ∃ V', ZB w' r a room n count V' last L (LE.dr i G) (if d = true then gon J g.j else upd J ⟨J[j].id, J[j].cl, s', J[j].u⟩) ∧ Zs r V V' w w' := by
  have C := Lib.hid (LE.rdrop_is (RB.toT h) i)
  rw [hb] at C
  unfold LE.fv at C
  simp only [Option.getD_some, Option.isSome_some] at C
  have H := Lib.hid h
  obtain ⟨gn, gj, gu⟩ := g
  simp only at C hid ⊢
  have ST := Lib.hid (fun y => RE.rstep_is n 2 J[j].u 3 s' J[j].u true y hst)
  obtain ⟨gb, cap, hv, hgb, -, -, -, -, -, -⟩ := own_at (RB.rj h) hj
  have HH := Lib.hid (And.intro hI (And.intro hid (And.intro hv (And.intro hs (And.intro hgb hst)))))
  clear h hb hgb hst
  go_enter Tryz.func16, Tryz.ntmps16
  go_wp2_with fail
  refine C.out.mono ?_
  rintro _ w1 ⟨rfl, vt', q, f, nn⟩
  have R1 := Lib.hid (H.out.stepT q f nn)
  obtain ⟨w2, hw2⟩ : ∃ w2, w1.alloc (.cells #[.int .i64 gn, .int .i64 gj, .int .u64 (gu : Nat), .bool true] 93) = w2 := ⟨_, rfl⟩
  have g2 : Grw w1 w2 := by rw [← hw2]; exact (Grw.rfl' w1).alloc _
  have x1 : w2.cell? ⟨w1.heap.size, 1, none⟩ = some (.int .i64 gj) := by rw [← hw2]; simp [go_sem]
  have x3 : w2.cell? ⟨w1.heap.size, 3, none⟩ = some (.bool true) := by rw [← hw2]; simp [go_sem]
  have R2 := Lib.hid (R1.out.1.later g2)
  have FN := Lib.hid (zfind_at R2.out HH.out.1 hj HH.out.2.1)
  have Z2 := Lib.hid (R1.out.2.trans (Zs.of r _ g2))
  have N2 := Lib.hid R1.out.1.nzb
  have X1 := Lib.hid x1
  clear q f nn g2 hid hv hs
  go_wp2_with fail
  refine FN.out.mono ?_
  rintro _ w3 ⟨rfl, g3⟩
  have R3 := Lib.hid (R2.out.later g3)
  have X3 := Lib.hid (g3.cell X1.out)
  have Z3 := Lib.hid (Z2.out.trans (Zs.of r _ g3))
  clear x1 x3 g3 hw2
  go_upto_region 5 with fail
  go_cut [] from 23 to 44 (fun wx => ZB wx r a room n count ⟨V.q, vt', V.j⟩ last L (LE.dr i G) (upd J ⟨J[j].id, J[j].cl, s', J[j].u⟩) ∧ Frm (fun q => q = gb) w3 wx)
  case first =>
    obtain ⟨gb', cap', hv', -, -, -, b2, b3, fz2, fz3⟩ := own_at (RB.rj R3.out) hj
    have e1 := HH.out.2.2.1.symm.trans hv'
    injection e1 with e1 e2 e3
    injection e1 with e1
    injection e1 with e1
    subst e1 e3
    obtain ⟨yu, hyu⟩ : ∃ yu, J[j].u = yu := ⟨_, rfl⟩
    obtain ⟨mm, hmm⟩ : ∃ mm, J.length = mm := ⟨_, rfl⟩
    have c7 := RB.c7 R3.out
    have c6 := RB.c6 R3.out
    rw [HH.out.2.2.2.1] at b2
    rw [hyu] at b3 ST
    simp only at hv' c7
    rw [hv', hmm] at c7
    have LT3 := Lib.hid (RB.lt8 R3.out)
    have d1 : (j : Int) < (mm : Int) := by omega
    have hjm : j < mm := by omega
    have fd := fld85
    have SS : Hid (∀ u, Grw w3 u → (u.cell? ⟨r, 7, none⟩ = some (.slice (some ⟨gb, 0, none⟩) mm cap) ∧ u.cell? ⟨r, 6, none⟩ = some (.int .i64 n) ∧ u.cell? ⟨gb, j * 4 + 2, none⟩ = some (.int .i64 2) ∧ u.cell? ⟨gb, j * 4 + 3, none⟩ = some (.int .i64 yu) ∧ u.frozen? ⟨gb, j * 4 + 2, none⟩ = false ∧ u.frozen? ⟨gb, j * 4 + 3, none⟩ = false ∧ u.cell? ⟨gb, j * 4 + 2 + 1, none⟩ = some (.int .i64 yu) ∧ u.frozen? ⟨gb, j * 4 + 2 + 1, none⟩ = false)) :=
      (fun u g => ⟨g.cell c7, g.cell c6, g.cell b2, g.cell b3, LE.frz_frm (g.frm (fun _ => False)) b2 (fun e => e) fz2, LE.frz_frm (g.frm (fun _ => False)) b3 (fun e => e) fz3, g.cell b3, LE.frz_frm (g.frm (fun _ => False)) b3 (fun e => e) fz3⟩ : ∀ u, Grw w3 u → (u.cell? ⟨r, 7, none⟩ = some (.slice (some ⟨gb, 0, none⟩) mm cap) ∧ u.cell? ⟨r, 6, none⟩ = some (.int .i64 n) ∧ u.cell? ⟨gb, j * 4 + 2, none⟩ = some (.int .i64 2) ∧ u.cell? ⟨gb, j * 4 + 3, none⟩ = some (.int .i64 yu) ∧ u.frozen? ⟨gb, j * 4 + 2, none⟩ = false ∧ u.frozen? ⟨gb, j * 4 + 3, none⟩ = false ∧ u.cell? ⟨gb, j * 4 + 2 + 1, none⟩ = some (.int .i64 yu) ∧ u.frozen? ⟨gb, j * 4 + 2 + 1, none⟩ = false))
    have HY := Lib.hid (And.intro hyu (And.intro hv' hj))
    have UB := Lib.hid (fun y (gy : Grw w3 y) => (R3.out.later gy).turn HH.out.1 hj hv' s' J[j].u)
    rw [hyu] at UB
    unfold RE.rv at ST
    have b3' : w3.cell? ⟨gb, j * 4 + 2 + 1, none⟩ = some (.int .i64 yu) := b3
    have fz3' : w3.frozen? ⟨gb, j * 4 + 2 + 1, none⟩ = false := fz3
    clear hyu hmm hv'
    go_region_law (first | (go_simp; go_at_call 35; (with_reducible refine (ST.out _).mono ?_); rintro _ w4 ⟨rfl, hw4⟩; have hx : Grw w3 w4 := Grw.trans (by repeat (first | with_reducible exact Grw.rfl' _ | with_reducible refine Grw.drew ?_)) hw4; obtain ⟨k7, k6, k2, k3, k8, k9, k10, k11⟩ := SS.out _ hx; clear hw4))
    all_goals
      have UU := UB.out _ hx
      go_wp2_with fail
      go_meet
      case rel => exact ⟨by have e := HY.out.1; simp only [e]; exact UU.1, (hx.frm _).trans UU.2 (fun _ e => Or.inl e)⟩
  case rest =>
    obtain ⟨hz, hfr⟩ := hcut
    have R4 := Lib.hid hz
    have Z4 := Lib.hid (Z3.out.trans (Zs.ofJ (V := ⟨V.q, vt', V.j⟩) HH.out.2.2.1 hfr))
    have NG : Hid (¬ w1.heap.size = gb) := (fun e => N2.out (Or.inr (Or.inr (Or.inr (by simp only [HH.out.2.2.1]; rw [← e]; rfl)))) : ¬ w1.heap.size = gb)
    have x1 := hfr.cell X3.out NG.out
    obtain ⟨hj', hz'⟩ := upd_at (z := ⟨J[j].id, J[j].cl, s', J[j].u⟩) hj rfl
    obtain ⟨gb', cap', hv', -, -, -, b2, -, -, -⟩ := own_at (RB.rj R4.out) hj'
    rw [hz'] at b2
    have c7 := RB.c7 R4.out
    obtain ⟨mm, hmm⟩ : ∃ mm, (upd J ⟨J[j].id, J[j].cl, s', J[j].u⟩).length = mm := ⟨_, rfl⟩
    simp only at hv' c7 b2
    rw [hv', hmm] at c7
    have d1 : (j : Int) < (mm : Int) := by omega
    have hjm : j < mm := by omega
    have XX := Lib.hid x1
    clear hz hfr hv' hz' hj' hmm
    cases d with
    | false =>
      go_wp2_with fail
      exact bodyPost_ret (v := .tuple #[.int .i64 gj, .bool false, .int .i64 0]) (by simp [results, Tryz.results16, go_sem]) rfl ⟨rfl, _, R4.out, Z4.out⟩
    | true =>
      have GN := Lib.hid (R4.out.gone gj)
      have NN : Hid (¬ zb r ⟨V.q, vt', V.j⟩ w1.heap.size) := N2
      go_wp2_with fail
      refine GN.out.mono ?_
      rintro _ w5 ⟨rfl, V', z5, s5⟩
      have y1 := s5.f.cell XX.out NN.out
      have R5 := Lib.hid (And.intro z5 (Z4.out.trans s5))
      clear z5 s5 x1 b2 c7
      go_wp2_with fail
      exact bodyPost_ret (v := .tuple #[.int .i64 gj, .bool true, .int .i64 0]) (by simp [results, Tryz.results16, go_sem]) rfl ⟨rfl, _, by have e := R5.out.1; rw [← HH.out.2.1, gon_upd J ⟨J[j].id, J[j].cl, s', J[j].u⟩] at e; rw [← HH.out.2.1]; exact e, R5.out.2⟩
end Go.Proofs.YtlopijcpnfkcgaaGreat
