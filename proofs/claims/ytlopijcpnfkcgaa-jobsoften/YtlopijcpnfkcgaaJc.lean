/- The contract of jobs.step where it steps. -/
import Derived.Test.YtlopijcpnfkcgaaJb
namespace Go.Proofs.Ytlopijcpnfkcgaa
open Go.RowKit
open Go.Maps (Keyed IsMap Tidy)
set_option linter.unusedSimpArgs false
variable {w x : World} {B : BB} {a room n count : Int} {v : Value} {last sz : Nat} {L : List QQ.Wt} {G : List LE.Gr} {J : List Jb}
theorem BK.off (h : BK w B a room n count v last sz L G J) {b : Nat} (hb : ¬ bf B v b) (o : Nat) (u : Value) : BK (w.setCell ⟨b, o, none⟩ u) B a room n count v last sz L G J :=
  h.keep (frm_set (F := fun k => k = b) w ⟨b, o, none⟩ u rfl) (fun _ hk e => hb (e ▸ hk))
theorem Stp.set (h : Stp B v v w x) {b : Nat} (hb : w.heap.size ≤ b) (o : Nat) (u : Value) : Stp B v v w (x.setCell ⟨b, o, none⟩ u) := ⟨h.f.set _ _ (Or.inr hb), h.n⟩
theorem Two.frm {w x : World} {b : Nat} {c0 c1 : Value} (t : Two w b c0 c1) {F : Nat → Prop} (f : Frm F w x) (hn : ¬ F b) : Two x b c0 c1 :=
  ⟨f.cell t.c0 hn, f.cell t.c1 hn, LE.frz_frm f t.c0 hn t.f0, LE.frz_frm f t.c1 hn t.f1⟩
set_option maxHeartbeats 2000000 in
set_option maxRecDepth 100000 in
theorem step_close (h : BK w B a room n count v last sz L G J) (hJ : Ids J) {i k : Int} (hi : LE.Wi i) {y : Jb} (hf : fnd J i = some y) {s' u' : Int} (hs : RE.st n y.s y.u k = (s', u', true)) (h45 : (s' == 4) = true ∨ ((s' == 4) = false ∧ (s' == 5) = true)) :
    Calls Try.prog 26 #[.pointer (some ⟨B.p, 0, none⟩), .int .i64 i, .int .i64 k] w fun e w' => e = .returned (RE.tv s' u' true) ∧ BK w' B a room n count v last sz L G (gon J i) ∧ Stp B v v w w' := by
  have C := Lib.hid (fun w => RE.step_is n y.s y.u k s' u' true w hs)
  obtain ⟨hy, hid⟩ := fnd_some hf
  have hgt : (fnd J i).getD j0 = y := by rw [hf]; rfl
  obtain ⟨x1, hx1⟩ : ∃ x1, (w.alloc (.cells #[.int .i64 0, .int .i64 0] 48)).alloc (.cells #[.int .i64 y.cl, .int .i64 y.s, .int .i64 y.u] 66) = x1 := ⟨_, rfl⟩
  have g1 : Grw w x1 := by rw [← hx1]; exact ((Grw.rfl' w).alloc _).alloc _
  have c2 : ∀ o, (w.alloc o).cell? ⟨B.p, 2, none⟩ = some (.map (some B.ob)) := fun o => ((Grw.rfl' w).alloc o).cell h.c2
  have lk := fun o => (h.later ((Grw.rfl' w).alloc o)).op.get hi hgt
  have c4 := g1.cell h.c4
  have H := Lib.hid h
  have HY := Lib.hid (And.intro hJ (And.intro hy hid))
  have K := Lib.hid (Maps.keyOf_int_mk Try.underlying3 (LE.wi_wf hi))
  have LT := Lib.hid h.lt
  obtain ⟨yi, yc, ys, yu⟩ := y
  simp only at C hx1 lk
  have e0 : x1.cell? ⟨w.heap.size + 1, 0, none⟩ = some (.int .i64 yc) := by rw [← hx1]; simp [go_sem]
  have e1 : x1.cell? ⟨w.heap.size + 1, 1, none⟩ = some (.int .i64 ys) := by rw [← hx1]; simp [go_sem]
  have e2 : x1.cell? ⟨w.heap.size + 1, 2, none⟩ = some (.int .i64 yu) := by rw [← hx1]; simp [go_sem]
  have T0 : Hid (Two x1 w.heap.size (.int .i64 0) (.int .i64 0) ∧ w.heap.size + 1 < x1.heap.size) := (by rw [← hx1]; exact ⟨(Two.new w _ _ 48).later ((Grw.rfl' _).alloc _) (by rw [size_new]; omega), by simp [go_sem]⟩ : Two x1 w.heap.size (.int .i64 0) (.int .i64 0) ∧ w.heap.size + 1 < x1.heap.size)
  have G1 := Lib.hid g1
  have H45 := Lib.hid h45
  clear h hi hf hy hid hgt hs g1 hJ h45
  go_enter Try.func26, Try.ntmps26
  go_wp2_with fail
  have SS : Hid (∀ u, Grw x1 u → (u.cell? ⟨B.p, 4, none⟩ = some (.int .i64 n) ∧ u.cell? ⟨w.heap.size + 1, 1, none⟩ = some (.int .i64 ys) ∧ u.cell? ⟨w.heap.size + 1, 2, none⟩ = some (.int .i64 yu))) :=
    (fun u g => ⟨g.cell c4, g.cell e1, g.cell e2⟩ : ∀ u, Grw x1 u → (u.cell? ⟨B.p, 4, none⟩ = some (.int .i64 n) ∧ u.cell? ⟨w.heap.size + 1, 1, none⟩ = some (.int .i64 ys) ∧ u.cell? ⟨w.heap.size + 1, 2, none⟩ = some (.int .i64 yu)))
  go_cut [9, 10] from 17 to 28 (fun s9 s10 wx => ∃ xb, s9 = .pointer (some ⟨xb, 0, none⟩) ∧ s10 = .bool true ∧ x1.heap.size ≤ xb ∧ Two wx xb (.int .i64 s') (.int .i64 u') ∧ Grw x1 wx)
  case first =>
    go_region_held3 (fun u => u.cell? ⟨B.p, 4, none⟩ = some (.int .i64 n) ∧ u.cell? ⟨w.heap.size + 1, 1, none⟩ = some (.int .i64 ys) ∧ u.cell? ⟨w.heap.size + 1, 2, none⟩ = some (.int .i64 yu))
      ((refine SS.out _ ?_; repeat (first | with_reducible exact hx | with_reducible exact Grw.rfl' _ | with_reducible refine Grw.drew ?_ | with_reducible refine Grw.alloc ?_ _ | with_reducible refine Grw.set ?_ (Nat.le_refl _) _)))
      (first | (go_at_call 40; (with_reducible refine (C.out _).mono ?_); rintro _ w2 ⟨rfl, hw⟩; have hx : Grw x1 w2 := Grw.trans (by repeat (first | with_reducible exact Grw.rfl' _ | with_reducible refine Grw.drew ?_ | with_reducible refine Grw.alloc ?_ _)) hw; (first | (have tt := (Two.new x1 (.int .i64 0) (.int .i64 0) 48).later (Grw.of_drew hw) (by simp [go_sem]); have g0 := tt.c0; have g1 := tt.c1; have g2 := tt.f0; have g3 := tt.f1) | skip); unfold RE.tv))
    all_goals
      go_wp2_with fail
      go_meet
      case rel => first | exact ⟨_, rfl, rfl, Below.size hx, Two.new _ _ _ _, hx.alloc _⟩ | exact ⟨_, rfl, rfl, Nat.le_refl _, tt.set2 _ _, (hx.set (Nat.le_refl _) _).set (Nat.le_refl _) _⟩
  case rest =>
    obtain ⟨xb, rfl, rfl, hxb, ht, hg⟩ := hcut
    have hob : B.ob < w.heap.size := LT.out _ (Or.inr (Or.inr (Or.inr rfl)))
    have G2 := Lib.hid (G1.out.trans hg)
    have B2 := Lib.hid (H.out.later G2.out)
    have d2 := B2.out.c2
    obtain ⟨D, kk, hk, o, mj⟩ := B2.out.op
    have OW := Lib.hid o
    have MJ := Lib.hid (And.intro hk mj)
    have T2 := Lib.hid (T0.out.1.later hg (by have := T0.out.2; omega))
    have X2 := Lib.hid ht
    have XB := Lib.hid (show B.ob < xb ∧ B.ob < w.heap.size from ⟨by have := T0.out.2; omega, hob⟩)
    have z0 := ht.c0
    have z1 := ht.c1
    clear c2 lk c4 e0 e1 e2 SS hxb ht hg hx1 hob hk mj o
    rcases H45.out with q4 | ⟨q4, q5⟩
    all_goals
      go_wp2_with (at_delete; refine wpList_delete_own _ rfl _ _ 62 3 rfl 66 LE.law3 Try.underlying62 jbE B.ob kk D rfl OW.out _ _ rfl K.out ?_; intro w3 o3 t3; have F3 := Lib.hid (LE.turned_frm t3); have B3 := Lib.hid (B2.out.withO (J' := gon J i) ⟨_, kk, MJ.out.1, o3, by have := MJ.out.2.del HY.out.1 HY.out.2.1; rw [HY.out.2.2] at this; exact this⟩ F3.out); have T3 := Lib.hid (Two.frm T2.out F3.out (fun e => by have := XB.out; omega)); have X3 := Lib.hid (Two.frm X2.out F3.out (fun e => by have := XB.out; omega)); have y0 := X3.out.c0; have y1 := X3.out.c1; have y2 := T3.out.c0; have y3 := T3.out.c1; have y4 := T3.out.f0; have y5 := T3.out.f1; clear o3 t3 z0 z1 d2)
      exact bodyPost_ret (v := RE.tv s' u' true) (by simp [results, Try.results26, go_sem, y2, y3, RE.tv]) rfl ⟨rfl, (B3.out.1.off (fun e => Nat.lt_irrefl _ (LT.out _ e)) 0 _).off (fun e => Nat.lt_irrefl _ (LT.out _ e)) 1 _, (((Stp.of B v G2.out).trans B3.out.2).set (Nat.le_refl _) 0 _).set (Nat.le_refl _) 1 _⟩
set_option maxHeartbeats 2000000 in
set_option maxRecDepth 100000 in
theorem step_stay (h : BK w B a room n count v last sz L G J) {i k : Int} (hi : LE.Wi i) {y : Jb} (hf : fnd J i = some y) {s' u' : Int} (hs : RE.st n y.s y.u k = (s', u', true)) (h4 : (s' == 4) = false) (h5 : (s' == 5) = false) (hz : sz < 1000000000) :
    Calls Try.prog 26 #[.pointer (some ⟨B.p, 0, none⟩), .int .i64 i, .int .i64 k] w fun e w' => e = .returned (RE.tv s' u' true) ∧ BK w' B a room n count v last (sz + 1) L G (upd J ⟨i, y.cl, s', u'⟩) ∧ Stp B v v w w' := by
  have C := Lib.hid (fun w => RE.step_is n y.s y.u k s' u' true w hs)
  obtain ⟨hy, hid⟩ := fnd_some hf
  have hgt : (fnd J i).getD j0 = y := by rw [hf]; rfl
  obtain ⟨x1, hx1⟩ : ∃ x1, (w.alloc (.cells #[.int .i64 0, .int .i64 0] 48)).alloc (.cells #[.int .i64 y.cl, .int .i64 y.s, .int .i64 y.u] 66) = x1 := ⟨_, rfl⟩
  have g1 : Grw w x1 := by rw [← hx1]; exact ((Grw.rfl' w).alloc _).alloc _
  have c2 : ∀ o, (w.alloc o).cell? ⟨B.p, 2, none⟩ = some (.map (some B.ob)) := fun o => ((Grw.rfl' w).alloc o).cell h.c2
  have lk := fun o => (h.later ((Grw.rfl' w).alloc o)).op.get hi hgt
  have c4 := g1.cell h.c4
  have H := Lib.hid h
  have HY := Lib.hid (show ∃ z ∈ J, z.id = i from ⟨y, hy, hid⟩)
  have K := Lib.hid (Maps.keyOf_int_mk Try.underlying3 (LE.wi_wf hi))
  have LT := Lib.hid h.lt
  have HZ := Lib.hid hz
  obtain ⟨yi, yc, ys, yu⟩ := y
  simp only at C hx1 lk
  have e0 : x1.cell? ⟨w.heap.size + 1, 0, none⟩ = some (.int .i64 yc) := by rw [← hx1]; simp [go_sem]
  have e1 : x1.cell? ⟨w.heap.size + 1, 1, none⟩ = some (.int .i64 ys) := by rw [← hx1]; simp [go_sem]
  have e2 : x1.cell? ⟨w.heap.size + 1, 2, none⟩ = some (.int .i64 yu) := by rw [← hx1]; simp [go_sem]
  have T0 : Hid (Two x1 w.heap.size (.int .i64 0) (.int .i64 0) ∧ w.heap.size + 1 < x1.heap.size) := (by rw [← hx1]; exact ⟨(Two.new w _ _ 48).later ((Grw.rfl' _).alloc _) (by rw [size_new]; omega), by simp [go_sem]⟩ : Two x1 w.heap.size (.int .i64 0) (.int .i64 0) ∧ w.heap.size + 1 < x1.heap.size)
  have G1 := Lib.hid g1
  clear h hi hf hy hid hgt hs g1 hz
  go_enter Try.func26, Try.ntmps26
  go_wp2_with fail
  have SS : Hid (∀ u, Grw x1 u → (u.cell? ⟨B.p, 4, none⟩ = some (.int .i64 n) ∧ u.cell? ⟨w.heap.size + 1, 1, none⟩ = some (.int .i64 ys) ∧ u.cell? ⟨w.heap.size + 1, 2, none⟩ = some (.int .i64 yu))) :=
    (fun u g => ⟨g.cell c4, g.cell e1, g.cell e2⟩ : ∀ u, Grw x1 u → (u.cell? ⟨B.p, 4, none⟩ = some (.int .i64 n) ∧ u.cell? ⟨w.heap.size + 1, 1, none⟩ = some (.int .i64 ys) ∧ u.cell? ⟨w.heap.size + 1, 2, none⟩ = some (.int .i64 yu)))
  go_cut [9, 10] from 17 to 28 (fun s9 s10 wx => ∃ xb, s9 = .pointer (some ⟨xb, 0, none⟩) ∧ s10 = .bool true ∧ x1.heap.size ≤ xb ∧ Two wx xb (.int .i64 s') (.int .i64 u') ∧ Grw x1 wx)
  case first =>
    go_region_held3 (fun u => u.cell? ⟨B.p, 4, none⟩ = some (.int .i64 n) ∧ u.cell? ⟨w.heap.size + 1, 1, none⟩ = some (.int .i64 ys) ∧ u.cell? ⟨w.heap.size + 1, 2, none⟩ = some (.int .i64 yu))
      ((refine SS.out _ ?_; repeat (first | with_reducible exact hx | with_reducible exact Grw.rfl' _ | with_reducible refine Grw.drew ?_ | with_reducible refine Grw.alloc ?_ _ | with_reducible refine Grw.set ?_ (Nat.le_refl _) _)))
      (first | (go_at_call 40; (with_reducible refine (C.out _).mono ?_); rintro _ w2 ⟨rfl, hw⟩; have hx : Grw x1 w2 := Grw.trans (by repeat (first | with_reducible exact Grw.rfl' _ | with_reducible refine Grw.drew ?_ | with_reducible refine Grw.alloc ?_ _)) hw; (first | (have tt := (Two.new x1 (.int .i64 0) (.int .i64 0) 48).later (Grw.of_drew hw) (by simp [go_sem]); have g0 := tt.c0; have g1 := tt.c1; have g2 := tt.f0; have g3 := tt.f1) | skip); unfold RE.tv))
    all_goals
      go_wp2_with fail
      go_meet
      case rel => first | exact ⟨_, rfl, rfl, Below.size hx, Two.new _ _ _ _, hx.alloc _⟩ | exact ⟨_, rfl, rfl, Nat.le_refl _, tt.set2 _ _, (hx.set (Nat.le_refl _) _).set (Nat.le_refl _) _⟩
  case rest =>
    obtain ⟨xb, rfl, rfl, hxb, ht, hg⟩ := hcut
    have hob : B.ob < w.heap.size := LT.out _ (Or.inr (Or.inr (Or.inr rfl)))
    have g2 := G1.out.trans hg
    have B2 := Lib.hid (H.out.later g2)
    have d2 := B2.out.c2
    obtain ⟨D, kk, hk, o, mj⟩ := B2.out.op
    obtain ⟨w3, hrun, o3, t3⟩ := o.drew.store LE.law3 Try.underlying62 (by have : maxLen = 9223372036854775807 := rfl; have := HZ.out; omega) K.out (jbE_mk ⟨i, yc, s', u'⟩)
    have f3 := LE.turned_frm t3
    have fd : Frm (fun k => k = B.ob) _ w3 := ((Frm.rfl' _ _).drew).trans f3 (fun _ e => Or.inl e)
    have B3 := Lib.hid (B2.out.withO (sz' := sz + 1) (J' := upd J ⟨i, yc, s', u'⟩) ⟨_, kk + 1, by omega, o3, MapJ.upd mj (g := ⟨i, yc, s', u'⟩) HY.out⟩ fd)
    have T3 := Lib.hid (Two.frm (T0.out.1.later hg (by have := T0.out.2; omega)) fd (fun e => by omega))
    have X3 := Lib.hid (Two.frm ht fd (fun e => by have := T0.out.2; omega))
    have z0 := ht.c0
    have z1 := ht.c1
    have y0 := X3.out.c0
    have y1 := X3.out.c1
    have y2 := T3.out.c0
    have y3 := T3.out.c1
    have y4 := T3.out.f0
    have y5 := T3.out.f1
    have x0 := hg.cell e0
    have G2 := Lib.hid g2
    unfold jv at hrun
    simp only at hrun
    clear c2 lk c4 e0 e1 e2 SS hxb ht hg hx1 hob hk mj o g2 o3 t3 f3 fd
    go_wp2_with fail
    go_region
    go_wp2_with fail
    exact bodyPost_ret (v := RE.tv s' u' true) (by simp [results, Try.results26, go_sem, y2, y3, RE.tv]) rfl ⟨rfl, (B3.out.1.off (fun e => Nat.lt_irrefl _ (LT.out _ e)) 0 _).off (fun e => Nat.lt_irrefl _ (LT.out _ e)) 1 _, (((Stp.of B v G2.out).trans B3.out.2).set (Nat.le_refl _) 0 _).set (Nat.le_refl _) 1 _⟩
end Go.Proofs.Ytlopijcpnfkcgaa
