/- The contracts of jobs.Lease and of jobs.step at this program. -/
import Derived.Test.YtlopijcpnfkcgaaJa
import Derived.Deep.CutRange
import Derived.Deep.DeepCutAuto
namespace Go.Proofs.Ytlopijcpnfkcgaa
open Go.RowKit
open Go.Maps (Keyed IsMap Tidy)
set_option linter.unusedSimpArgs false

theorem Grw.of_drew {w x : World} (h : Grw w.drew x) : Grw w x := ((Grw.rfl' w).drew).trans h
/-- six cells in block b, as they lie, and to be written. -/
structure Six (w : World) (b : Nat) (v0 v1 v2 v3 v4 v5 : Value) : Prop where
  c0 : w.cell? ⟨b, 0, none⟩ = some v0
  c1 : w.cell? ⟨b, 1, none⟩ = some v1
  c2 : w.cell? ⟨b, 2, none⟩ = some v2
  c3 : w.cell? ⟨b, 3, none⟩ = some v3
  c4 : w.cell? ⟨b, 4, none⟩ = some v4
  c5 : w.cell? ⟨b, 5, none⟩ = some v5
  f0 : w.frozen? ⟨b, 0, none⟩ = false
  f1 : w.frozen? ⟨b, 1, none⟩ = false
  f2 : w.frozen? ⟨b, 2, none⟩ = false
  f3 : w.frozen? ⟨b, 3, none⟩ = false
  f4 : w.frozen? ⟨b, 4, none⟩ = false
  f5 : w.frozen? ⟨b, 5, none⟩ = false
theorem Six.new (w : World) (v0 v1 v2 v3 v4 v5 : Value) (T : TypeId) : Six (w.alloc (.cells #[v0, v1, v2, v3, v4, v5] T)) w.heap.size v0 v1 v2 v3 v4 v5 :=
  ⟨by simp [go_sem], by simp [go_sem], by simp [go_sem], by simp [go_sem], by simp [go_sem], by simp [go_sem], by simp [go_sem], by simp [go_sem], by simp [go_sem], by simp [go_sem], by simp [go_sem], by simp [go_sem]⟩
theorem Six.later {w x : World} {b : Nat} {v0 v1 v2 v3 v4 v5 : Value} (t : Six w b v0 v1 v2 v3 v4 v5) (h : Grw w x) (hb : b < w.heap.size) : Six x b v0 v1 v2 v3 v4 v5 :=
  ⟨h.cell t.c0, h.cell t.c1, h.cell t.c2, h.cell t.c3, h.cell t.c4, h.cell t.c5, by rw [Below.frozen h hb]; exact t.f0, by rw [Below.frozen h hb]; exact t.f1, by rw [Below.frozen h hb]; exact t.f2, by rw [Below.frozen h hb]; exact t.f3, by rw [Below.frozen h hb]; exact t.f4, by rw [Below.frozen h hb]; exact t.f5⟩
theorem Two.set2 {w : World} {b : Nat} {c0 c1 : Value} (t : Two w b c0 c1) (u v : Value) : Two ((w.setCell ⟨b, 0, none⟩ u).setCell ⟨b, 1, none⟩ v) b u v :=
  ⟨by simp [go_sem, t.c0, t.c1], by simp [go_sem, t.c0, t.c1], by simp [go_sem, t.f0, t.f1], by simp [go_sem, t.f0, t.f1]⟩
variable {w x : World} {B : BB} {a room n count : Int} {v : Value} {last sz : Nat} {L : List QQ.Wt} {G : List LE.Gr} {J : List Jb}
theorem fld66_0 (w : World) (c s u : Int) : (Instr.field 66 (.agg #[.int .i64 c, .int .i64 s, .int .i64 u]) 0).run Try.prog w = .ok (.int .i64 c) w := by kernel_rfl
theorem fld66_1 (w : World) (c s u : Int) : (Instr.field 66 (.agg #[.int .i64 c, .int .i64 s, .int .i64 u]) 1).run Try.prog w = .ok (.agg #[.int .i64 s, .int .i64 u]) w := by kernel_rfl
theorem fld48_1 (w : World) (s u : Int) : (Instr.field 48 (.agg #[.int .i64 s, .int .i64 u]) 1).run Try.prog w = .ok (.int .i64 u) w := by kernel_rfl
/-- a lease as it is told. -/
def lv (m j u : Int) (t : Nat) : Value := .agg #[.int .i64 m, .int .i64 j, .int .i64 0, .int .i64 0, .int .i64 u, .int .u64 (t : Nat)]
set_option maxHeartbeats 1000000 in
set_option maxRecDepth 100000 in
theorem lease_nil (i : Int) (w : World) : Calls Try.prog 15 #[.pointer none, .int .i64 i] w fun e w' => e = .returned (.tuple #[lv 0 0 0 0, .bool false]) ∧ Grw w w' := by
  go_enter Try.func15, Try.ntmps15
  go_wp2_with fail
  exact bodyPost_ret (v := .tuple #[lv 0 0 0 0, .bool false]) (by simp [results, Try.results15, go_sem, lv]) rfl ⟨rfl, (Grw.rfl' w).alloc _⟩
set_option maxHeartbeats 1000000 in
set_option maxRecDepth 100000 in
theorem lease_no (h : BK w B a room n count v last sz L G J) {i : Int} (hi : LE.Wi i) (hb : LE.byN G i = none) :
    Calls Try.prog 15 #[.pointer (some ⟨B.p, 0, none⟩), .int .i64 i] w fun e w' => e = .returned (.tuple #[lv 0 0 0 0, .bool false]) ∧ Grw w w' := by
  have ga := (Grw.rfl' w).alloc (.cells #[.int .i64 0, .int .i64 0, .int .i64 0, .int .i64 0, .int .i64 0, .int .u64 0] 33)
  have GA := Lib.hid ga
  have c1 : ∀ o, (w.alloc o).cell? ⟨B.p, 1, none⟩ = some (.pointer (some ⟨B.t, 0, none⟩)) := fun o => ((Grw.rfl' w).alloc o).cell h.c1
  have C := Lib.hid (LE.look_is (h.tb.later ga) i hi)
  rw [hb] at C
  simp only [Option.getD_none, Option.isSome_none] at C
  unfold LE.gv LE.g0 at C
  have S := Lib.hid (Six.new w (.int .i64 0) (.int .i64 0) (.int .i64 0) (.int .i64 0) (.int .i64 0) (.int .u64 0) 33)
  clear h hi hb ga
  go_enter Try.func15, Try.ntmps15
  go_wp2_with fail
  refine C.out.mono ?_
  rintro _ w1 ⟨rfl, hw⟩
  have G1 := Lib.hid (GA.out.trans hw)
  have s := S.out.later hw (by rw [size_new]; omega)
  have s' := s.later ((Grw.rfl' w1).alloc (.cells #[.int .i64 0, .int .i64 0, .int .u64 0] 79)) (by have := Below.size hw; rw [size_new] at this; omega)
  obtain ⟨z0, z1, z2, z3, z4, z5, k0, k1, k2, k3, k4, k5⟩ := s'
  clear hw s c1
  go_wp2_with fail
  exact bodyPost_ret (v := .tuple #[lv 0 0 0 0, .bool false]) (by simp [results, Try.results15, go_sem, lv, z0, z1, z2, z3, z4, z5]) rfl ⟨rfl, by repeat (first | with_reducible exact G1.out | with_reducible refine Grw.alloc ?_ _ | with_reducible refine Grw.set ?_ (Nat.le_refl _) _)⟩
set_option maxHeartbeats 1000000 in
set_option maxRecDepth 100000 in
theorem lease_is (h : BK w B a room n count v last sz L G J) {i : Int} (hi : LE.Wi i) {g : LE.Gr} (hb : LE.byN G i = some g) {y : Jb} (hy : (fnd J g.j).getD j0 = y) :
    Calls Try.prog 15 #[.pointer (some ⟨B.p, 0, none⟩), .int .i64 i] w fun e w' => e = .returned (.tuple #[lv g.n g.j y.u g.u, .bool true]) ∧ Grw w w' := by
  have ga := (Grw.rfl' w).alloc (.cells #[.int .i64 0, .int .i64 0, .int .i64 0, .int .i64 0, .int .i64 0, .int .u64 0] 33)
  have GA := Lib.hid ga
  have c1 : ∀ o, (w.alloc o).cell? ⟨B.p, 1, none⟩ = some (.pointer (some ⟨B.t, 0, none⟩)) := fun o => ((Grw.rfl' w).alloc o).cell h.c1
  have C := Lib.hid (LE.look_is (h.tb.later ga) i hi)
  rw [hb] at C
  simp only [Option.getD_some, Option.isSome_some] at C
  have wj := (h.tb.ok.wf g (LE.byN_some hb).1).1
  have H := Lib.hid h
  obtain ⟨gn, gj, gu⟩ := g
  unfold LE.gv at C
  simp only at C hy wj
  have S := Lib.hid (Six.new w (.int .i64 0) (.int .i64 0) (.int .i64 0) (.int .i64 0) (.int .i64 0) (.int .u64 0) 33)
  have HY := Lib.hid (And.intro wj hy)
  obtain ⟨yi, yc, ys, yu⟩ := y
  clear h hi hb ga hy wj
  go_enter Try.func15, Try.ntmps15
  go_wp2_with fail
  refine C.out.mono ?_
  rintro _ w1 ⟨rfl, hw⟩
  have G1 := Lib.hid (GA.out.trans hw)
  have s := S.out.later hw (by rw [size_new]; omega)
  have hs : w.heap.size < w1.heap.size := by have := Below.size hw; rw [size_new] at this; omega
  have s' := s.later ((Grw.rfl' w1).alloc (.cells #[.int .i64 gn, .int .i64 gj, .int .u64 (gu : Nat)] 79)) hs
  obtain ⟨w2, hw2⟩ : ∃ w2, w1.alloc (.cells #[.int .i64 gn, .int .i64 gj, .int .u64 (gu : Nat)] 79) = w2 := ⟨_, rfl⟩
  have b0 : w2.cell? ⟨w1.heap.size, 0, none⟩ = some (.int .i64 gn) := by rw [← hw2]; simp [go_sem]
  have b1 : w2.cell? ⟨w1.heap.size, 1, none⟩ = some (.int .i64 gj) := by rw [← hw2]; simp [go_sem]
  have b2 : w2.cell? ⟨w1.heap.size, 2, none⟩ = some (.int .u64 (gu : Nat)) := by rw [← hw2]; simp [go_sem]
  have g2 : Grw w w2 := by rw [← hw2]; exact G1.out.alloc _
  have G2 := Lib.hid g2
  have c2 := g2.cell H.out.c2
  have lk : (Instr.lookup 62 (.map (some B.ob)) (.int .i64 gj) false).run Try.prog w2.drew = .ok (.agg #[.int .i64 yc, .int .i64 ys, .int .i64 yu]) w2.drew := (H.out.later g2.drew).op.get HY.out.1 HY.out.2
  rw [hw2] at s'
  obtain ⟨z0, z1, z2, z3, z4, z5, k0, k1, k2, k3, k4, k5⟩ := s'
  have fa := fld66_1
  have fb := fld48_1
  clear hw s c1 g2 hs
  go_wp2_with fail
  go_region
  go_wp2_with fail
  exact bodyPost_ret (v := .tuple #[lv gn gj yu gu, .bool true]) (by simp [results, Try.results15, go_sem, lv, z0, z1, z2, z3, z4, z5]) rfl ⟨rfl, by repeat (first | with_reducible exact G2.out | with_reducible refine Grw.drew ?_ | with_reducible refine Grw.alloc ?_ _ | with_reducible refine Grw.set ?_ (Nat.le_refl _) _)⟩
set_option maxHeartbeats 2000000 in
set_option maxRecDepth 100000 in
theorem step_no (h : BK w B a room n count v last sz L G J) {i k : Int} (hi : LE.Wi i) {y : Jb} (hy : (fnd J i).getD j0 = y) (hs : RE.st n y.s y.u k = (0, 0, false)) :
    Calls Try.prog 26 #[.pointer (some ⟨B.p, 0, none⟩), .int .i64 i, .int .i64 k] w fun e w' => e = .returned (RE.tv 0 0 false) ∧ Grw w w' := by
  have C := Lib.hid (fun w => RE.step_is n y.s y.u k 0 0 false w hs)
  obtain ⟨yi, yc, ys, yu⟩ := y
  simp only at C
  obtain ⟨x1, hx1⟩ : ∃ x1, (w.alloc (.cells #[.int .i64 0, .int .i64 0] 48)).alloc (.cells #[.int .i64 yc, .int .i64 ys, .int .i64 yu] 66) = x1 := ⟨_, rfl⟩
  have g1 : Grw w x1 := by rw [← hx1]; exact ((Grw.rfl' w).alloc _).alloc _
  have c2 : ∀ o, (w.alloc o).cell? ⟨B.p, 2, none⟩ = some (.map (some B.ob)) := fun o => ((Grw.rfl' w).alloc o).cell h.c2
  have lk := fun o => (h.later ((Grw.rfl' w).alloc o)).op.get hi hy
  have c4 := g1.cell h.c4
  have e0 : x1.cell? ⟨w.heap.size + 1, 0, none⟩ = some (.int .i64 yc) := by rw [← hx1]; simp [go_sem]
  have e1 : x1.cell? ⟨w.heap.size + 1, 1, none⟩ = some (.int .i64 ys) := by rw [← hx1]; simp [go_sem]
  have e2 : x1.cell? ⟨w.heap.size + 1, 2, none⟩ = some (.int .i64 yu) := by rw [← hx1]; simp [go_sem]
  have T0 : Hid (Two x1 w.heap.size (.int .i64 0) (.int .i64 0) ∧ w.heap.size + 1 < x1.heap.size) := (by rw [← hx1]; exact ⟨(Two.new w _ _ 48).later ((Grw.rfl' _).alloc _) (by rw [size_new]; omega), by simp [go_sem]⟩ : Two x1 w.heap.size (.int .i64 0) (.int .i64 0) ∧ w.heap.size + 1 < x1.heap.size)
  have G1 := Lib.hid g1
  simp only at lk
  clear h hi hy hs g1
  go_enter Try.func26, Try.ntmps26
  go_wp2_with fail
  have SS : Hid (∀ u, Grw x1 u → (u.cell? ⟨B.p, 4, none⟩ = some (.int .i64 n) ∧ u.cell? ⟨w.heap.size + 1, 1, none⟩ = some (.int .i64 ys) ∧ u.cell? ⟨w.heap.size + 1, 2, none⟩ = some (.int .i64 yu))) :=
    (fun u g => ⟨g.cell c4, g.cell e1, g.cell e2⟩ : ∀ u, Grw x1 u → (u.cell? ⟨B.p, 4, none⟩ = some (.int .i64 n) ∧ u.cell? ⟨w.heap.size + 1, 1, none⟩ = some (.int .i64 ys) ∧ u.cell? ⟨w.heap.size + 1, 2, none⟩ = some (.int .i64 yu)))
  go_cut [9, 10] from 17 to 28 (fun s9 s10 wx => ∃ xb, s9 = .pointer (some ⟨xb, 0, none⟩) ∧ s10 = .bool false ∧ x1.heap.size ≤ xb ∧ Two wx xb (.int .i64 0) (.int .i64 0) ∧ Grw x1 wx)
  case first =>
    go_region_held3 (fun u => u.cell? ⟨B.p, 4, none⟩ = some (.int .i64 n) ∧ u.cell? ⟨w.heap.size + 1, 1, none⟩ = some (.int .i64 ys) ∧ u.cell? ⟨w.heap.size + 1, 2, none⟩ = some (.int .i64 yu))
      ((refine SS.out _ ?_; repeat (first | with_reducible exact hx | with_reducible exact Grw.rfl' _ | with_reducible refine Grw.drew ?_ | with_reducible refine Grw.alloc ?_ _ | with_reducible refine Grw.set ?_ (Nat.le_refl _) _)))
      (first | (go_at_call 40; (with_reducible refine (C.out _).mono ?_); rintro _ w2 ⟨rfl, hw⟩; have hx : Grw x1 w2 := Grw.trans (by repeat (first | with_reducible exact Grw.rfl' _ | with_reducible refine Grw.drew ?_ | with_reducible refine Grw.alloc ?_ _)) hw; (first | (have tt := (Two.new x1 (.int .i64 0) (.int .i64 0) 48).later (Grw.of_drew hw) (by simp [go_sem]); have g0 := tt.c0; have g1 := tt.c1; have g2 := tt.f0; have g3 := tt.f1) | skip); unfold RE.tv))
    all_goals
      go_wp2_with fail
      go_meet
      case rel => first | exact ⟨_, rfl, rfl, Below.size hx, Two.new _ _ _ _, hx.alloc _⟩ | exact ⟨_, rfl, rfl, Nat.le_refl _, tt.set2 _ _, (hx.set (Nat.le_refl _) _).set (Nat.le_refl _) _⟩
  case rest =>
    obtain ⟨xb, rfl, rfl, hxb, ht, hg⟩ := hcut
    have t0 := T0.out.1.later hg (by have := T0.out.2; omega)
    have G2 := Lib.hid (G1.out.trans hg)
    have z0 := t0.c0
    have z1 := t0.c1
    have z2 := t0.f0
    have z3 := t0.f1
    clear c2 lk c4 e0 e1 e2 SS hxb ht hg t0 hx1
    go_wp2_with fail
    exact bodyPost_ret (v := .tuple #[.agg #[.int .i64 0, .int .i64 0], .bool false]) (by simp [results, Try.results26, go_sem, z0, z1]) rfl ⟨rfl, by repeat (first | with_reducible exact G2.out | with_reducible refine Grw.set ?_ (Nat.le_refl _) _)⟩
end Go.Proofs.Ytlopijcpnfkcgaa
