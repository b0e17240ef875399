/- The contract of the document's Run at this program. -/
import Derived.Test.YtfpadikoplgflaaWf
import Derived.Deep.LoopGhost
import Derived.Deep.RegionHeld3
import Derived.Deep.CutRange
import Derived.Deep.DeepCutAuto
namespace Go.Proofs.Ytfpadikoplgflaa
open Go.RowKit
set_option linter.unusedSimpArgs false

theorem Tri.set1 {w : World} {b : Nat} {c0 c1 c2 : Value} (t : Tri w b c0 c1 c2) (v : Value) : Tri (w.setCell ⟨b, 2, none⟩ v) b c0 c1 v :=
  ⟨by simp [go_sem, t.c0, t.c1, t.c2], by simp [go_sem, t.c0, t.c1, t.c2], by simp [go_sem, t.c0, t.c1, t.c2], by simp [go_sem, t.f0, t.f1, t.f2], by simp [go_sem, t.f0, t.f1, t.f2], by simp [go_sem, t.f0, t.f1, t.f2]⟩
theorem Tri.set2 {w : World} {b : Nat} {c0 c1 c2 : Value} (t : Tri w b c0 c1 c2) (u v : Value) : Tri ((w.setCell ⟨b, 0, none⟩ u).setCell ⟨b, 1, none⟩ v) b u v c2 :=
  ⟨by simp [go_sem, t.c0, t.c1, t.c2], by simp [go_sem, t.c0, t.c1, t.c2], by simp [go_sem, t.c0, t.c1, t.c2], by simp [go_sem, t.f0, t.f1, t.f2], by simp [go_sem, t.f0, t.f1, t.f2], by simp [go_sem, t.f0, t.f1, t.f2]⟩
theorem Tri.set3 {w : World} {b : Nat} {c0 c1 c2 : Value} (t : Tri w b c0 c1 c2) (u v x : Value) : Tri (((w.setCell ⟨b, 0, none⟩ u).setCell ⟨b, 1, none⟩ v).setCell ⟨b, 2, none⟩ x) b u v x := (t.set2 u v).set1 x
theorem Tri.frm {F : Nat → Prop} {w x : World} {b : Nat} {c0 c1 c2 : Value} (t : Tri w b c0 c1 c2) (h : Frm F w x) (hb : ¬ F b) (h0 : x.frozen? ⟨b, 0, none⟩ = false) (h1 : x.frozen? ⟨b, 1, none⟩ = false) (h2 : x.frozen? ⟨b, 2, none⟩ = false) : Tri x b c0 c1 c2 :=
  ⟨h.cell t.c0 hb, h.cell t.c1 hb, h.cell t.c2 hb, h0, h1, h2⟩
theorem Tri.apart1 {w : World} {b d : Nat} {c0 c1 c2 : Value} (t : Tri w d c0 c1 c2) (h : d ≠ b) (v : Value) (i : Nat) : Tri (w.setCell ⟨b, i, none⟩ v) d c0 c1 c2 :=
  t.frm (frm_set (F := fun k => k = b) w ⟨b, i, none⟩ v rfl) h (by simp [go_sem, t.f0]) (by simp [go_sem, t.f1]) (by simp [go_sem, t.f2])
theorem three_boxes (w : World) (s u : Int) : Two ((w.alloc (.cells #[.int .i64 s, .int .i64 u] 23)).alloc (.cells #[.int .i64 0, .int .i64 0, .int .i64 0] 37)) w.heap.size (.int .i64 s) (.int .i64 u) ∧
    Tri ((w.alloc (.cells #[.int .i64 s, .int .i64 u] 23)).alloc (.cells #[.int .i64 0, .int .i64 0, .int .i64 0] 37)) (w.heap.size + 1) (.int .i64 0) (.int .i64 0) (.int .i64 0) := two_tri w _ _ _ _ _ 23 37
set_option maxHeartbeats 2000000 in
set_option maxRecDepth 100000 in
theorem rrun_bad (n s u : Int) (ao : Option Addr) (m cap : Nat) (w : World) (h : gd n s u = false) :
    Calls Try.prog 16 #[.int .i64 n, .agg #[.int .i64 s, .int .i64 u], .slice ao m cap] w fun e w' => e = .returned (.agg #[.int .i64 0, .int .i64 0, .int .i64 (m : Nat)]) ∧ Grw w w' := by
  have C := Lib.hid (fun w => rgood_is n s u false w h)
  obtain ⟨t1, t2⟩ := three_boxes w s u
  have T2 := Lib.hid t2
  have GG := Lib.hid (((Grw.rfl' w).alloc (.cells #[.int .i64 s, .int .i64 u] 23)).alloc (.cells #[.int .i64 0, .int .i64 0, .int .i64 0] 37))
  clear h t1 t2
  go_enter Try.func16, Try.ntmps16
  go_wp2_with fail
  refine (C.out _).mono ?_
  rintro _ w1 ⟨rfl, hw⟩
  have G := Lib.hid (GG.out.trans hw)
  have u2 := T2.out.later hw (by simp [go_sem])
  have d0 := u2.c0
  have d1 := u2.c1
  have d2 := u2.c2
  have f0 := u2.f0
  have f1 := u2.f1
  have f2 := u2.f2
  clear hw u2
  go_wp2_with fail
  exact bodyPost_ret (v := .agg #[.int .i64 0, .int .i64 0, .int .i64 (m : Nat)]) (by simp [results, Try.results16, go_sem, d0, d1, d2]) rfl ⟨rfl, by repeat (first | with_reducible exact G.out | with_reducible refine Grw.set ?_ (by simp [go_sem]) _)⟩
set_option maxHeartbeats 2000000 in
set_option maxRecDepth 100000 in
theorem rrun_good (n s u : Int) (ao : Option Addr) (m cap : Nat) (l : List Int) (a b : Int) (o : Nat) (w : World) (hl : Lies w ao (ci l)) (hm : l.length = m) (hb : l.length ≤ 1000000) (h : gd n s u = true) (hr : l.foldl (one n) (s, u, 0) = (a, b, o)) :
    Calls Try.prog 16 #[.int .i64 n, .agg #[.int .i64 s, .int .i64 u], .slice ao m cap] w fun e w' => e = .returned (.agg #[.int .i64 a, .int .i64 b, .int .i64 (o : Nat)]) ∧ Grw w w' := by
  have C := Lib.hid (fun w => rgood_is n s u true w h)
  obtain ⟨t1, t2⟩ := three_boxes w s u
  have T1 := Lib.hid t1
  have T2 := Lib.hid t2
  have GG := Lib.hid (((Grw.rfl' w).alloc (.cells #[.int .i64 s, .int .i64 u] 23)).alloc (.cells #[.int .i64 0, .int .i64 0, .int .i64 0] 37))
  have LI := Lib.hid hl
  have HR := Lib.hid hr
  have HN := Lib.hid (And.intro hm hb)
  clear h t1 t2 hl hr hm hb
  go_enter Try.func16, Try.ntmps16
  go_wp2_with fail
  refine (C.out _).mono ?_
  rintro _ w1 ⟨rfl, hw⟩
  have G := Lib.hid (GG.out.trans hw)
  have u1 := T1.out.later hw (by simp [go_sem])
  have u2 := Lib.hid (T2.out.later hw (by simp [go_sem]))
  have HZ := Lib.hid (show w.heap.size + 1 < w1.heap.size by have := Below.size hw; simp [go_sem] at this; omega)
  have c0 := u1.c0
  have c1 := u1.c1
  obtain ⟨B, hB⟩ : ∃ B, w1.heap.size = B := ⟨_, rfl⟩
  have V2 := Lib.hid (u2.out.later ((Grw.rfl' w1).alloc (.cells #[.int .i64 s, .int .i64 u, .int .i64 0] 37)) HZ.out)
  have V3 : Hid (Tri (w1.alloc (.cells #[.int .i64 s, .int .i64 u, .int .i64 0] 37)) B (.int .i64 s) (.int .i64 u) (.int .i64 0)) := (by rw [← hB]; exact Tri.new _ _ _ _ _ : Tri (w1.alloc (.cells #[.int .i64 s, .int .i64 u, .int .i64 0] 37)) B (.int .i64 s) (.int .i64 u) (.int .i64 0))
  have HB : Hid (w.heap.size + 1 < B ∧ B < (w1.alloc (.cells #[.int .i64 s, .int .i64 u, .int .i64 0] 37)).heap.size) := (⟨by rw [← hB]; exact HZ.out, by rw [← hB, size_new]; omega⟩ : w.heap.size + 1 < B ∧ B < (w1.alloc (.cells #[.int .i64 s, .int .i64 u, .int .i64 0] 37)).heap.size)
  clear hw u1
  go_wp2_with fail
  clear c0 c1 hB
  go_loopw [8] (fun y wr => ∃ (k : Nat) (c d : Int) (e : Nat), k ≤ m ∧ fo n s u l k = (c, d, e) ∧ y = .int .i64 (k : Nat) ∧ Tri wr B (.int .i64 c) (.int .i64 d) (.int .i64 (e : Nat)) ∧ Tri wr (w.heap.size + 1) (.int .i64 0) (.int .i64 0) (.int .i64 0) ∧ B < wr.heap.size ∧ Grw w wr) (fun y _ => m - (intOf y).toNat)
  case atStart => exact ⟨0, s, u, 0, Nat.zero_le _, rfl, rfl, V3.out, V2.out, HB.out.2, G.out.alloc _⟩
  case round =>
    obtain ⟨k, c, d, e, hk, hfo, rfl, ht1, ht2, hz, hg⟩ := hrel
    have GR := Lib.hid hg
    have E1 := Lib.hid ht1
    have E2 := Lib.hid ht2
    have EZ := Lib.hid hz
    have FO := Lib.hid hfo
    have c0 := ht1.c0
    have c1 := ht1.c1
    by_cases hkm : k < m
    · have hki : (k : Int) < (m : Int) := by omega
      have hkl : k < l.length := by rw [HN.out.1]; exact hkm
      obtain ⟨bb, off, rfl, x0⟩ := ilies_at (LI.out.later hg) hkl
      obtain ⟨x, hx⟩ : ∃ x, l[k] = x := ⟨_, rfl⟩
      rw [hx] at x0
      obtain ⟨p, hp⟩ : ∃ p, st n c d x = p := ⟨_, rfl⟩
      obtain ⟨a', b', ok⟩ := p
      have S := Lib.hid (fun w => rstep_is n c d x a' b' ok w hp)
      have HX := Lib.hid hx
      have HP := Lib.hid hp
      have he : e ≤ l.length := by have := fo_out n s u l k; rw [hfo] at this; exact this
      have q1 : IntKind.i64.wrap ((e : Int) + 1) = ((e + 1 : Nat) : Int) := by have := HN.out.2; simp [IntKind.wrap_i64]; omega
      have q2 : IntKind.i64.wrap ((k : Int) + 1) = ((k + 1 : Nat) : Int) := by have := HN.out; simp [IntKind.wrap_i64]; omega
      have hB := HB.out.1
      clear ht1 ht2 hz hg hfo hx hp he
      go_wp2_with fail
      have SS : Hid (∀ v, Grw wr v → (v.cell? ⟨B, 0, none⟩ = some (.int .i64 c) ∧ v.cell? ⟨B, 1, none⟩ = some (.int .i64 d) ∧ v.cell? ⟨bb, off + k, none⟩ = some (.int .i64 x))) :=
        (fun v g => ⟨g.cell c0, g.cell c1, g.cell x0⟩ : ∀ v, Grw wr v → (v.cell? ⟨B, 0, none⟩ = some (.int .i64 c) ∧ v.cell? ⟨B, 1, none⟩ = some (.int .i64 d) ∧ v.cell? ⟨bb, off + k, none⟩ = some (.int .i64 x)))
      go_cut [9] from 25 to 33 (fun s9 wx => ∃ xb, s9 = .pointer (some ⟨xb, 0, none⟩) ∧ wr.heap.size ≤ xb ∧ Tri wx xb (.int .i64 a') (.int .i64 b') (.bool ok) ∧ Grw wr wx)
      case first =>
        go_region_held3 (fun v => v.cell? ⟨B, 0, none⟩ = some (.int .i64 c) ∧ v.cell? ⟨B, 1, none⟩ = some (.int .i64 d) ∧ v.cell? ⟨bb, off + k, none⟩ = some (.int .i64 x))
          ((refine SS.out _ ?_; repeat (first | with_reducible exact hx | with_reducible exact Grw.rfl' _ | with_reducible refine Grw.drew ?_ | with_reducible refine Grw.alloc ?_ _ | with_reducible refine Grw.set ?_ (Nat.le_refl _) _)))
          (first | (go_at_call 9; (with_reducible refine (S.out _).mono ?_); rintro _ w2 ⟨rfl, hw⟩; have hx : Grw wr w2 := Grw.trans (by repeat (first | with_reducible exact Grw.rfl' _ | with_reducible refine Grw.drew ?_ | with_reducible refine Grw.alloc ?_ _)) hw; (first | (have tt := (Tri.new wr (.int .i64 0) (.int .i64 0) (.bool false) 28).later (Grw.of_drew hw) (by simp [go_sem]); have g0 := tt.c0; have g1 := tt.c1; have g2 := tt.c2; have g3 := tt.f0; have g4 := tt.f1; have g5 := tt.f2) | skip); unfold rv))
        all_goals
          go_wp2_with fail
          go_meet
          case rel => first | exact ⟨_, rfl, Below.size hx, Tri.new _ _ _ _ _, hx.alloc _⟩ | exact ⟨_, rfl, Nat.le_refl _, tt.set3 _ _ _, ((hx.set (Nat.le_refl _) _).set (Nat.le_refl _) _).set (Nat.le_refl _) _⟩
      case rest =>
        obtain ⟨xb, rfl, hxb, ht, hg⟩ := hcut
        have X1 := E1.out.later hg EZ.out
        have X2 := E2.out.later hg (by have := EZ.out; omega)
        have XZ := Lib.hid (Nat.lt_of_lt_of_le EZ.out (Below.size hg))
        have XG := Lib.hid (GR.out.trans hg)
        have Y1 := Lib.hid X1
        have Y2 := Lib.hid X2
        have x1 := ht.c0
        have x2 := ht.c1
        have x3 := ht.c2
        have y0 := X1.c0
        have y1 := X1.c1
        have y2 := X1.c2
        have z0 := X1.f0
        have z1 := X1.f1
        have z2 := X1.f2
        clear c0 c1 x0 SS hxb ht hg X1 X2
        cases ok with
        | true =>
          go_wp2_with fail
          go_roundw
          case rel => exact ⟨k + 1, a', b', e, by omega, fo_yes (by rw [HN.out.1]; exact hkm) FO.out (by rw [HX.out]; exact HP.out), by first | rfl | go_num, Y1.out.set2 _ _, (Y2.out.apart1 (by omega) _ 0).apart1 (by omega) _ 1, by have := XZ.out; simp [go_sem]; omega, (XG.out.set (Nat.le_trans (by omega) (Nat.le_of_lt hB)) _).set (Nat.le_trans (by omega) (Nat.le_of_lt hB)) _⟩
          case measure => simp [intOf]; omega
        | false =>
          go_wp2_with fail
          go_roundw
          case rel => exact ⟨k + 1, c, d, e + 1, by omega, fo_no (by rw [HN.out.1]; exact hkm) FO.out (by rw [HX.out]; exact HP.out), by first | rfl | go_num, Y1.out.set1 _, Y2.out.apart1 (by omega) _ 2, by have := XZ.out; simp [go_sem]; omega, XG.out.set (Nat.le_trans (by omega) (Nat.le_of_lt hB)) _⟩
          case measure => simp [intOf]; omega
    · have hki : ¬ (k : Int) < (m : Int) := by omega
      obtain rfl : m = k := by omega
      have hfe : (c, d, e) = (a, b, o) := by
        rw [← hfo, ← HR.out]
        unfold fo
        rw [List.take_of_length_le (by rw [HN.out.1]; exact Nat.le_refl _)]
      injection hfe with h1 h2
      injection h2 with h2 h3
      subst h1 h2 h3
      have c2 := ht1.c2
      have d0 := ht2.c0
      have d1 := ht2.c1
      have d2 := ht2.c2
      have f0 := ht2.f0
      have f1 := ht2.f1
      have f2 := ht2.f2
      clear ht1 ht2 hz hg hfo
      go_wp2_with fail
      exact bodyPost_ret (v := .agg #[.int .i64 c, .int .i64 d, .int .i64 (e : Nat)]) (by simp [results, Try.results16, go_sem, d0, d1, d2]) rfl ⟨rfl, by repeat (first | with_reducible exact GR.out | with_reducible refine Grw.set ?_ (by simp [go_sem]) _)⟩
theorem rrun_is (n s u : Int) (ao : Option Addr) (m cap : Nat) (l : List Int) (a b : Int) (o : Nat) (w : World) (hl : Lies w ao (ci l)) (hm : l.length = m) (hb : l.length ≤ 1000000) (hr : rn n s u l = (a, b, o)) :
    Calls Try.prog 16 #[.int .i64 n, .agg #[.int .i64 s, .int .i64 u], .slice ao m cap] w fun e w' => e = .returned (.agg #[.int .i64 a, .int .i64 b, .int .i64 (o : Nat)]) ∧ Grw w w' := by
  unfold rn at hr
  cases hg : gd n s u with
  | false =>
    rw [hg] at hr
    simp only [if_true] at hr
    injection hr with h1 hr
    injection hr with h2 h3
    subst h1 h2 h3
    rw [hm]
    exact rrun_bad n s u ao m cap w hg
  | true =>
    rw [hg] at hr
    simp only [Bool.true_eq_false, if_false] at hr
    exact rrun_good n s u ao m cap l a b o w hl hm hb hg hr
end Go.Proofs.Ytfpadikoplgflaa
