/- The contract of the document's Step at this program. -/
import Derived.Test.YtlopijcpnfkcgaaGreatRWc
namespace Go.Proofs.YtlopijcpnfkcgaaGreat
namespace RE
open Go.RowKit
set_option linter.unusedSimpArgs false

/-- three cells in block b, as they lie, and to be written. -/
structure Tri (w : World) (b : Nat) (c0 c1 c2 : Value) : Prop where
  c0 : w.cell? ⟨b, 0, none⟩ = some c0
  c1 : w.cell? ⟨b, 1, none⟩ = some c1
  c2 : w.cell? ⟨b, 2, none⟩ = some c2
  f0 : w.frozen? ⟨b, 0, none⟩ = false
  f1 : w.frozen? ⟨b, 1, none⟩ = false
  f2 : w.frozen? ⟨b, 2, none⟩ = false
theorem Tri.new (w : World) (c0 c1 c2 : Value) (T : TypeId) : Tri (w.alloc (.cells #[c0, c1, c2] T)) w.heap.size c0 c1 c2 :=
  ⟨by simp [go_sem], by simp [go_sem], by simp [go_sem], by simp [go_sem], by simp [go_sem], by simp [go_sem]⟩
theorem Tri.later {w x : World} {b : Nat} {c0 c1 c2 : Value} (t : Tri w b c0 c1 c2) (h : Grw w x) (hb : b < w.heap.size) : Tri x b c0 c1 c2 :=
  ⟨h.cell t.c0, h.cell t.c1, h.cell t.c2, by rw [Below.frozen h hb]; exact t.f0, by rw [Below.frozen h hb]; exact t.f1, by rw [Below.frozen h hb]; exact t.f2⟩
theorem two_tri (w : World) (s u a b c : Value) (T S : TypeId) : Two ((w.alloc (.cells #[s, u] T)).alloc (.cells #[a, b, c] S)) w.heap.size s u ∧ Tri ((w.alloc (.cells #[s, u] T)).alloc (.cells #[a, b, c] S)) (w.heap.size + 1) a b c := by
  refine ⟨(Two.new w s u T).later ((Grw.rfl' _).alloc _) (by rw [size_new]; omega), ?_⟩
  have := Tri.new (w.alloc (.cells #[s, u] T)) a b c S
  rw [size_new] at this
  exact this
set_option maxHeartbeats 2000000 in
set_option maxRecDepth 100000 in
theorem rstep_bad (s u k n m : Int) (w : World) (h : gd n s u = false) (_ : m = m) :
    Calls Tryz.prog 35 #[.int .i64 n, .agg #[.int .i64 s, .int .i64 u], .int .i64 k] w fun e w' => e = .returned (rv 0 0 false) ∧ Grw w w' := by
  have C := Lib.hid (fun w => rgood_is n s u false w h)
  obtain ⟨t1, t2⟩ := two_tri w (.int .i64 s) (.int .i64 u) (.int .i64 0) (.int .i64 0) (.bool false) 48 85
  have T1 := Lib.hid t1
  have T2 := Lib.hid t2
  have GG := Lib.hid (((Grw.rfl' w).alloc (.cells #[.int .i64 s, .int .i64 u] 48)).alloc (.cells #[.int .i64 0, .int .i64 0, .bool false] 85))
  clear h t1 t2
  go_enter Tryz.func35, Tryz.ntmps35
  go_wp2_with fail
  refine (C.out _).mono ?_
  rintro _ w1 ⟨rfl, hw⟩
  have G := Lib.hid (GG.out.trans hw)
  have u1 := T1.out.later hw (by simp [go_sem])
  have u2 := T2.out.later hw (by simp [go_sem])
  have c0 := u1.c0
  have c1 := u1.c1
  have d0 := u2.c0
  have d1 := u2.c1
  have d2 := u2.c2
  have f0 := u2.f0
  have f1 := u2.f1
  have f2 := u2.f2
  clear hw u1 u2
  go_wp2_with fail
  exact bodyPost_ret (v := .agg #[.int .i64 0, .int .i64 0, .bool false]) (by simp [results, Tryz.results35, go_sem, d0, d1, d2]) rfl ⟨rfl, by repeat (first | with_reducible assumption | with_reducible exact G.out | with_reducible exact Grw.rfl' _ | with_reducible refine Grw.alloc ?_ _ | with_reducible refine Grw.drew ?_ | with_reducible refine Grw.drewN ?_ _ | with_reducible refine Grw.set ?_ (by simp [go_sem]) _)⟩
set_option maxHeartbeats 2000000 in
set_option maxRecDepth 100000 in
theorem rstep_1 (u n m : Int) (w : World) (h : gd n 1 u = true) (_ : m = m) (hq : IntKind.i64.wrap (u + 1) = m) :
    Calls Tryz.prog 35 #[.int .i64 n, .agg #[.int .i64 1, .int .i64 u], .int .i64 1] w fun e w' => e = .returned (rv 2 m true) ∧ Grw w w' := by
  have C := Lib.hid (fun w => rgood_is n 1 u true w h)
  obtain ⟨t1, t2⟩ := two_tri w (.int .i64 1) (.int .i64 u) (.int .i64 0) (.int .i64 0) (.bool false) 48 85
  have T1 := Lib.hid t1
  have T2 := Lib.hid t2
  have GG := Lib.hid (((Grw.rfl' w).alloc (.cells #[.int .i64 1, .int .i64 u] 48)).alloc (.cells #[.int .i64 0, .int .i64 0, .bool false] 85))
  clear h t1 t2
  go_enter Tryz.func35, Tryz.ntmps35
  go_wp2_with fail
  refine (C.out _).mono ?_
  rintro _ w1 ⟨rfl, hw⟩
  have G := Lib.hid (GG.out.trans hw)
  have u1 := T1.out.later hw (by simp [go_sem])
  have u2 := T2.out.later hw (by simp [go_sem])
  have c0 := u1.c0
  have c1 := u1.c1
  have d0 := u2.c0
  have d1 := u2.c1
  have d2 := u2.c2
  have f0 := u2.f0
  have f1 := u2.f1
  have f2 := u2.f2
  clear hw u1 u2
  go_wp2_with fail
  exact bodyPost_ret (v := .agg #[.int .i64 2, .int .i64 m, .bool true]) (by simp [results, Tryz.results35, go_sem, d0, d1, d2]) rfl ⟨rfl, by repeat (first | with_reducible assumption | with_reducible exact G.out | with_reducible exact Grw.rfl' _ | with_reducible refine Grw.alloc ?_ _ | with_reducible refine Grw.drew ?_ | with_reducible refine Grw.drewN ?_ _ | with_reducible refine Grw.set ?_ (by simp [go_sem]) _)⟩
set_option maxHeartbeats 2000000 in
set_option maxRecDepth 100000 in
theorem rstep_2 (u n m : Int) (w : World) (h : gd n 2 u = true) (_ : m = m) :
    Calls Tryz.prog 35 #[.int .i64 n, .agg #[.int .i64 2, .int .i64 u], .int .i64 2] w fun e w' => e = .returned (rv 4 u true) ∧ Grw w w' := by
  have C := Lib.hid (fun w => rgood_is n 2 u true w h)
  obtain ⟨t1, t2⟩ := two_tri w (.int .i64 2) (.int .i64 u) (.int .i64 0) (.int .i64 0) (.bool false) 48 85
  have T1 := Lib.hid t1
  have T2 := Lib.hid t2
  have GG := Lib.hid (((Grw.rfl' w).alloc (.cells #[.int .i64 2, .int .i64 u] 48)).alloc (.cells #[.int .i64 0, .int .i64 0, .bool false] 85))
  clear h t1 t2
  go_enter Tryz.func35, Tryz.ntmps35
  go_wp2_with fail
  refine (C.out _).mono ?_
  rintro _ w1 ⟨rfl, hw⟩
  have G := Lib.hid (GG.out.trans hw)
  have u1 := T1.out.later hw (by simp [go_sem])
  have u2 := T2.out.later hw (by simp [go_sem])
  have c0 := u1.c0
  have c1 := u1.c1
  have d0 := u2.c0
  have d1 := u2.c1
  have d2 := u2.c2
  have f0 := u2.f0
  have f1 := u2.f1
  have f2 := u2.f2
  clear hw u1 u2
  go_wp2_with fail
  exact bodyPost_ret (v := .agg #[.int .i64 4, .int .i64 u, .bool true]) (by simp [results, Tryz.results35, go_sem, d0, d1, d2]) rfl ⟨rfl, by repeat (first | with_reducible assumption | with_reducible exact G.out | with_reducible exact Grw.rfl' _ | with_reducible refine Grw.alloc ?_ _ | with_reducible refine Grw.drew ?_ | with_reducible refine Grw.drewN ?_ _ | with_reducible refine Grw.set ?_ (by simp [go_sem]) _)⟩
set_option maxHeartbeats 2000000 in
set_option maxRecDepth 100000 in
theorem rstep_3 (u n m : Int) (w : World) (h : gd n 2 u = true) (_ : m = m) (hu : decide (u ≤ n) = true) :
    Calls Tryz.prog 35 #[.int .i64 n, .agg #[.int .i64 2, .int .i64 u], .int .i64 3] w fun e w' => e = .returned (rv 3 u true) ∧ Grw w w' := by
  have C := Lib.hid (fun w => rgood_is n 2 u true w h)
  obtain ⟨t1, t2⟩ := two_tri w (.int .i64 2) (.int .i64 u) (.int .i64 0) (.int .i64 0) (.bool false) 48 85
  have T1 := Lib.hid t1
  have T2 := Lib.hid t2
  have GG := Lib.hid (((Grw.rfl' w).alloc (.cells #[.int .i64 2, .int .i64 u] 48)).alloc (.cells #[.int .i64 0, .int .i64 0, .bool false] 85))
  clear h t1 t2
  go_enter Tryz.func35, Tryz.ntmps35
  go_wp2_with fail
  refine (C.out _).mono ?_
  rintro _ w1 ⟨rfl, hw⟩
  have G := Lib.hid (GG.out.trans hw)
  have u1 := T1.out.later hw (by simp [go_sem])
  have u2 := T2.out.later hw (by simp [go_sem])
  have c0 := u1.c0
  have c1 := u1.c1
  have d0 := u2.c0
  have d1 := u2.c1
  have d2 := u2.c2
  have f0 := u2.f0
  have f1 := u2.f1
  have f2 := u2.f2
  clear hw u1 u2
  go_wp2_with fail
  exact bodyPost_ret (v := .agg #[.int .i64 3, .int .i64 u, .bool true]) (by simp [results, Tryz.results35, go_sem, d0, d1, d2]) rfl ⟨rfl, by repeat (first | with_reducible assumption | with_reducible exact G.out | with_reducible exact Grw.rfl' _ | with_reducible refine Grw.alloc ?_ _ | with_reducible refine Grw.drew ?_ | with_reducible refine Grw.drewN ?_ _ | with_reducible refine Grw.set ?_ (by simp [go_sem]) _)⟩
set_option maxHeartbeats 2000000 in
set_option maxRecDepth 100000 in
theorem rstep_4 (u n m : Int) (w : World) (h : gd n 2 u = true) (_ : m = m) (hu : decide (u ≤ n) = false) :
    Calls Tryz.prog 35 #[.int .i64 n, .agg #[.int .i64 2, .int .i64 u], .int .i64 3] w fun e w' => e = .returned (rv 5 u true) ∧ Grw w w' := by
  have C := Lib.hid (fun w => rgood_is n 2 u true w h)
  obtain ⟨t1, t2⟩ := two_tri w (.int .i64 2) (.int .i64 u) (.int .i64 0) (.int .i64 0) (.bool false) 48 85
  have T1 := Lib.hid t1
  have T2 := Lib.hid t2
  have GG := Lib.hid (((Grw.rfl' w).alloc (.cells #[.int .i64 2, .int .i64 u] 48)).alloc (.cells #[.int .i64 0, .int .i64 0, .bool false] 85))
  clear h t1 t2
  go_enter Tryz.func35, Tryz.ntmps35
  go_wp2_with fail
  refine (C.out _).mono ?_
  rintro _ w1 ⟨rfl, hw⟩
  have G := Lib.hid (GG.out.trans hw)
  have u1 := T1.out.later hw (by simp [go_sem])
  have u2 := T2.out.later hw (by simp [go_sem])
  have c0 := u1.c0
  have c1 := u1.c1
  have d0 := u2.c0
  have d1 := u2.c1
  have d2 := u2.c2
  have f0 := u2.f0
  have f1 := u2.f1
  have f2 := u2.f2
  clear hw u1 u2
  go_wp2_with fail
  exact bodyPost_ret (v := .agg #[.int .i64 5, .int .i64 u, .bool true]) (by simp [results, Tryz.results35, go_sem, d0, d1, d2]) rfl ⟨rfl, by repeat (first | with_reducible assumption | with_reducible exact G.out | with_reducible exact Grw.rfl' _ | with_reducible refine Grw.alloc ?_ _ | with_reducible refine Grw.drew ?_ | with_reducible refine Grw.drewN ?_ _ | with_reducible refine Grw.set ?_ (by simp [go_sem]) _)⟩
set_option maxHeartbeats 2000000 in
set_option maxRecDepth 100000 in
theorem rstep_5 (u n m : Int) (w : World) (h : gd n 3 u = true) (_ : m = m) :
    Calls Tryz.prog 35 #[.int .i64 n, .agg #[.int .i64 3, .int .i64 u], .int .i64 4] w fun e w' => e = .returned (rv 1 u true) ∧ Grw w w' := by
  have C := Lib.hid (fun w => rgood_is n 3 u true w h)
  obtain ⟨t1, t2⟩ := two_tri w (.int .i64 3) (.int .i64 u) (.int .i64 0) (.int .i64 0) (.bool false) 48 85
  have T1 := Lib.hid t1
  have T2 := Lib.hid t2
  have GG := Lib.hid (((Grw.rfl' w).alloc (.cells #[.int .i64 3, .int .i64 u] 48)).alloc (.cells #[.int .i64 0, .int .i64 0, .bool false] 85))
  clear h t1 t2
  go_enter Tryz.func35, Tryz.ntmps35
  go_wp2_with fail
  refine (C.out _).mono ?_
  rintro _ w1 ⟨rfl, hw⟩
  have G := Lib.hid (GG.out.trans hw)
  have u1 := T1.out.later hw (by simp [go_sem])
  have u2 := T2.out.later hw (by simp [go_sem])
  have c0 := u1.c0
  have c1 := u1.c1
  have d0 := u2.c0
  have d1 := u2.c1
  have d2 := u2.c2
  have f0 := u2.f0
  have f1 := u2.f1
  have f2 := u2.f2
  clear hw u1 u2
  go_wp2_with fail
  exact bodyPost_ret (v := .agg #[.int .i64 1, .int .i64 u, .bool true]) (by simp [results, Tryz.results35, go_sem, d0, d1, d2]) rfl ⟨rfl, by repeat (first | with_reducible assumption | with_reducible exact G.out | with_reducible exact Grw.rfl' _ | with_reducible refine Grw.alloc ?_ _ | with_reducible refine Grw.drew ?_ | with_reducible refine Grw.drewN ?_ _ | with_reducible refine Grw.set ?_ (by simp [go_sem]) _)⟩
set_option maxHeartbeats 2000000 in
set_option maxRecDepth 100000 in
theorem rstep_n1 (s u n m : Int) (w : World) (h : gd n s u = true) (_ : m = m) (hs : (s == 1) = false) :
    Calls Tryz.prog 35 #[.int .i64 n, .agg #[.int .i64 s, .int .i64 u], .int .i64 1] w fun e w' => e = .returned (rv 0 0 false) ∧ Grw w w' := by
  have C := Lib.hid (fun w => rgood_is n s u true w h)
  obtain ⟨t1, t2⟩ := two_tri w (.int .i64 s) (.int .i64 u) (.int .i64 0) (.int .i64 0) (.bool false) 48 85
  have T1 := Lib.hid t1
  have T2 := Lib.hid t2
  have GG := Lib.hid (((Grw.rfl' w).alloc (.cells #[.int .i64 s, .int .i64 u] 48)).alloc (.cells #[.int .i64 0, .int .i64 0, .bool false] 85))
  clear h t1 t2
  go_enter Tryz.func35, Tryz.ntmps35
  go_wp2_with fail
  refine (C.out _).mono ?_
  rintro _ w1 ⟨rfl, hw⟩
  have G := Lib.hid (GG.out.trans hw)
  have u1 := T1.out.later hw (by simp [go_sem])
  have u2 := T2.out.later hw (by simp [go_sem])
  have c0 := u1.c0
  have c1 := u1.c1
  have d0 := u2.c0
  have d1 := u2.c1
  have d2 := u2.c2
  have f0 := u2.f0
  have f1 := u2.f1
  have f2 := u2.f2
  clear hw u1 u2
  go_wp2_with fail
  exact bodyPost_ret (v := .agg #[.int .i64 0, .int .i64 0, .bool false]) (by simp [results, Tryz.results35, go_sem, d0, d1, d2]) rfl ⟨rfl, by repeat (first | with_reducible assumption | with_reducible exact G.out | with_reducible exact Grw.rfl' _ | with_reducible refine Grw.alloc ?_ _ | with_reducible refine Grw.drew ?_ | with_reducible refine Grw.drewN ?_ _ | with_reducible refine Grw.set ?_ (by simp [go_sem]) _)⟩
set_option maxHeartbeats 2000000 in
set_option maxRecDepth 100000 in
theorem rstep_n2 (s u n m : Int) (w : World) (h : gd n s u = true) (_ : m = m) (hs : (s == 2) = false) :
    Calls Tryz.prog 35 #[.int .i64 n, .agg #[.int .i64 s, .int .i64 u], .int .i64 2] w fun e w' => e = .returned (rv 0 0 false) ∧ Grw w w' := by
  have C := Lib.hid (fun w => rgood_is n s u true w h)
  obtain ⟨t1, t2⟩ := two_tri w (.int .i64 s) (.int .i64 u) (.int .i64 0) (.int .i64 0) (.bool false) 48 85
  have T1 := Lib.hid t1
  have T2 := Lib.hid t2
  have GG := Lib.hid (((Grw.rfl' w).alloc (.cells #[.int .i64 s, .int .i64 u] 48)).alloc (.cells #[.int .i64 0, .int .i64 0, .bool false] 85))
  clear h t1 t2
  go_enter Tryz.func35, Tryz.ntmps35
  go_wp2_with fail
  refine (C.out _).mono ?_
  rintro _ w1 ⟨rfl, hw⟩
  have G := Lib.hid (GG.out.trans hw)
  have u1 := T1.out.later hw (by simp [go_sem])
  have u2 := T2.out.later hw (by simp [go_sem])
  have c0 := u1.c0
  have c1 := u1.c1
  have d0 := u2.c0
  have d1 := u2.c1
  have d2 := u2.c2
  have f0 := u2.f0
  have f1 := u2.f1
  have f2 := u2.f2
  clear hw u1 u2
  go_wp2_with fail
  exact bodyPost_ret (v := .agg #[.int .i64 0, .int .i64 0, .bool false]) (by simp [results, Tryz.results35, go_sem, d0, d1, d2]) rfl ⟨rfl, by repeat (first | with_reducible assumption | with_reducible exact G.out | with_reducible exact Grw.rfl' _ | with_reducible refine Grw.alloc ?_ _ | with_reducible refine Grw.drew ?_ | with_reducible refine Grw.drewN ?_ _ | with_reducible refine Grw.set ?_ (by simp [go_sem]) _)⟩
set_option maxHeartbeats 2000000 in
set_option maxRecDepth 100000 in
theorem rstep_n3 (s u n m : Int) (w : World) (h : gd n s u = true) (_ : m = m) (hs : (s == 2) = false) :
    Calls Tryz.prog 35 #[.int .i64 n, .agg #[.int .i64 s, .int .i64 u], .int .i64 3] w fun e w' => e = .returned (rv 0 0 false) ∧ Grw w w' := by
  have C := Lib.hid (fun w => rgood_is n s u true w h)
  obtain ⟨t1, t2⟩ := two_tri w (.int .i64 s) (.int .i64 u) (.int .i64 0) (.int .i64 0) (.bool false) 48 85
  have T1 := Lib.hid t1
  have T2 := Lib.hid t2
  have GG := Lib.hid (((Grw.rfl' w).alloc (.cells #[.int .i64 s, .int .i64 u] 48)).alloc (.cells #[.int .i64 0, .int .i64 0, .bool false] 85))
  clear h t1 t2
  go_enter Tryz.func35, Tryz.ntmps35
  go_wp2_with fail
  refine (C.out _).mono ?_
  rintro _ w1 ⟨rfl, hw⟩
  have G := Lib.hid (GG.out.trans hw)
  have u1 := T1.out.later hw (by simp [go_sem])
  have u2 := T2.out.later hw (by simp [go_sem])
  have c0 := u1.c0
  have c1 := u1.c1
  have d0 := u2.c0
  have d1 := u2.c1
  have d2 := u2.c2
  have f0 := u2.f0
  have f1 := u2.f1
  have f2 := u2.f2
  clear hw u1 u2
  go_wp2_with fail
  exact bodyPost_ret (v := .agg #[.int .i64 0, .int .i64 0, .bool false]) (by simp [results, Tryz.results35, go_sem, d0, d1, d2]) rfl ⟨rfl, by repeat (first | with_reducible assumption | with_reducible exact G.out | with_reducible exact Grw.rfl' _ | with_reducible refine Grw.alloc ?_ _ | with_reducible refine Grw.drew ?_ | with_reducible refine Grw.drewN ?_ _ | with_reducible refine Grw.set ?_ (by simp [go_sem]) _)⟩
set_option maxHeartbeats 2000000 in
set_option maxRecDepth 100000 in
theorem rstep_n4 (s u n m : Int) (w : World) (h : gd n s u = true) (_ : m = m) (hs : (s == 3) = false) :
    Calls Tryz.prog 35 #[.int .i64 n, .agg #[.int .i64 s, .int .i64 u], .int .i64 4] w fun e w' => e = .returned (rv 0 0 false) ∧ Grw w w' := by
  have C := Lib.hid (fun w => rgood_is n s u true w h)
  obtain ⟨t1, t2⟩ := two_tri w (.int .i64 s) (.int .i64 u) (.int .i64 0) (.int .i64 0) (.bool false) 48 85
  have T1 := Lib.hid t1
  have T2 := Lib.hid t2
  have GG := Lib.hid (((Grw.rfl' w).alloc (.cells #[.int .i64 s, .int .i64 u] 48)).alloc (.cells #[.int .i64 0, .int .i64 0, .bool false] 85))
  clear h t1 t2
  go_enter Tryz.func35, Tryz.ntmps35
  go_wp2_with fail
  refine (C.out _).mono ?_
  rintro _ w1 ⟨rfl, hw⟩
  have G := Lib.hid (GG.out.trans hw)
  have u1 := T1.out.later hw (by simp [go_sem])
  have u2 := T2.out.later hw (by simp [go_sem])
  have c0 := u1.c0
  have c1 := u1.c1
  have d0 := u2.c0
  have d1 := u2.c1
  have d2 := u2.c2
  have f0 := u2.f0
  have f1 := u2.f1
  have f2 := u2.f2
  clear hw u1 u2
  go_wp2_with fail
  exact bodyPost_ret (v := .agg #[.int .i64 0, .int .i64 0, .bool false]) (by simp [results, Tryz.results35, go_sem, d0, d1, d2]) rfl ⟨rfl, by repeat (first | with_reducible assumption | with_reducible exact G.out | with_reducible exact Grw.rfl' _ | with_reducible refine Grw.alloc ?_ _ | with_reducible refine Grw.drew ?_ | with_reducible refine Grw.drewN ?_ _ | with_reducible refine Grw.set ?_ (by simp [go_sem]) _)⟩
set_option maxHeartbeats 2000000 in
set_option maxRecDepth 100000 in
theorem rstep_n5 (s u k n m : Int) (w : World) (h : gd n s u = true) (_ : m = m) (k1 : (k == 1) = false) (k2 : (k == 2) = false) (k3 : (k == 3) = false) (k4 : (k == 4) = false) :
    Calls Tryz.prog 35 #[.int .i64 n, .agg #[.int .i64 s, .int .i64 u], .int .i64 k] w fun e w' => e = .returned (rv 0 0 false) ∧ Grw w w' := by
  have C := Lib.hid (fun w => rgood_is n s u true w h)
  obtain ⟨t1, t2⟩ := two_tri w (.int .i64 s) (.int .i64 u) (.int .i64 0) (.int .i64 0) (.bool false) 48 85
  have T1 := Lib.hid t1
  have T2 := Lib.hid t2
  have GG := Lib.hid (((Grw.rfl' w).alloc (.cells #[.int .i64 s, .int .i64 u] 48)).alloc (.cells #[.int .i64 0, .int .i64 0, .bool false] 85))
  clear h t1 t2
  go_enter Tryz.func35, Tryz.ntmps35
  go_wp2_with fail
  refine (C.out _).mono ?_
  rintro _ w1 ⟨rfl, hw⟩
  have G := Lib.hid (GG.out.trans hw)
  have u1 := T1.out.later hw (by simp [go_sem])
  have u2 := T2.out.later hw (by simp [go_sem])
  have c0 := u1.c0
  have c1 := u1.c1
  have d0 := u2.c0
  have d1 := u2.c1
  have d2 := u2.c2
  have f0 := u2.f0
  have f1 := u2.f1
  have f2 := u2.f2
  clear hw u1 u2
  go_wp2_with fail
  exact bodyPost_ret (v := .agg #[.int .i64 0, .int .i64 0, .bool false]) (by simp [results, Tryz.results35, go_sem, d0, d1, d2]) rfl ⟨rfl, by repeat (first | with_reducible assumption | with_reducible exact G.out | with_reducible exact Grw.rfl' _ | with_reducible refine Grw.alloc ?_ _ | with_reducible refine Grw.drew ?_ | with_reducible refine Grw.drewN ?_ _ | with_reducible refine Grw.set ?_ (by simp [go_sem]) _)⟩
theorem rstep_is (n s u k a b : Int) (c : Bool) (w : World) (h : st n s u k = (a, b, c)) :
    Calls Tryz.prog 35 #[.int .i64 n, .agg #[.int .i64 s, .int .i64 u], .int .i64 k] w fun e w' => e = .returned (rv a b c) ∧ Grw w w' := by
  cases hg : gd n s u with
  | false =>
    have h5 : st n s u k = (0, 0, false) := by unfold st; rw [hg]; simp
    rw [h5] at h
    injection h with h1 h
    injection h with h2 h3
    subst h1 h2 h3
    exact rstep_bad s u k n 0 w hg rfl
  | true =>
    have hr := gd_t.1 hg
    by_cases k1 : k = 1
    · subst k1
      by_cases s1 : s = 1
      · subst s1
        have hq : IntKind.i64.wrap (u + 1) = u + 1 := by simp [IntKind.wrap_i64]; omega
        have h5 : st n 1 u 1 = (2, u + 1, true) := by unfold st; rw [hg]; simp
        rw [h5] at h
        injection h with h1 h
        injection h with h2 h3
        subst h1 h2 h3
        exact rstep_1 u n (u + 1) w hg rfl hq
      · have h5 : st n s u 1 = (0, 0, false) := by unfold st; rw [hg]; simp [s1]
        rw [h5] at h
        injection h with h1 h
        injection h with h2 h3
        subst h1 h2 h3
        exact rstep_n1 s u n 0 w hg rfl (tst s1)
    by_cases k2 : k = 2
    · subst k2
      by_cases s1 : s = 2
      · subst s1
        have h5 : st n 2 u 2 = (4, u, true) := by unfold st; rw [hg]; simp
        rw [h5] at h
        injection h with h1 h
        injection h with h2 h3
        subst h1 h2 h3
        exact rstep_2 u n 0 w hg rfl
      · have h5 : st n s u 2 = (0, 0, false) := by unfold st; rw [hg]; simp [s1]
        rw [h5] at h
        injection h with h1 h
        injection h with h2 h3
        subst h1 h2 h3
        exact rstep_n2 s u n 0 w hg rfl (tst s1)
    by_cases k3 : k = 3
    · subst k3
      by_cases s1 : s = 2
      · subst s1
        by_cases hu : u ≤ n
        · have h5 : st n 2 u 3 = (3, u, true) := by unfold st; rw [hg]; simp [hu]
          rw [h5] at h
          injection h with h1 h
          injection h with h2 h3
          subst h1 h2 h3
          exact rstep_3 u n 0 w hg rfl (by simp [hu])
        · have h5 : st n 2 u 3 = (5, u, true) := by unfold st; rw [hg]; simp [hu]
          rw [h5] at h
          injection h with h1 h
          injection h with h2 h3
          subst h1 h2 h3
          exact rstep_4 u n 0 w hg rfl (by simp; omega)
      · have h5 : st n s u 3 = (0, 0, false) := by unfold st; rw [hg]; simp [s1]
        rw [h5] at h
        injection h with h1 h
        injection h with h2 h3
        subst h1 h2 h3
        exact rstep_n3 s u n 0 w hg rfl (tst s1)
    by_cases k4 : k = 4
    · subst k4
      by_cases s1 : s = 3
      · subst s1
        have h5 : st n 3 u 4 = (1, u, true) := by unfold st; rw [hg]; simp
        rw [h5] at h
        injection h with h1 h
        injection h with h2 h3
        subst h1 h2 h3
        exact rstep_5 u n 0 w hg rfl
      · have h5 : st n s u 4 = (0, 0, false) := by unfold st; rw [hg]; simp [s1]
        rw [h5] at h
        injection h with h1 h
        injection h with h2 h3
        subst h1 h2 h3
        exact rstep_n4 s u n 0 w hg rfl (tst s1)
    have h5 : st n s u k = (0, 0, false) := by unfold st; rw [hg]; simp [k1, k2, k3, k4]
    rw [h5] at h
    injection h with h1 h
    injection h with h2 h3
    subst h1 h2 h3
    exact rstep_n5 s u k n 0 w hg rfl (tst k1) (tst k2) (tst k3) (tst k4)
end RE
end Go.Proofs.YtlopijcpnfkcgaaGreat
