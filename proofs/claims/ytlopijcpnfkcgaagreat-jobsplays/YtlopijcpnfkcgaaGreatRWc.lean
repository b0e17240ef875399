/- The contracts of retry.Good, answer, Step and of the document's Good and Step at this program. -/
import Derived.Test.YtlopijcpnfkcgaaGreatProg
import Derived.Test.YtlopijcpnfkcgaaGreatFt
import Derived.Test.YtlopijcpnfkcgaaGreatRRm
import Derived.Deep.MidRow
import Derived.Deep.RegionHeld3
import Derived.Deep.RegionLaw
import Derived.Laws.Externs
import Derived.Shelf.RegionOpenPlain
import Derived.Lib.SliceRun
namespace Go.Proofs.YtlopijcpnfkcgaaGreat
namespace RE
open Go.RowKit
set_option linter.unusedSimpArgs false

def tv (a b : Int) (c : Bool) : Value := .tuple #[.agg #[.int .i64 a, .int .i64 b], .bool c]
def rv (a b : Int) (c : Bool) : Value := .agg #[.int .i64 a, .int .i64 b, .bool c]
theorem tst {a b : Int} (h : ¬ a = b) : (a == b) = false := by simp [h]

set_option maxHeartbeats 2000000 in
set_option maxRecDepth 100000 in
theorem good_is (n s u : Int) (r : Bool) (w : World) (h : gd n s u = r) :
    Calls Tryz.prog 68 #[.int .i64 n, .agg #[.int .i64 s, .int .i64 u]] w fun e w' => e = .returned (.bool r) ∧ Grw w w' := by
  by_cases a0 : n < 0
  · have a1 : decide (n < 0) = true := by simp [a0]
    have HR : Hid (r = false) := (by rw [← h]; simp [gd]; omega : r = false)
    clear h
    go_enter Tryz.func68, Tryz.ntmps68
    go_wp2_with fail
    go_ret
    exact ⟨by rw [HR.out]; rfl, (Grw.rfl' _).alloc _⟩
  by_cases a9 : 9 < n
  · have a1 : decide (n < 0) = false := by simp; omega
    have a2 : decide (n > 9) = true := by simp; omega
    have HR : Hid (r = false) := (by rw [← h]; simp [gd]; omega : r = false)
    clear h
    go_enter Tryz.func68, Tryz.ntmps68
    go_wp2_with fail
    go_ret
    exact ⟨by rw [HR.out]; rfl, (Grw.rfl' _).alloc _⟩
  have b0 : decide (n < 0) = false := by simp; omega
  have b9 : decide (n > 9) = false := by simp; omega
  obtain ⟨m, hm⟩ : ∃ m, n + 1 = m := ⟨_, rfl⟩
  have q : IntKind.i64.wrap (n + 1) = m := by rw [hm]; simp [IntKind.wrap_i64]; omega
  by_cases s1 : s = 1
  · subst s1
    by_cases l0 : 0 ≤ u
    · by_cases l1 : u ≤ n
      · have HR : Hid (r = true) := (by rw [← h, gd_t]; omega : r = true)
        clear h hm
        go_enter Tryz.func68, Tryz.ntmps68
        go_wp2_with fail
        go_ret
        exact ⟨by rw [HR.out]; rfl, (Grw.rfl' _).alloc _⟩
      · have HR : Hid (r = false) := (by rw [← h]; simp [gd]; omega : r = false)
        clear h hm
        go_enter Tryz.func68, Tryz.ntmps68
        go_wp2_with fail
        go_ret
        exact ⟨by rw [HR.out]; rfl, (Grw.rfl' _).alloc _⟩
    · have HR : Hid (r = false) := (by rw [← h]; simp [gd]; omega : r = false)
      clear h hm
      go_enter Tryz.func68, Tryz.ntmps68
      go_wp2_with fail
      go_ret
      exact ⟨by rw [HR.out]; rfl, (Grw.rfl' _).alloc _⟩
  by_cases s3 : s = 3
  · subst s3
    by_cases l0 : 1 ≤ u
    · by_cases l1 : u ≤ n
      · have HR : Hid (r = true) := (by rw [← h, gd_t]; omega : r = true)
        clear h hm
        go_enter Tryz.func68, Tryz.ntmps68
        go_wp2_with fail
        go_ret
        exact ⟨by rw [HR.out]; rfl, (Grw.rfl' _).alloc _⟩
      · have HR : Hid (r = false) := (by rw [← h]; simp [gd]; omega : r = false)
        clear h hm
        go_enter Tryz.func68, Tryz.ntmps68
        go_wp2_with fail
        go_ret
        exact ⟨by rw [HR.out]; rfl, (Grw.rfl' _).alloc _⟩
    · have HR : Hid (r = false) := (by rw [← h]; simp [gd]; omega : r = false)
      clear h hm
      go_enter Tryz.func68, Tryz.ntmps68
      go_wp2_with fail
      go_ret
      exact ⟨by rw [HR.out]; rfl, (Grw.rfl' _).alloc _⟩
  by_cases s2 : s = 2
  · subst s2
    by_cases l0 : 1 ≤ u
    · by_cases l1 : u ≤ m
      · have HR : Hid (r = true) := (by rw [← h, gd_t]; omega : r = true)
        clear h hm
        go_enter Tryz.func68, Tryz.ntmps68
        go_wp2_with fail
        go_ret
        exact ⟨by rw [HR.out]; rfl, (Grw.rfl' _).alloc _⟩
      · have HR : Hid (r = false) := (by rw [← h]; simp [gd]; omega : r = false)
        clear h hm
        go_enter Tryz.func68, Tryz.ntmps68
        go_wp2_with fail
        go_ret
        exact ⟨by rw [HR.out]; rfl, (Grw.rfl' _).alloc _⟩
    · have HR : Hid (r = false) := (by rw [← h]; simp [gd]; omega : r = false)
      clear h hm
      go_enter Tryz.func68, Tryz.ntmps68
      go_wp2_with fail
      go_ret
      exact ⟨by rw [HR.out]; rfl, (Grw.rfl' _).alloc _⟩
  by_cases s4 : s = 4
  · subst s4
    by_cases l0 : 1 ≤ u
    · by_cases l1 : u ≤ m
      · have HR : Hid (r = true) := (by rw [← h, gd_t]; omega : r = true)
        clear h hm
        go_enter Tryz.func68, Tryz.ntmps68
        go_wp2_with fail
        go_ret
        exact ⟨by rw [HR.out]; rfl, (Grw.rfl' _).alloc _⟩
      · have HR : Hid (r = false) := (by rw [← h]; simp [gd]; omega : r = false)
        clear h hm
        go_enter Tryz.func68, Tryz.ntmps68
        go_wp2_with fail
        go_ret
        exact ⟨by rw [HR.out]; rfl, (Grw.rfl' _).alloc _⟩
    · have HR : Hid (r = false) := (by rw [← h]; simp [gd]; omega : r = false)
      clear h hm
      go_enter Tryz.func68, Tryz.ntmps68
      go_wp2_with fail
      go_ret
      exact ⟨by rw [HR.out]; rfl, (Grw.rfl' _).alloc _⟩
  by_cases s5 : s = 5
  · subst s5
    by_cases l0 : u = m
    · have HR : Hid (r = true) := (by rw [← h, gd_t]; omega : r = true)
      subst l0
      have l1 : (u == u) = true := by simp
      clear h hm
      go_enter Tryz.func68, Tryz.ntmps68
      go_wp2_with fail
      go_ret
      exact ⟨by rw [HR.out]; rfl, (Grw.rfl' _).alloc _⟩
    · have HR : Hid (r = false) := (by rw [← h]; simp [gd]; omega : r = false)
      have l1 : (u == m) = false := tst l0
      clear h hm
      go_enter Tryz.func68, Tryz.ntmps68
      go_wp2_with fail
      go_ret
      exact ⟨by rw [HR.out]; rfl, (Grw.rfl' _).alloc _⟩
  have HR : Hid (r = false) := (by rw [← h]; simp [gd]; omega : r = false)
  have t1 : (s == 1) = false := tst s1
  have t2 : (s == 2) = false := tst s2
  have t3 : (s == 3) = false := tst s3
  have t4 : (s == 4) = false := tst s4
  have t5 : (s == 5) = false := tst s5
  clear h hm
  go_enter Tryz.func68, Tryz.ntmps68
  go_wp2_with fail
  go_ret
  exact ⟨by rw [HR.out]; rfl, (Grw.rfl' _).alloc _⟩
set_option maxHeartbeats 2000000 in
set_option maxRecDepth 100000 in
theorem rgood_is (n s u : Int) (r : Bool) (w : World) (h : gd n s u = r) :
    Calls Tryz.prog 58 #[.int .i64 n, .agg #[.int .i64 s, .int .i64 u]] w fun e w' => e = .returned (.bool r) ∧ Grw w w' := by
  by_cases a0 : n < 0
  · have a1 : decide (n < 0) = true := by simp [a0]
    have HR : Hid (r = false) := (by rw [← h]; simp [gd]; omega : r = false)
    clear h
    go_enter Tryz.func58, Tryz.ntmps58
    go_wp2_with fail
    go_ret
    exact ⟨by rw [HR.out]; rfl, (Grw.rfl' _).alloc _⟩
  by_cases a9 : 9 < n
  · have a1 : decide (n < 0) = false := by simp; omega
    have a2 : decide (n > 9) = true := by simp; omega
    have HR : Hid (r = false) := (by rw [← h]; simp [gd]; omega : r = false)
    clear h
    go_enter Tryz.func58, Tryz.ntmps58
    go_wp2_with fail
    go_ret
    exact ⟨by rw [HR.out]; rfl, (Grw.rfl' _).alloc _⟩
  have b0 : decide (n < 0) = false := by simp; omega
  have b9 : decide (n > 9) = false := by simp; omega
  obtain ⟨m, hm⟩ : ∃ m, n + 1 = m := ⟨_, rfl⟩
  have q : IntKind.i64.wrap (n + 1) = m := by rw [hm]; simp [IntKind.wrap_i64]; omega
  by_cases s1 : s = 1
  · subst s1
    by_cases l0 : 0 ≤ u
    · by_cases l1 : u ≤ n
      · have HR : Hid (r = true) := (by rw [← h, gd_t]; omega : r = true)
        clear h hm
        go_enter Tryz.func58, Tryz.ntmps58
        go_wp2_with fail
        go_ret
        exact ⟨by rw [HR.out]; rfl, (Grw.rfl' _).alloc _⟩
      · have HR : Hid (r = false) := (by rw [← h]; simp [gd]; omega : r = false)
        clear h hm
        go_enter Tryz.func58, Tryz.ntmps58
        go_wp2_with fail
        go_ret
        exact ⟨by rw [HR.out]; rfl, (Grw.rfl' _).alloc _⟩
    · have HR : Hid (r = false) := (by rw [← h]; simp [gd]; omega : r = false)
      clear h hm
      go_enter Tryz.func58, Tryz.ntmps58
      go_wp2_with fail
      go_ret
      exact ⟨by rw [HR.out]; rfl, (Grw.rfl' _).alloc _⟩
  by_cases s3 : s = 3
  · subst s3
    by_cases l0 : 1 ≤ u
    · by_cases l1 : u ≤ n
      · have HR : Hid (r = true) := (by rw [← h, gd_t]; omega : r = true)
        clear h hm
        go_enter Tryz.func58, Tryz.ntmps58
        go_wp2_with fail
        go_ret
        exact ⟨by rw [HR.out]; rfl, (Grw.rfl' _).alloc _⟩
      · have HR : Hid (r = false) := (by rw [← h]; simp [gd]; omega : r = false)
        clear h hm
        go_enter Tryz.func58, Tryz.ntmps58
        go_wp2_with fail
        go_ret
        exact ⟨by rw [HR.out]; rfl, (Grw.rfl' _).alloc _⟩
    · have HR : Hid (r = false) := (by rw [← h]; simp [gd]; omega : r = false)
      clear h hm
      go_enter Tryz.func58, Tryz.ntmps58
      go_wp2_with fail
      go_ret
      exact ⟨by rw [HR.out]; rfl, (Grw.rfl' _).alloc _⟩
  by_cases s2 : s = 2
  · subst s2
    by_cases l0 : 1 ≤ u
    · by_cases l1 : u ≤ m
      · have HR : Hid (r = true) := (by rw [← h, gd_t]; omega : r = true)
        clear h hm
        go_enter Tryz.func58, Tryz.ntmps58
        go_wp2_with fail
        go_ret
        exact ⟨by rw [HR.out]; rfl, (Grw.rfl' _).alloc _⟩
      · have HR : Hid (r = false) := (by rw [← h]; simp [gd]; omega : r = false)
        clear h hm
        go_enter Tryz.func58, Tryz.ntmps58
        go_wp2_with fail
        go_ret
        exact ⟨by rw [HR.out]; rfl, (Grw.rfl' _).alloc _⟩
    · have HR : Hid (r = false) := (by rw [← h]; simp [gd]; omega : r = false)
      clear h hm
      go_enter Tryz.func58, Tryz.ntmps58
      go_wp2_with fail
      go_ret
      exact ⟨by rw [HR.out]; rfl, (Grw.rfl' _).alloc _⟩
  by_cases s4 : s = 4
  · subst s4
    by_cases l0 : 1 ≤ u
    · by_cases l1 : u ≤ m
      · have HR : Hid (r = true) := (by rw [← h, gd_t]; omega : r = true)
        clear h hm
        go_enter Tryz.func58, Tryz.ntmps58
        go_wp2_with fail
        go_ret
        exact ⟨by rw [HR.out]; rfl, (Grw.rfl' _).alloc _⟩
      · have HR : Hid (r = false) := (by rw [← h]; simp [gd]; omega : r = false)
        clear h hm
        go_enter Tryz.func58, Tryz.ntmps58
        go_wp2_with fail
        go_ret
        exact ⟨by rw [HR.out]; rfl, (Grw.rfl' _).alloc _⟩
    · have HR : Hid (r = false) := (by rw [← h]; simp [gd]; omega : r = false)
      clear h hm
      go_enter Tryz.func58, Tryz.ntmps58
      go_wp2_with fail
      go_ret
      exact ⟨by rw [HR.out]; rfl, (Grw.rfl' _).alloc _⟩
  by_cases s5 : s = 5
  · subst s5
    by_cases l0 : u = m
    · have HR : Hid (r = true) := (by rw [← h, gd_t]; omega : r = true)
      subst l0
      have l1 : (u == u) = true := by simp
      clear h hm
      go_enter Tryz.func58, Tryz.ntmps58
      go_wp2_with fail
      go_ret
      exact ⟨by rw [HR.out]; rfl, (Grw.rfl' _).alloc _⟩
    · have HR : Hid (r = false) := (by rw [← h]; simp [gd]; omega : r = false)
      have l1 : (u == m) = false := tst l0
      clear h hm
      go_enter Tryz.func58, Tryz.ntmps58
      go_wp2_with fail
      go_ret
      exact ⟨by rw [HR.out]; rfl, (Grw.rfl' _).alloc _⟩
  have HR : Hid (r = false) := (by rw [← h]; simp [gd]; omega : r = false)
  have t1 : (s == 1) = false := tst s1
  have t2 : (s == 2) = false := tst s2
  have t3 : (s == 3) = false := tst s3
  have t4 : (s == 4) = false := tst s4
  have t5 : (s == 5) = false := tst s5
  clear h hm
  go_enter Tryz.func58, Tryz.ntmps58
  go_wp2_with fail
  go_ret
  exact ⟨by rw [HR.out]; rfl, (Grw.rfl' _).alloc _⟩
end RE
end Go.Proofs.YtlopijcpnfkcgaaGreat

/- The contracts of retry.answer, Step and of the document's Step at this program. -/
namespace Go.Proofs.YtlopijcpnfkcgaaGreat
namespace RE
open Go.RowKit
set_option linter.unusedSimpArgs false

def an (n u k : Int) : Int × Int × Bool := if k = 2 then (4, u, true) else if k = 3 ∧ n < u then (5, u, true) else if k = 3 then (3, u, true) else (0, 0, false)
set_option maxHeartbeats 2000000 in
set_option maxRecDepth 100000 in
theorem answer_is (n u k a b : Int) (c : Bool) (w : World) (h : an n u k = (a, b, c)) :
    Calls Tryz.prog 69 #[.int .i64 n, .int .i64 u, .int .i64 k] w fun e w' => e = .returned (tv a b c) ∧ Grw w w' := by
  by_cases k2 : k = 2
  · subst k2
    have h5 : an n u 2 = (4, u, true) := by simp [an]
    rw [h5] at h
    injection h with h1 h
    injection h with h2 h3
    subst h1 h2 h3
    clear h5
    go_enter Tryz.func69, Tryz.ntmps69
    go_wp2_with fail
    exact bodyPost_ret (v := .tuple #[.agg #[.int .i64 4, .int .i64 u], .bool true]) (by simp [results, Tryz.results69, go_sem]) rfl ⟨rfl, by repeat (first | with_reducible assumption | with_reducible exact Grw.rfl' _ | with_reducible refine Grw.alloc ?_ _ | with_reducible refine Grw.drew ?_ | with_reducible refine Grw.drewN ?_ _ | with_reducible refine Grw.set ?_ (by simp [go_sem]) _)⟩
  by_cases k3 : k = 3
  · subst k3
    by_cases hu : n < u
    · have h5 : an n u 3 = (5, u, true) := by simp [an, hu]
      rw [h5] at h
      injection h with h1 h
      injection h with h2 h3
      subst h1 h2 h3
      have d : decide (u > n) = true := by simp [hu]
      clear h5
      go_enter Tryz.func69, Tryz.ntmps69
      go_wp2_with fail
      exact bodyPost_ret (v := .tuple #[.agg #[.int .i64 5, .int .i64 u], .bool true]) (by simp [results, Tryz.results69, go_sem]) rfl ⟨rfl, by repeat (first | with_reducible assumption | with_reducible exact Grw.rfl' _ | with_reducible refine Grw.alloc ?_ _ | with_reducible refine Grw.drew ?_ | with_reducible refine Grw.drewN ?_ _ | with_reducible refine Grw.set ?_ (by simp [go_sem]) _)⟩
    · have h5 : an n u 3 = (3, u, true) := by simp [an, hu]
      rw [h5] at h
      injection h with h1 h
      injection h with h2 h3
      subst h1 h2 h3
      have d : decide (u > n) = false := by simp; omega
      clear h5
      go_enter Tryz.func69, Tryz.ntmps69
      go_wp2_with fail
      exact bodyPost_ret (v := .tuple #[.agg #[.int .i64 3, .int .i64 u], .bool true]) (by simp [results, Tryz.results69, go_sem]) rfl ⟨rfl, by repeat (first | with_reducible assumption | with_reducible exact Grw.rfl' _ | with_reducible refine Grw.alloc ?_ _ | with_reducible refine Grw.drew ?_ | with_reducible refine Grw.drewN ?_ _ | with_reducible refine Grw.set ?_ (by simp [go_sem]) _)⟩
  have h5 : an n u k = (0, 0, false) := by simp [an, k2, k3]
  rw [h5] at h
  injection h with h1 h
  injection h with h2 h3
  subst h1 h2 h3
  have t2 : (k == 2) = false := tst k2
  have t3 : (k == 3) = false := tst k3
  clear h5
  go_enter Tryz.func69, Tryz.ntmps69
  go_wp2_with fail
  exact bodyPost_ret (v := .tuple #[.agg #[.int .i64 0, .int .i64 0], .bool false]) (by simp [results, Tryz.results69, go_sem]) rfl ⟨rfl, by repeat (first | with_reducible assumption | with_reducible exact Grw.rfl' _ | with_reducible refine Grw.alloc ?_ _ | with_reducible refine Grw.drew ?_ | with_reducible refine Grw.drewN ?_ _ | with_reducible refine Grw.set ?_ (by simp [go_sem]) _)⟩

end RE
end Go.Proofs.YtlopijcpnfkcgaaGreat

/- The contract of retry.Step at this program. -/
namespace Go.Proofs.YtlopijcpnfkcgaaGreat
namespace RE
open Go.RowKit
set_option linter.unusedSimpArgs false

theorem two_boxes (w : World) (s u a b : Value) (T S : TypeId) : Two ((w.alloc (.cells #[s, u] T)).alloc (.cells #[a, b] S)) w.heap.size s u ∧ Two ((w.alloc (.cells #[s, u] T)).alloc (.cells #[a, b] S)) (w.heap.size + 1) a b := by
  refine ⟨(Two.new w s u T).later ((Grw.rfl' _).alloc _) (by rw [size_new]; omega), ?_⟩
  have := Two.new (w.alloc (.cells #[s, u] T)) a b S
  rw [size_new] at this
  exact this
theorem Grw.of_drew {w x : World} (h : Grw w.drew x) : Grw w x := ((Grw.rfl' w).drew).trans h
set_option maxHeartbeats 2000000 in
set_option maxRecDepth 100000 in
theorem step_bad (s u k n : Int) (w : World) (h : gd n s u = false) :
    Calls Tryz.prog 55 #[.int .i64 n, .agg #[.int .i64 s, .int .i64 u], .int .i64 k] w fun e w' => e = .returned (tv 0 0 false) ∧ Grw w w' := by
  have C := Lib.hid (fun w => good_is n s u false w h)
  obtain ⟨t1, t2⟩ := two_boxes w (.int .i64 s) (.int .i64 u) (.int .i64 0) (.int .i64 0) 48 48
  have T1 := Lib.hid t1
  have T2 := Lib.hid t2
  have GG := Lib.hid (((Grw.rfl' w).alloc (.cells #[.int .i64 s, .int .i64 u] 48)).alloc (.cells #[.int .i64 0, .int .i64 0] 48))
  clear h t1 t2
  go_enter Tryz.func55, Tryz.ntmps55
  go_wp2_with fail
  refine (C.out _).mono ?_
  rintro _ w1 ⟨rfl, hw⟩
  have G := Lib.hid (GG.out.trans hw)
  have u1 := T1.out.later hw (by simp [go_sem])
  have u2 := T2.out.later hw (by simp [go_sem])
  have hz : w.heap.size + 1 < w1.heap.size := by have := Below.size hw; simp [go_sem] at this; omega
  have c0 := u1.c0
  have c1 := u1.c1
  have d0 := u2.c0
  have d1 := u2.c1
  have f0 := u2.f0
  have f1 := u2.f1
  have GA : ∀ o, Grw w1 (w1.alloc o) := fun o => (Grw.rfl' w1).alloc o
  have e0 : ∀ o, (w1.alloc o).cell? ⟨w.heap.size, 0, none⟩ = some (.int .i64 s) := fun o => (GA o).cell c0
  have e1 : ∀ o, (w1.alloc o).cell? ⟨w.heap.size, 1, none⟩ = some (.int .i64 u) := fun o => (GA o).cell c1
  have e2 : ∀ o, (w1.alloc o).cell? ⟨w.heap.size + 1, 0, none⟩ = some (.int .i64 0) := fun o => (GA o).cell d0
  have e3 : ∀ o, (w1.alloc o).cell? ⟨w.heap.size + 1, 1, none⟩ = some (.int .i64 0) := fun o => (GA o).cell d1
  have e4 : ∀ o, (w1.alloc o).frozen? ⟨w.heap.size + 1, 0, none⟩ = false := fun o => by rw [Below.frozen (GA o) hz]; exact f0
  have e5 : ∀ o, (w1.alloc o).frozen? ⟨w.heap.size + 1, 1, none⟩ = false := fun o => by rw [Below.frozen (GA o) hz]; exact f1
  have TN := Lib.hid (fun o => u2.later (GA o) hz)
  have HZ := Lib.hid hz
  clear hw u1 u2 GA hz
  go_wp2_with fail
  exact bodyPost_ret (v := .tuple #[.agg #[.int .i64 0, .int .i64 0], .bool false]) (by simp [results, Tryz.results55, go_sem, d0, d1, e2, e3]) rfl ⟨rfl, by repeat (first | with_reducible assumption | with_reducible exact G.out | with_reducible exact Grw.rfl' _ | with_reducible refine Grw.alloc ?_ _ | with_reducible refine Grw.drew ?_ | with_reducible refine Grw.drewN ?_ _ | with_reducible refine Grw.set ?_ (by simp [go_sem]) _)⟩
set_option maxHeartbeats 2000000 in
set_option maxRecDepth 100000 in
theorem step_1 (u k n m : Int) (w : World) (h : gd n 1 u = true) (hk : (k == 1) = true) (hq : IntKind.i64.wrap (u + 1) = m) :
    Calls Tryz.prog 55 #[.int .i64 n, .agg #[.int .i64 1, .int .i64 u], .int .i64 k] w fun e w' => e = .returned (tv 2 m true) ∧ Grw w w' := by
  have C := Lib.hid (fun w => good_is n 1 u true w h)
  obtain ⟨t1, t2⟩ := two_boxes w (.int .i64 1) (.int .i64 u) (.int .i64 0) (.int .i64 0) 48 48
  have T1 := Lib.hid t1
  have T2 := Lib.hid t2
  have GG := Lib.hid (((Grw.rfl' w).alloc (.cells #[.int .i64 1, .int .i64 u] 48)).alloc (.cells #[.int .i64 0, .int .i64 0] 48))
  clear h t1 t2
  go_enter Tryz.func55, Tryz.ntmps55
  go_wp2_with fail
  refine (C.out _).mono ?_
  rintro _ w1 ⟨rfl, hw⟩
  have G := Lib.hid (GG.out.trans hw)
  have u1 := T1.out.later hw (by simp [go_sem])
  have u2 := T2.out.later hw (by simp [go_sem])
  have hz : w.heap.size + 1 < w1.heap.size := by have := Below.size hw; simp [go_sem] at this; omega
  have c0 := u1.c0
  have c1 := u1.c1
  have d0 := u2.c0
  have d1 := u2.c1
  have f0 := u2.f0
  have f1 := u2.f1
  have GA : ∀ o, Grw w1 (w1.alloc o) := fun o => (Grw.rfl' w1).alloc o
  have e0 : ∀ o, (w1.alloc o).cell? ⟨w.heap.size, 0, none⟩ = some (.int .i64 1) := fun o => (GA o).cell c0
  have e1 : ∀ o, (w1.alloc o).cell? ⟨w.heap.size, 1, none⟩ = some (.int .i64 u) := fun o => (GA o).cell c1
  have e2 : ∀ o, (w1.alloc o).cell? ⟨w.heap.size + 1, 0, none⟩ = some (.int .i64 0) := fun o => (GA o).cell d0
  have e3 : ∀ o, (w1.alloc o).cell? ⟨w.heap.size + 1, 1, none⟩ = some (.int .i64 0) := fun o => (GA o).cell d1
  have e4 : ∀ o, (w1.alloc o).frozen? ⟨w.heap.size + 1, 0, none⟩ = false := fun o => by rw [Below.frozen (GA o) hz]; exact f0
  have e5 : ∀ o, (w1.alloc o).frozen? ⟨w.heap.size + 1, 1, none⟩ = false := fun o => by rw [Below.frozen (GA o) hz]; exact f1
  have TN := Lib.hid (fun o => u2.later (GA o) hz)
  have HZ := Lib.hid hz
  clear hw u1 u2 GA hz
  go_wp2_with fail
  go_region
  go_wp2_with fail
  go_region
  go_wp2_with fail
  exact bodyPost_ret (v := .tuple #[.agg #[.int .i64 2, .int .i64 m], .bool true]) (by simp [results, Tryz.results55, go_sem, d0, d1, e2, e3]) rfl ⟨rfl, by repeat (first | with_reducible assumption | with_reducible exact G.out | with_reducible exact Grw.rfl' _ | with_reducible refine Grw.alloc ?_ _ | with_reducible refine Grw.drew ?_ | with_reducible refine Grw.drewN ?_ _ | with_reducible refine Grw.set ?_ (by simp [go_sem]) _)⟩
set_option maxHeartbeats 2000000 in
set_option maxRecDepth 100000 in
theorem step_1n (u k n m : Int) (w : World) (h : gd n 1 u = true) (hk : (k == 1) = false) (hq : IntKind.i64.wrap (u + 1) = m) :
    Calls Tryz.prog 55 #[.int .i64 n, .agg #[.int .i64 1, .int .i64 u], .int .i64 k] w fun e w' => e = .returned (tv 0 0 false) ∧ Grw w w' := by
  have C := Lib.hid (fun w => good_is n 1 u true w h)
  obtain ⟨t1, t2⟩ := two_boxes w (.int .i64 1) (.int .i64 u) (.int .i64 0) (.int .i64 0) 48 48
  have T1 := Lib.hid t1
  have T2 := Lib.hid t2
  have GG := Lib.hid (((Grw.rfl' w).alloc (.cells #[.int .i64 1, .int .i64 u] 48)).alloc (.cells #[.int .i64 0, .int .i64 0] 48))
  clear h t1 t2
  go_enter Tryz.func55, Tryz.ntmps55
  go_wp2_with fail
  refine (C.out _).mono ?_
  rintro _ w1 ⟨rfl, hw⟩
  have G := Lib.hid (GG.out.trans hw)
  have u1 := T1.out.later hw (by simp [go_sem])
  have u2 := T2.out.later hw (by simp [go_sem])
  have hz : w.heap.size + 1 < w1.heap.size := by have := Below.size hw; simp [go_sem] at this; omega
  have c0 := u1.c0
  have c1 := u1.c1
  have d0 := u2.c0
  have d1 := u2.c1
  have f0 := u2.f0
  have f1 := u2.f1
  have GA : ∀ o, Grw w1 (w1.alloc o) := fun o => (Grw.rfl' w1).alloc o
  have e0 : ∀ o, (w1.alloc o).cell? ⟨w.heap.size, 0, none⟩ = some (.int .i64 1) := fun o => (GA o).cell c0
  have e1 : ∀ o, (w1.alloc o).cell? ⟨w.heap.size, 1, none⟩ = some (.int .i64 u) := fun o => (GA o).cell c1
  have e2 : ∀ o, (w1.alloc o).cell? ⟨w.heap.size + 1, 0, none⟩ = some (.int .i64 0) := fun o => (GA o).cell d0
  have e3 : ∀ o, (w1.alloc o).cell? ⟨w.heap.size + 1, 1, none⟩ = some (.int .i64 0) := fun o => (GA o).cell d1
  have e4 : ∀ o, (w1.alloc o).frozen? ⟨w.heap.size + 1, 0, none⟩ = false := fun o => by rw [Below.frozen (GA o) hz]; exact f0
  have e5 : ∀ o, (w1.alloc o).frozen? ⟨w.heap.size + 1, 1, none⟩ = false := fun o => by rw [Below.frozen (GA o) hz]; exact f1
  have TN := Lib.hid (fun o => u2.later (GA o) hz)
  have HZ := Lib.hid hz
  clear hw u1 u2 GA hz
  go_wp2_with fail
  go_region
  go_wp2_with fail
  go_region
  go_wp2_with fail
  exact bodyPost_ret (v := .tuple #[.agg #[.int .i64 0, .int .i64 0], .bool false]) (by simp [results, Tryz.results55, go_sem, d0, d1, e2, e3]) rfl ⟨rfl, by repeat (first | with_reducible assumption | with_reducible exact G.out | with_reducible exact Grw.rfl' _ | with_reducible refine Grw.alloc ?_ _ | with_reducible refine Grw.drew ?_ | with_reducible refine Grw.drewN ?_ _ | with_reducible refine Grw.set ?_ (by simp [go_sem]) _)⟩
set_option maxHeartbeats 2000000 in
set_option maxRecDepth 100000 in
theorem step_3 (u k n m : Int) (w : World) (h : gd n 3 u = true) (hk : (k == 4) = true) (_ : m = m) :
    Calls Tryz.prog 55 #[.int .i64 n, .agg #[.int .i64 3, .int .i64 u], .int .i64 k] w fun e w' => e = .returned (tv 1 u true) ∧ Grw w w' := by
  have C := Lib.hid (fun w => good_is n 3 u true w h)
  obtain ⟨t1, t2⟩ := two_boxes w (.int .i64 3) (.int .i64 u) (.int .i64 0) (.int .i64 0) 48 48
  have T1 := Lib.hid t1
  have T2 := Lib.hid t2
  have GG := Lib.hid (((Grw.rfl' w).alloc (.cells #[.int .i64 3, .int .i64 u] 48)).alloc (.cells #[.int .i64 0, .int .i64 0] 48))
  clear h t1 t2
  go_enter Tryz.func55, Tryz.ntmps55
  go_wp2_with fail
  refine (C.out _).mono ?_
  rintro _ w1 ⟨rfl, hw⟩
  have G := Lib.hid (GG.out.trans hw)
  have u1 := T1.out.later hw (by simp [go_sem])
  have u2 := T2.out.later hw (by simp [go_sem])
  have hz : w.heap.size + 1 < w1.heap.size := by have := Below.size hw; simp [go_sem] at this; omega
  have c0 := u1.c0
  have c1 := u1.c1
  have d0 := u2.c0
  have d1 := u2.c1
  have f0 := u2.f0
  have f1 := u2.f1
  have GA : ∀ o, Grw w1 (w1.alloc o) := fun o => (Grw.rfl' w1).alloc o
  have e0 : ∀ o, (w1.alloc o).cell? ⟨w.heap.size, 0, none⟩ = some (.int .i64 3) := fun o => (GA o).cell c0
  have e1 : ∀ o, (w1.alloc o).cell? ⟨w.heap.size, 1, none⟩ = some (.int .i64 u) := fun o => (GA o).cell c1
  have e2 : ∀ o, (w1.alloc o).cell? ⟨w.heap.size + 1, 0, none⟩ = some (.int .i64 0) := fun o => (GA o).cell d0
  have e3 : ∀ o, (w1.alloc o).cell? ⟨w.heap.size + 1, 1, none⟩ = some (.int .i64 0) := fun o => (GA o).cell d1
  have e4 : ∀ o, (w1.alloc o).frozen? ⟨w.heap.size + 1, 0, none⟩ = false := fun o => by rw [Below.frozen (GA o) hz]; exact f0
  have e5 : ∀ o, (w1.alloc o).frozen? ⟨w.heap.size + 1, 1, none⟩ = false := fun o => by rw [Below.frozen (GA o) hz]; exact f1
  have TN := Lib.hid (fun o => u2.later (GA o) hz)
  have HZ := Lib.hid hz
  clear hw u1 u2 GA hz
  go_wp2_with fail
  go_region
  go_wp2_with fail
  exact bodyPost_ret (v := .tuple #[.agg #[.int .i64 1, .int .i64 u], .bool true]) (by simp [results, Tryz.results55, go_sem, d0, d1, e2, e3]) rfl ⟨rfl, by repeat (first | with_reducible assumption | with_reducible exact G.out | with_reducible exact Grw.rfl' _ | with_reducible refine Grw.alloc ?_ _ | with_reducible refine Grw.drew ?_ | with_reducible refine Grw.drewN ?_ _ | with_reducible refine Grw.set ?_ (by simp [go_sem]) _)⟩
set_option maxHeartbeats 2000000 in
set_option maxRecDepth 100000 in
theorem step_3n (u k n m : Int) (w : World) (h : gd n 3 u = true) (hk : (k == 4) = false) (_ : m = m) :
    Calls Tryz.prog 55 #[.int .i64 n, .agg #[.int .i64 3, .int .i64 u], .int .i64 k] w fun e w' => e = .returned (tv 0 0 false) ∧ Grw w w' := by
  have C := Lib.hid (fun w => good_is n 3 u true w h)
  obtain ⟨t1, t2⟩ := two_boxes w (.int .i64 3) (.int .i64 u) (.int .i64 0) (.int .i64 0) 48 48
  have T1 := Lib.hid t1
  have T2 := Lib.hid t2
  have GG := Lib.hid (((Grw.rfl' w).alloc (.cells #[.int .i64 3, .int .i64 u] 48)).alloc (.cells #[.int .i64 0, .int .i64 0] 48))
  clear h t1 t2
  go_enter Tryz.func55, Tryz.ntmps55
  go_wp2_with fail
  refine (C.out _).mono ?_
  rintro _ w1 ⟨rfl, hw⟩
  have G := Lib.hid (GG.out.trans hw)
  have u1 := T1.out.later hw (by simp [go_sem])
  have u2 := T2.out.later hw (by simp [go_sem])
  have hz : w.heap.size + 1 < w1.heap.size := by have := Below.size hw; simp [go_sem] at this; omega
  have c0 := u1.c0
  have c1 := u1.c1
  have d0 := u2.c0
  have d1 := u2.c1
  have f0 := u2.f0
  have f1 := u2.f1
  have GA : ∀ o, Grw w1 (w1.alloc o) := fun o => (Grw.rfl' w1).alloc o
  have e0 : ∀ o, (w1.alloc o).cell? ⟨w.heap.size, 0, none⟩ = some (.int .i64 3) := fun o => (GA o).cell c0
  have e1 : ∀ o, (w1.alloc o).cell? ⟨w.heap.size, 1, none⟩ = some (.int .i64 u) := fun o => (GA o).cell c1
  have e2 : ∀ o, (w1.alloc o).cell? ⟨w.heap.size + 1, 0, none⟩ = some (.int .i64 0) := fun o => (GA o).cell d0
  have e3 : ∀ o, (w1.alloc o).cell? ⟨w.heap.size + 1, 1, none⟩ = some (.int .i64 0) := fun o => (GA o).cell d1
  have e4 : ∀ o, (w1.alloc o).frozen? ⟨w.heap.size + 1, 0, none⟩ = false := fun o => by rw [Below.frozen (GA o) hz]; exact f0
  have e5 : ∀ o, (w1.alloc o).frozen? ⟨w.heap.size + 1, 1, none⟩ = false := fun o => by rw [Below.frozen (GA o) hz]; exact f1
  have TN := Lib.hid (fun o => u2.later (GA o) hz)
  have HZ := Lib.hid hz
  clear hw u1 u2 GA hz
  go_wp2_with fail
  go_region
  go_wp2_with fail
  exact bodyPost_ret (v := .tuple #[.agg #[.int .i64 0, .int .i64 0], .bool false]) (by simp [results, Tryz.results55, go_sem, d0, d1, e2, e3]) rfl ⟨rfl, by repeat (first | with_reducible assumption | with_reducible exact G.out | with_reducible exact Grw.rfl' _ | with_reducible refine Grw.alloc ?_ _ | with_reducible refine Grw.drew ?_ | with_reducible refine Grw.drewN ?_ _ | with_reducible refine Grw.set ?_ (by simp [go_sem]) _)⟩
set_option maxHeartbeats 2000000 in
set_option maxRecDepth 100000 in
theorem step_o (s u k n : Int) (w : World) (h : gd n s u = true) (h1 : (s == 1) = false) (h2 : (s == 2) = false) (h3 : (s == 3) = false) :
    Calls Tryz.prog 55 #[.int .i64 n, .agg #[.int .i64 s, .int .i64 u], .int .i64 k] w fun e w' => e = .returned (tv 0 0 false) ∧ Grw w w' := by
  have C := Lib.hid (fun w => good_is n s u true w h)
  obtain ⟨t1, t2⟩ := two_boxes w (.int .i64 s) (.int .i64 u) (.int .i64 0) (.int .i64 0) 48 48
  have T1 := Lib.hid t1
  have T2 := Lib.hid t2
  have GG := Lib.hid (((Grw.rfl' w).alloc (.cells #[.int .i64 s, .int .i64 u] 48)).alloc (.cells #[.int .i64 0, .int .i64 0] 48))
  clear h t1 t2
  go_enter Tryz.func55, Tryz.ntmps55
  go_wp2_with fail
  refine (C.out _).mono ?_
  rintro _ w1 ⟨rfl, hw⟩
  have G := Lib.hid (GG.out.trans hw)
  have u1 := T1.out.later hw (by simp [go_sem])
  have u2 := T2.out.later hw (by simp [go_sem])
  have hz : w.heap.size + 1 < w1.heap.size := by have := Below.size hw; simp [go_sem] at this; omega
  have c0 := u1.c0
  have c1 := u1.c1
  have d0 := u2.c0
  have d1 := u2.c1
  have f0 := u2.f0
  have f1 := u2.f1
  have GA : ∀ o, Grw w1 (w1.alloc o) := fun o => (Grw.rfl' w1).alloc o
  have e0 : ∀ o, (w1.alloc o).cell? ⟨w.heap.size, 0, none⟩ = some (.int .i64 s) := fun o => (GA o).cell c0
  have e1 : ∀ o, (w1.alloc o).cell? ⟨w.heap.size, 1, none⟩ = some (.int .i64 u) := fun o => (GA o).cell c1
  have e2 : ∀ o, (w1.alloc o).cell? ⟨w.heap.size + 1, 0, none⟩ = some (.int .i64 0) := fun o => (GA o).cell d0
  have e3 : ∀ o, (w1.alloc o).cell? ⟨w.heap.size + 1, 1, none⟩ = some (.int .i64 0) := fun o => (GA o).cell d1
  have e4 : ∀ o, (w1.alloc o).frozen? ⟨w.heap.size + 1, 0, none⟩ = false := fun o => by rw [Below.frozen (GA o) hz]; exact f0
  have e5 : ∀ o, (w1.alloc o).frozen? ⟨w.heap.size + 1, 1, none⟩ = false := fun o => by rw [Below.frozen (GA o) hz]; exact f1
  have TN := Lib.hid (fun o => u2.later (GA o) hz)
  have HZ := Lib.hid hz
  clear hw u1 u2 GA hz
  go_wp2_with fail
  go_region
  go_wp2_with fail
  exact bodyPost_ret (v := .tuple #[.agg #[.int .i64 0, .int .i64 0], .bool false]) (by simp [results, Tryz.results55, go_sem, d0, d1, e2, e3]) rfl ⟨rfl, by repeat (first | with_reducible assumption | with_reducible exact G.out | with_reducible exact Grw.rfl' _ | with_reducible refine Grw.alloc ?_ _ | with_reducible refine Grw.drew ?_ | with_reducible refine Grw.drewN ?_ _ | with_reducible refine Grw.set ?_ (by simp [go_sem]) _)⟩
set_option maxHeartbeats 2000000 in
set_option maxRecDepth 100000 in
theorem step_2 (u k n m : Int) (w : World) (h : gd n 2 u = true) (a b : Int) (c : Bool) (A : ∀ w, Calls Tryz.prog 69 #[.int .i64 n, .int .i64 u, .int .i64 k] w fun e w' => e = .returned (tv a b c) ∧ Grw w w') (_ : m = m) :
    Calls Tryz.prog 55 #[.int .i64 n, .agg #[.int .i64 2, .int .i64 u], .int .i64 k] w fun e w' => e = .returned (tv a b c) ∧ Grw w w' := by
  have C := Lib.hid (fun w => good_is n 2 u true w h)
  obtain ⟨t1, t2⟩ := two_boxes w (.int .i64 2) (.int .i64 u) (.int .i64 0) (.int .i64 0) 48 48
  have T1 := Lib.hid t1
  have T2 := Lib.hid t2
  have GG := Lib.hid (((Grw.rfl' w).alloc (.cells #[.int .i64 2, .int .i64 u] 48)).alloc (.cells #[.int .i64 0, .int .i64 0] 48))
  have A := Lib.hid A
  clear h t1 t2
  go_enter Tryz.func55, Tryz.ntmps55
  go_wp2_with fail
  refine (C.out _).mono ?_
  rintro _ w1 ⟨rfl, hw⟩
  have G := Lib.hid (GG.out.trans hw)
  have u1 := T1.out.later hw (by simp [go_sem])
  have u2 := T2.out.later hw (by simp [go_sem])
  have hz : w.heap.size + 1 < w1.heap.size := by have := Below.size hw; simp [go_sem] at this; omega
  have c0 := u1.c0
  have c1 := u1.c1
  have d0 := u2.c0
  have d1 := u2.c1
  have f0 := u2.f0
  have f1 := u2.f1
  have GA : ∀ o, Grw w1 (w1.alloc o) := fun o => (Grw.rfl' w1).alloc o
  have e0 : ∀ o, (w1.alloc o).cell? ⟨w.heap.size, 0, none⟩ = some (.int .i64 2) := fun o => (GA o).cell c0
  have e1 : ∀ o, (w1.alloc o).cell? ⟨w.heap.size, 1, none⟩ = some (.int .i64 u) := fun o => (GA o).cell c1
  have e2 : ∀ o, (w1.alloc o).cell? ⟨w.heap.size + 1, 0, none⟩ = some (.int .i64 0) := fun o => (GA o).cell d0
  have e3 : ∀ o, (w1.alloc o).cell? ⟨w.heap.size + 1, 1, none⟩ = some (.int .i64 0) := fun o => (GA o).cell d1
  have e4 : ∀ o, (w1.alloc o).frozen? ⟨w.heap.size + 1, 0, none⟩ = false := fun o => by rw [Below.frozen (GA o) hz]; exact f0
  have e5 : ∀ o, (w1.alloc o).frozen? ⟨w.heap.size + 1, 1, none⟩ = false := fun o => by rw [Below.frozen (GA o) hz]; exact f1
  have TN := Lib.hid (fun o => u2.later (GA o) hz)
  have HZ := Lib.hid hz
  clear hw u1 u2 GA hz
  go_wp2_with fail
  go_region
  go_wp2_with fail
  refine (A.out _).mono ?_
  rintro _ w2 ⟨rfl, hw⟩
  have u2 := (TN.out (.cells #[.int .i64 1, .int .i64 u] 48)).later (Grw.of_drew hw) (by have := HZ.out; simp [go_sem]; omega)
  have G2 := Lib.hid (((G.out.alloc (.cells #[.int .i64 1, .int .i64 u] 48)).drew).trans hw)
  have g0 := u2.c0
  have g1 := u2.c1
  have g2 := u2.f0
  have g3 := u2.f1
  clear hw u2
  unfold tv
  go_wp2_with fail
  exact bodyPost_ret (v := .tuple #[.agg #[.int .i64 a, .int .i64 b], .bool c]) (by simp [results, Tryz.results55, go_sem, g0, g1]) rfl ⟨rfl, by repeat (first | with_reducible assumption | with_reducible exact G2.out | with_reducible exact Grw.rfl' _ | with_reducible refine Grw.alloc ?_ _ | with_reducible refine Grw.drew ?_ | with_reducible refine Grw.drewN ?_ _ | with_reducible refine Grw.set ?_ (by simp [go_sem]) _)⟩
theorem step_is (n s u k a b : Int) (c : Bool) (w : World) (h : st n s u k = (a, b, c)) :
    Calls Tryz.prog 55 #[.int .i64 n, .agg #[.int .i64 s, .int .i64 u], .int .i64 k] w fun e w' => e = .returned (tv a b c) ∧ Grw w w' := by
  cases hg : gd n s u with
  | false =>
    have h5 : st n s u k = (0, 0, false) := by unfold st; rw [hg]; simp
    rw [h5] at h
    injection h with h1 h
    injection h with h2 h3
    subst h1 h2 h3
    exact step_bad s u k n w hg
  | true =>
    have hr := gd_t.1 hg
    by_cases s1 : s = 1
    · subst s1
      have hq : IntKind.i64.wrap (u + 1) = u + 1 := by simp [IntKind.wrap_i64]; omega
      by_cases k1 : k = 1
      · subst k1
        have h5 : st n 1 u 1 = (2, u + 1, true) := by unfold st; rw [hg]; simp
        rw [h5] at h
        injection h with h1 h
        injection h with h2 h3
        subst h1 h2 h3
        exact step_1 u 1 n (u + 1) w hg (by simp) hq
      · have h5 : st n 1 u k = (0, 0, false) := by unfold st; rw [hg]; simp [k1]
        rw [h5] at h
        injection h with h1 h
        injection h with h2 h3
        subst h1 h2 h3
        exact step_1n u k n (u + 1) w hg (tst k1) hq
    by_cases s3 : s = 3
    · subst s3
      by_cases k1 : k = 4
      · subst k1
        have h5 : st n 3 u 4 = (1, u, true) := by unfold st; rw [hg]; simp
        rw [h5] at h
        injection h with h1 h
        injection h with h2 h3
        subst h1 h2 h3
        exact step_3 u 4 n 0 w hg (by simp) rfl
      · have h5 : st n 3 u k = (0, 0, false) := by unfold st; rw [hg]; simp [k1]
        rw [h5] at h
        injection h with h1 h
        injection h with h2 h3
        subst h1 h2 h3
        exact step_3n u k n 0 w hg (tst k1) rfl
    by_cases s2 : s = 2
    · subst s2
      have h5 : st n 2 u k = an n u k := by
        unfold st an
        rw [hg]
        by_cases k2 : k = 2
        · simp [k2]
        · by_cases k3 : k = 3
          · by_cases hu : u ≤ n
            · have : ¬ n < u := by omega
              simp [k3, hu, this]
            · have : n < u := by omega
              simp [k3, hu, this]
          · simp [k2, k3]
      rw [h5] at h
      exact step_2 u k n 0 w hg a b c (fun w => answer_is n u k a b c w h) rfl
    have h5 : st n s u k = (0, 0, false) := by unfold st; rw [hg]; simp [s1, s2, s3]
    rw [h5] at h
    injection h with h1 h
    injection h with h2 h3
    subst h1 h2 h3
    exact step_o s u k n w hg (tst s1) (tst s2) (tst s3)
end RE
end Go.Proofs.YtlopijcpnfkcgaaGreat
