/- Waiting jobs in memory, and the contracts of turn.Good, limit, Turn, Less, Bound and of the document's at this program. -/
import Derived.Test.YtlopijcpnfkcgaaGreatProg
import Derived.Test.YtlopijcpnfkcgaaGreatFt
import Derived.Test.YtlopijcpnfkcgaaGreatQMa
import Derived.Deep.MidRow
import Derived.Deep.RegionHeld3
import Derived.Deep.RegionLaw
import Derived.Laws.Externs
import Derived.Shelf.RegionOpenPlain
import Derived.Lib.SliceRun
namespace Go.Proofs.YtlopijcpnfkcgaaGreat
namespace QQ
open Go.RowKit
set_option linter.unusedSimpArgs false

def wv (x : Wt) : Value := .agg #[.int .i64 x.id, .int .i64 x.cl, .int .i64 x.ca]

set_option maxRecDepth 100000 in
theorem good_is (i c m : Int) (r : Bool) (w : World) (h : gd ⟨i, c, m⟩ = r) :
    Calls Tryz.prog 119 #[.agg #[.int .i64 i, .int .i64 c, .int .i64 m]] w fun e w' => e = .returned (.bool r) ∧ Grw w w' := by
  unfold gd at h
  simp only at h
  by_cases h1 : 0 ≤ c
  · by_cases h2 : c < 8
    · by_cases h3 : 0 ≤ m
      · by_cases h4 : m ≤ 1099511627776
        · have HR : Hid (r = true) := (by rw [← h]; simp [h1, h2, h3, h4] : r = true)
          clear h
          go_enter Tryz.func119, Tryz.ntmps119
          go_wp2_with fail
          go_ret
          exact ⟨by rw [HR.out]; rfl, (Grw.rfl' _).alloc _⟩
        · have HR : Hid (r = false) := (by rw [← h]; simp [h1, h2, h3, h4] : r = false)
          clear h
          go_enter Tryz.func119, Tryz.ntmps119
          go_wp2_with fail
          go_ret
          exact ⟨by rw [HR.out]; rfl, (Grw.rfl' _).alloc _⟩
      · have HR : Hid (r = false) := (by rw [← h]; simp [h1, h2, h3] : r = false)
        clear h
        go_enter Tryz.func119, Tryz.ntmps119
        go_wp2_with fail
        go_ret
        exact ⟨by rw [HR.out]; rfl, (Grw.rfl' _).alloc _⟩
    · have HR : Hid (r = false) := (by rw [← h]; simp [h1, h2] : r = false)
      clear h
      go_enter Tryz.func119, Tryz.ntmps119
      go_wp2_with fail
      go_ret
      exact ⟨by rw [HR.out]; rfl, (Grw.rfl' _).alloc _⟩
  · have HR : Hid (r = false) := (by rw [← h]; simp [h1] : r = false)
    clear h
    go_enter Tryz.func119, Tryz.ntmps119
    go_wp2_with fail
    go_ret
    exact ⟨by rw [HR.out]; rfl, (Grw.rfl' _).alloc _⟩
set_option maxRecDepth 100000 in
theorem rgood_is (i c m : Int) (r : Bool) (w : World) (h : gd ⟨i, c, m⟩ = r) :
    Calls Tryz.prog 87 #[.agg #[.int .i64 i, .int .i64 c, .int .i64 m]] w fun e w' => e = .returned (.bool r) ∧ Grw w w' := by
  unfold gd at h
  simp only at h
  by_cases h1 : 0 ≤ c
  · by_cases h2 : c < 8
    · by_cases h3 : 0 ≤ m
      · by_cases h4 : m ≤ 1099511627776
        · have HR : Hid (r = true) := (by rw [← h]; simp [h1, h2, h3, h4] : r = true)
          clear h
          go_enter Tryz.func87, Tryz.ntmps87
          go_wp2_with fail
          go_ret
          exact ⟨by rw [HR.out]; rfl, (Grw.rfl' _).alloc _⟩
        · have HR : Hid (r = false) := (by rw [← h]; simp [h1, h2, h3, h4] : r = false)
          clear h
          go_enter Tryz.func87, Tryz.ntmps87
          go_wp2_with fail
          go_ret
          exact ⟨by rw [HR.out]; rfl, (Grw.rfl' _).alloc _⟩
      · have HR : Hid (r = false) := (by rw [← h]; simp [h1, h2, h3] : r = false)
        clear h
        go_enter Tryz.func87, Tryz.ntmps87
        go_wp2_with fail
        go_ret
        exact ⟨by rw [HR.out]; rfl, (Grw.rfl' _).alloc _⟩
    · have HR : Hid (r = false) := (by rw [← h]; simp [h1, h2] : r = false)
      clear h
      go_enter Tryz.func87, Tryz.ntmps87
      go_wp2_with fail
      go_ret
      exact ⟨by rw [HR.out]; rfl, (Grw.rfl' _).alloc _⟩
  · have HR : Hid (r = false) := (by rw [← h]; simp [h1] : r = false)
    clear h
    go_enter Tryz.func87, Tryz.ntmps87
    go_wp2_with fail
    go_ret
    exact ⟨by rw [HR.out]; rfl, (Grw.rfl' _).alloc _⟩
set_option maxRecDepth 100000 in
theorem limit_is (n lo hi r : Int) (w : World) (h : lim n lo hi = r) (hlh : lo ≤ hi) :
    Calls Tryz.prog 120 #[.int .i64 n, .int .i64 lo, .int .i64 hi] w fun e w' => e = .returned (.int .i64 r) ∧ w = w' := by
  by_cases h1 : n < lo
  · have HR : Hid (r = lo) := (by rw [← h]; unfold lim; omega : r = lo)
    have h2 : ¬ hi < lo := by omega
    clear h
    go_enter Tryz.func120, Tryz.ntmps120
    go_wp2_with fail
    all_goals go_ret
    all_goals first | exact ⟨by rw [HR.out]; rfl, rfl⟩ | omega
  · by_cases h2 : hi < n
    · have HR : Hid (r = hi) := (by rw [← h]; unfold lim; omega : r = hi)
      clear h
      go_enter Tryz.func120, Tryz.ntmps120
      go_wp2_with fail
      all_goals go_ret
      all_goals first | exact ⟨by rw [HR.out]; rfl, rfl⟩ | omega
    · have HR : Hid (r = n) := (by rw [← h]; unfold lim; omega : r = n)
      clear h
      go_enter Tryz.func120, Tryz.ntmps120
      go_wp2_with fail
      all_goals go_ret
      all_goals first | exact ⟨by rw [HR.out]; rfl, rfl⟩ | omega
theorem lim_in {a : Int} (h1 : 1 ≤ a) (h2 : a ≤ 1000) : lim a 1 1000 = a := by unfold lim; omega
theorem lim_out {a : Int} (h : ¬ (1 ≤ a ∧ a ≤ 1000)) : lim a 1 1000 ≠ a := by unfold lim; omega
/-- numbers that an int holds. -/
theorem mul_small {a c : Int} (h1 : 1 ≤ a) (h2 : a ≤ 1000) (h3 : 0 ≤ c) (h4 : c < 8) : 0 ≤ a * c ∧ a * c ≤ 7000 := by
  refine ⟨Int.mul_nonneg (by omega) h3, ?_⟩
  have := Int.mul_le_mul (a := a) (b := c) (c := 1000) (d := 7) h2 (by omega) h3 (by omega)
  omega
set_option maxRecDepth 100000 in
theorem turn_is (a i c m r : Int) (w : World) (h : trn a ⟨i, c, m⟩ = r) :
    Calls Tryz.prog 118 #[.int .i64 a, .agg #[.int .i64 i, .int .i64 c, .int .i64 m]] w fun e w' => e = .returned (.int .i64 r) ∧ Grw w w' := by
  unfold trn at h
  obtain ⟨g, hg⟩ : ∃ g, gd ⟨i, c, m⟩ = g := ⟨_, rfl⟩
  have C := Lib.hid (fun w => good_is i c m g w hg)
  cases g with
  | false =>
    have HR : Hid (r = 0) := (by rw [← h, hg]; simp : r = 0)
    clear h hg
    go_enter Tryz.func118, Tryz.ntmps118
    go_wp2_with fail
    refine (C.out _).mono ?_
    rintro _ w1 ⟨rfl, hw⟩
    have G := Lib.hid hw.two
    clear hw
    go_wp2_with fail
    go_ret
    exact ⟨by rw [HR.out]; rfl, G.out⟩
  | true =>
    by_cases ha : 1 ≤ a ∧ a ≤ 1000
    · have L := Lib.hid (fun w => limit_is a 1 1000 a w (lim_in ha.1 ha.2) (by decide))
      have hgg := hg
      unfold gd at hgg
      simp at hgg
      have hm := mul_small ha.1 ha.2 hgg.1 hgg.2.1
      have HR : Hid (m + a * c = r) := (by rw [← h, hg]; simp [ha] : m + a * c = r)
      have q1 : IntKind.i64.wrap (a * c) = a * c := by simp [IntKind.wrap_i64]; omega
      have q2 : IntKind.i64.wrap (m + a * c) = m + a * c := by simp [IntKind.wrap_i64]; omega
      clear h hg hgg hm ha
      go_enter Tryz.func118, Tryz.ntmps118
      go_wp2_with fail
      refine (C.out _).mono ?_
      rintro _ w1 ⟨rfl, hw⟩
      have G := Lib.hid hw.two
      have c0 := hw.cell (a := ⟨w.heap.size, 0, none⟩) (v := .int .i64 i) (by simp [go_sem])
      have c1 := hw.cell (a := ⟨w.heap.size, 1, none⟩) (v := .int .i64 c) (by simp [go_sem])
      have c2 := hw.cell (a := ⟨w.heap.size, 2, none⟩) (v := .int .i64 m) (by simp [go_sem])
      clear hw
      go_wp2_with fail
      refine (L.out _).mono ?_
      rintro _ w1 ⟨rfl, rfl⟩
      have hne : (a != a) = false := by simp
      go_wp2_with fail
      go_ret
      exact ⟨by rw [← HR.out]; simp [q1, q2], G.out⟩
    · obtain ⟨z, hz⟩ : ∃ z, lim a 1 1000 = z := ⟨_, rfl⟩
      have L := Lib.hid (fun w => limit_is a 1 1000 z w hz (by decide))
      have hne : (a != z) = true := by have := lim_out ha; rw [hz] at this; simp; omega
      have HR : Hid (r = 0) := (by rw [← h, hg]; simp [ha] : r = 0)
      clear h hg ha hz
      go_enter Tryz.func118, Tryz.ntmps118
      go_wp2_with fail
      refine (C.out _).mono ?_
      rintro _ w1 ⟨rfl, hw⟩
      have G := Lib.hid hw.two
      clear hw
      go_wp2_with fail
      refine (L.out _).mono ?_
      rintro _ w1 ⟨rfl, rfl⟩
      go_wp2_with fail
      go_ret
      exact ⟨by rw [HR.out]; rfl, G.out⟩
set_option maxRecDepth 100000 in
theorem rturn_is (a i c m r : Int) (w : World) (h : trn a ⟨i, c, m⟩ = r) :
    Calls Tryz.prog 76 #[.int .i64 a, .agg #[.int .i64 i, .int .i64 c, .int .i64 m]] w fun e w' => e = .returned (.int .i64 r) ∧ Grw w w' := by
  unfold trn at h
  obtain ⟨g, hg⟩ : ∃ g, gd ⟨i, c, m⟩ = g := ⟨_, rfl⟩
  have C := Lib.hid (fun w => rgood_is i c m g w hg)
  cases g with
  | false =>
    have HR : Hid (r = 0) := (by rw [← h, hg]; simp : r = 0)
    clear h hg
    go_enter Tryz.func76, Tryz.ntmps76
    go_wp2_with fail
    refine (C.out _).mono ?_
    rintro _ w1 ⟨rfl, hw⟩
    have G := Lib.hid hw.two
    clear hw
    go_wp2_with fail
    go_ret
    exact ⟨by rw [HR.out]; rfl, G.out⟩
  | true =>
    by_cases h1 : a < 1
    · have HR : Hid (r = 0) := (by rw [← h, hg]; simp; omega : r = 0)
      clear h hg
      go_enter Tryz.func76, Tryz.ntmps76
      go_wp2_with fail
      refine (C.out _).mono ?_
      rintro _ w1 ⟨rfl, hw⟩
      have G := Lib.hid hw.two
      clear hw
      go_wp2_with fail
      go_ret
      exact ⟨by rw [HR.out]; rfl, G.out⟩
    · by_cases h2 : 1000 < a
      · have HR : Hid (r = 0) := (by rw [← h, hg]; simp; omega : r = 0)
        clear h hg
        go_enter Tryz.func76, Tryz.ntmps76
        go_wp2_with fail
        refine (C.out _).mono ?_
        rintro _ w1 ⟨rfl, hw⟩
        have G := Lib.hid hw.two
        clear hw
        go_wp2_with fail
        go_ret
        exact ⟨by rw [HR.out]; rfl, G.out⟩
      · have hgg := hg
        unfold gd at hgg
        simp at hgg
        have hm := mul_small (a := a) (by omega) (by omega) hgg.1 hgg.2.1
        have HR : Hid (m + a * c = r) := (by rw [← h, hg, if_pos ⟨rfl, by omega, by omega⟩] : m + a * c = r)
        have q1 : IntKind.i64.wrap (a * c) = a * c := by simp [IntKind.wrap_i64]; omega
        have q2 : IntKind.i64.wrap (m + a * c) = m + a * c := by simp [IntKind.wrap_i64]; omega
        clear h hg hgg hm
        go_enter Tryz.func76, Tryz.ntmps76
        go_wp2_with fail
        refine (C.out _).mono ?_
        rintro _ w1 ⟨rfl, hw⟩
        have G := Lib.hid hw.two
        have c0 := hw.cell (a := ⟨w.heap.size, 0, none⟩) (v := .int .i64 i) (by simp [go_sem])
        have c1 := hw.cell (a := ⟨w.heap.size, 1, none⟩) (v := .int .i64 c) (by simp [go_sem])
        have c2 := hw.cell (a := ⟨w.heap.size, 2, none⟩) (v := .int .i64 m) (by simp [go_sem])
        clear hw
        go_wp2_with fail
        go_ret
        exact ⟨by rw [← HR.out]; simp [q1, q2], G.out⟩
/-- the result of Less, by the turns. -/
theorem les_is {a : Int} {x y : Wt} {s t : Int} {r : Bool} (h1 : trn a x = s) (h2 : trn a y = t) (h : les a x y = r) : decide (s < t ∨ (s = t ∧ x.id < y.id)) = r := by rw [← h, ← h1, ← h2]; rfl
/-- two boxes of three cells. -/
structure Bx (W : World) (b : Nat) (c0 c1 c2 : Value) : Prop where
  c0 : W.cell? ⟨b, 0, none⟩ = some c0
  c1 : W.cell? ⟨b, 1, none⟩ = some c1
  c2 : W.cell? ⟨b, 2, none⟩ = some c2
theorem Bx.new (w : World) (c0 c1 c2 : Value) (T : TypeId) : Bx (w.alloc (.cells #[c0, c1, c2] T)) w.heap.size c0 c1 c2 := ⟨by simp [go_sem], by simp [go_sem], by simp [go_sem]⟩
theorem Bx.later {w x : World} {b : Nat} {c0 c1 c2 : Value} (t : Bx w b c0 c1 c2) (h : Grw w x) : Bx x b c0 c1 c2 := ⟨h.cell t.c0, h.cell t.c1, h.cell t.c2⟩
set_option maxHeartbeats 1000000 in
set_option maxRecDepth 100000 in
theorem less_is (a i c m j d k : Int) (r : Bool) (w : World) (h : les a ⟨i, c, m⟩ ⟨j, d, k⟩ = r) :
    Calls Tryz.prog 117 #[.int .i64 a, .agg #[.int .i64 i, .int .i64 c, .int .i64 m], .agg #[.int .i64 j, .int .i64 d, .int .i64 k]] w fun e w' => e = .returned (.bool r) ∧ Grw w w' := by
  obtain ⟨s, hs⟩ : ∃ s, trn a ⟨i, c, m⟩ = s := ⟨_, rfl⟩
  obtain ⟨t, ht⟩ : ∃ t, trn a ⟨j, d, k⟩ = t := ⟨_, rfl⟩
  have HL := les_is hs ht h
  have C1 := Lib.hid (fun w => turn_is a i c m s w hs)
  have C2 := Lib.hid (fun w => turn_is a j d k t w ht)
  have B1 := (Bx.new w (.int .i64 i) (.int .i64 c) (.int .i64 m) 77).later ((Grw.rfl' _).alloc (.cells #[.int .i64 j, .int .i64 d, .int .i64 k] 77))
  have B2 := Bx.new (w.alloc (.cells #[.int .i64 i, .int .i64 c, .int .i64 m] 77)) (.int .i64 j) (.int .i64 d) (.int .i64 k) 77
  rw [size_new] at B2
  have G0 := Lib.hid (((Grw.rfl' w).alloc (.cells #[.int .i64 i, .int .i64 c, .int .i64 m] 77)).alloc (.cells #[.int .i64 j, .int .i64 d, .int .i64 k] 77))
  have BB1 := Lib.hid B1
  have BB2 := Lib.hid B2
  simp only at HL
  clear h hs ht
  by_cases he : s = t
  · subst he
    have hne : (s != s) = false := by simp
    by_cases hij : i < j
    · have HR : Hid (r = true) := (by rw [← HL]; simp [hij] : r = true)
      clear HL B1 B2
      go_enter Tryz.func117, Tryz.ntmps117
      go_wp2_with fail
      have m0 := gw_cell BB1.out.c0
      have m1 := gw_cell BB1.out.c1
      have m2 := gw_cell BB1.out.c2
      have m3 := gw_cell BB2.out.c0
      have m4 := gw_cell BB2.out.c1
      have m5 := gw_cell BB2.out.c2
      refine wp_region_grown (by kernel_rfl) (by kernel_rfl) ?_
      repeat (go_big_quiet_step (first | (go_at_call 118; first | with_reducible exact calls_grown (C1.out _) | with_reducible exact calls_grown (C2.out _))))
      refine wpQuiet_nil ?_
      rintro _ ⟨q, rfl⟩
      have G := Lib.hid (G0.out.trans q.h)
      have n0 := q.h.cell BB1.out.c0
      have n1 := q.h.cell BB2.out.c0
      clear m0 m1 m2 m3 m4 m5
      go_wp2_with fail
      go_ret
      exact ⟨by rw [HR.out]; rfl, G.out⟩
    · have HR : Hid (r = false) := (by rw [← HL]; simp; omega : r = false)
      clear HL B1 B2
      have hd : decide (i < j) = false := by simp; omega
      go_enter Tryz.func117, Tryz.ntmps117
      go_wp2_with fail
      have m0 := gw_cell BB1.out.c0
      have m1 := gw_cell BB1.out.c1
      have m2 := gw_cell BB1.out.c2
      have m3 := gw_cell BB2.out.c0
      have m4 := gw_cell BB2.out.c1
      have m5 := gw_cell BB2.out.c2
      refine wp_region_grown (by kernel_rfl) (by kernel_rfl) ?_
      repeat (go_big_quiet_step (first | (go_at_call 118; first | with_reducible exact calls_grown (C1.out _) | with_reducible exact calls_grown (C2.out _))))
      refine wpQuiet_nil ?_
      rintro _ ⟨q, rfl⟩
      have G := Lib.hid (G0.out.trans q.h)
      have n0 := q.h.cell BB1.out.c0
      have n1 := q.h.cell BB2.out.c0
      clear m0 m1 m2 m3 m4 m5
      go_wp2_with fail
      go_ret
      exact ⟨by rw [HR.out]; rfl, G.out⟩
  · have hne : (s != t) = true := by simp [he]
    by_cases hlt : s < t
    · have HR : Hid (r = true) := (by rw [← HL]; simp [hlt] : r = true)
      clear HL B1 B2
      go_enter Tryz.func117, Tryz.ntmps117
      go_wp2_with fail
      have m0 := gw_cell BB1.out.c0
      have m1 := gw_cell BB1.out.c1
      have m2 := gw_cell BB1.out.c2
      have m3 := gw_cell BB2.out.c0
      have m4 := gw_cell BB2.out.c1
      have m5 := gw_cell BB2.out.c2
      refine wp_region_grown (by kernel_rfl) (by kernel_rfl) ?_
      repeat (go_big_quiet_step (first | (go_at_call 118; first | with_reducible exact calls_grown (C1.out _) | with_reducible exact calls_grown (C2.out _))))
      refine wpQuiet_nil ?_
      rintro _ ⟨q, rfl⟩
      have G := Lib.hid (G0.out.trans q.h)
      clear m0 m1 m2 m3 m4 m5
      go_wp2_with fail
      go_ret
      exact ⟨by rw [HR.out]; rfl, G.out⟩
    · have HR : Hid (r = false) := (by rw [← HL]; simp [hlt, he] : r = false)
      clear HL B1 B2
      have hd : decide (s < t) = false := by simp; omega
      go_enter Tryz.func117, Tryz.ntmps117
      go_wp2_with fail
      have m0 := gw_cell BB1.out.c0
      have m1 := gw_cell BB1.out.c1
      have m2 := gw_cell BB1.out.c2
      have m3 := gw_cell BB2.out.c0
      have m4 := gw_cell BB2.out.c1
      have m5 := gw_cell BB2.out.c2
      refine wp_region_grown (by kernel_rfl) (by kernel_rfl) ?_
      repeat (go_big_quiet_step (first | (go_at_call 118; first | with_reducible exact calls_grown (C1.out _) | with_reducible exact calls_grown (C2.out _))))
      refine wpQuiet_nil ?_
      rintro _ ⟨q, rfl⟩
      have G := Lib.hid (G0.out.trans q.h)
      clear m0 m1 m2 m3 m4 m5
      go_wp2_with fail
      go_ret
      exact ⟨by rw [HR.out]; rfl, G.out⟩
set_option maxHeartbeats 1000000 in
set_option maxRecDepth 100000 in
theorem rless_is (a i c m j d k : Int) (r : Bool) (w : World) (h : les a ⟨i, c, m⟩ ⟨j, d, k⟩ = r) :
    Calls Tryz.prog 73 #[.int .i64 a, .agg #[.int .i64 i, .int .i64 c, .int .i64 m], .agg #[.int .i64 j, .int .i64 d, .int .i64 k]] w fun e w' => e = .returned (.bool r) ∧ Grw w w' := by
  obtain ⟨s, hs⟩ : ∃ s, trn a ⟨i, c, m⟩ = s := ⟨_, rfl⟩
  obtain ⟨t, ht⟩ : ∃ t, trn a ⟨j, d, k⟩ = t := ⟨_, rfl⟩
  have HL := les_is hs ht h
  have C1 := Lib.hid (fun w => rturn_is a i c m s w hs)
  have C2 := Lib.hid (fun w => rturn_is a j d k t w ht)
  have B1 := (Bx.new w (.int .i64 i) (.int .i64 c) (.int .i64 m) 77).later ((Grw.rfl' _).alloc (.cells #[.int .i64 j, .int .i64 d, .int .i64 k] 77))
  have B2 := Bx.new (w.alloc (.cells #[.int .i64 i, .int .i64 c, .int .i64 m] 77)) (.int .i64 j) (.int .i64 d) (.int .i64 k) 77
  rw [size_new] at B2
  have G0 := Lib.hid (((Grw.rfl' w).alloc (.cells #[.int .i64 i, .int .i64 c, .int .i64 m] 77)).alloc (.cells #[.int .i64 j, .int .i64 d, .int .i64 k] 77))
  have BB1 := Lib.hid B1
  have BB2 := Lib.hid B2
  simp only at HL
  clear h hs ht
  by_cases hlt : s < t
  · have HR : Hid (r = true) := (by rw [← HL]; simp [hlt] : r = true)
    clear HL B1 B2
    go_enter Tryz.func73, Tryz.ntmps73
    go_wp2_with fail
    have m0 := gw_cell BB1.out.c0
    have m1 := gw_cell BB1.out.c1
    have m2 := gw_cell BB1.out.c2
    have m3 := gw_cell BB2.out.c0
    have m4 := gw_cell BB2.out.c1
    have m5 := gw_cell BB2.out.c2
    refine wp_region_grown (by kernel_rfl) (by kernel_rfl) ?_
    repeat (go_big_quiet_step (first | (go_at_call 76; first | with_reducible exact calls_grown (C1.out _) | with_reducible exact calls_grown (C2.out _))))
    refine wpQuiet_nil ?_
    rintro _ ⟨q, rfl⟩
    have G := Lib.hid (G0.out.trans q.h)
    clear m0 m1 m2 m3 m4 m5
    go_wp2_with fail
    go_ret
    exact ⟨by rw [HR.out]; rfl, G.out⟩
  · by_cases he : s = t
    · subst he
      have hne : (s == s) = true := by simp
      by_cases hij : i < j
      · have HR : Hid (r = true) := (by rw [← HL]; simp [hij] : r = true)
        clear HL B1 B2
        go_enter Tryz.func73, Tryz.ntmps73
        go_wp2_with fail
        have m0 := gw_cell BB1.out.c0
        have m1 := gw_cell BB1.out.c1
        have m2 := gw_cell BB1.out.c2
        have m3 := gw_cell BB2.out.c0
        have m4 := gw_cell BB2.out.c1
        have m5 := gw_cell BB2.out.c2
        refine wp_region_grown (by kernel_rfl) (by kernel_rfl) ?_
        repeat (go_big_quiet_step (first | (go_at_call 76; first | with_reducible exact calls_grown (C1.out _) | with_reducible exact calls_grown (C2.out _))))
        refine wpQuiet_nil ?_
        rintro _ ⟨q, rfl⟩
        have G := Lib.hid (G0.out.trans q.h)
        have n0 := q.h.cell BB1.out.c0
        have n1 := q.h.cell BB2.out.c0
        clear m0 m1 m2 m3 m4 m5
        go_wp2_with fail
        go_ret
        exact ⟨by rw [HR.out]; rfl, G.out⟩
      · have HR : Hid (r = false) := (by rw [← HL]; simp; omega : r = false)
        clear HL B1 B2
        have hd : decide (i < j) = false := by simp; omega
        go_enter Tryz.func73, Tryz.ntmps73
        go_wp2_with fail
        have m0 := gw_cell BB1.out.c0
        have m1 := gw_cell BB1.out.c1
        have m2 := gw_cell BB1.out.c2
        have m3 := gw_cell BB2.out.c0
        have m4 := gw_cell BB2.out.c1
        have m5 := gw_cell BB2.out.c2
        refine wp_region_grown (by kernel_rfl) (by kernel_rfl) ?_
        repeat (go_big_quiet_step (first | (go_at_call 76; first | with_reducible exact calls_grown (C1.out _) | with_reducible exact calls_grown (C2.out _))))
        refine wpQuiet_nil ?_
        rintro _ ⟨q, rfl⟩
        have G := Lib.hid (G0.out.trans q.h)
        have n0 := q.h.cell BB1.out.c0
        have n1 := q.h.cell BB2.out.c0
        clear m0 m1 m2 m3 m4 m5
        go_wp2_with fail
        go_ret
        exact ⟨by rw [HR.out]; rfl, G.out⟩
    · have hne : (s == t) = false := by simp [he]
      have HR : Hid (r = false) := (by rw [← HL]; simp [hlt, he] : r = false)
      clear HL B1 B2
      have hd : decide (s < t) = false := by simp; omega
      go_enter Tryz.func73, Tryz.ntmps73
      go_wp2_with fail
      have m0 := gw_cell BB1.out.c0
      have m1 := gw_cell BB1.out.c1
      have m2 := gw_cell BB1.out.c2
      have m3 := gw_cell BB2.out.c0
      have m4 := gw_cell BB2.out.c1
      have m5 := gw_cell BB2.out.c2
      refine wp_region_grown (by kernel_rfl) (by kernel_rfl) ?_
      repeat (go_big_quiet_step (first | (go_at_call 76; first | with_reducible exact calls_grown (C1.out _) | with_reducible exact calls_grown (C2.out _))))
      refine wpQuiet_nil ?_
      rintro _ ⟨q, rfl⟩
      have G := Lib.hid (G0.out.trans q.h)
      clear m0 m1 m2 m3 m4 m5
      go_wp2_with fail
      go_ret
      exact ⟨by rw [HR.out]; rfl, G.out⟩
end QQ
end Go.Proofs.YtlopijcpnfkcgaaGreat
