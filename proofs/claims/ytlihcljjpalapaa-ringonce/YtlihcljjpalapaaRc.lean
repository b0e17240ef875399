/- The contracts of Mod, Less, cmp.Compare, cmp.Or, ring.order at this program. -/
import Derived.Test.YtlihcljjpalapaaRa
import Derived.Deep.RegionHeld3
namespace Go.Proofs.Ytlihcljjpalapaa
open Go.RowKit MK
open RG (Du)
set_option linter.unusedSimpArgs false

/-- a timer as a value. -/
def dv (d : Du) : Value := .agg #[.int .i64 d.id, .int .u64 (d.t : Nat)]
/-- compare. -/
def cmp (a b : Int) : Int := if a < b then -1 else if b < a then 1 else 0
theorem cmpu_any (a b : Nat) (w : World) : Calls Try.prog 23 #[.int .u64 a, .int .u64 b] w fun e w' => e = .returned (.int .i64 (cmp a b)) ∧ w = w' := by
  obtain ⟨r, hr⟩ : ∃ r, cmp a b = r := ⟨_, rfl⟩
  rw [hr]
  unfold cmp at hr
  by_cases h1 : (a : Int) < (b : Int)
  · have HR : Hid (r = -1) := (by rw [← hr]; simp [h1] : r = -1)
    clear hr
    go_enter Try.func23, Try.ntmps23
    go_wp2
    go_ret
    exact ⟨by rw [HR.out]; rfl, rfl⟩
  · by_cases h2 : (b : Int) < (a : Int)
    · have HR : Hid (r = 1) := (by rw [← hr]; simp [h1, h2] : r = 1)
      clear hr
      go_enter Try.func23, Try.ntmps23
      go_wp2
      go_ret
      exact ⟨by rw [HR.out]; rfl, rfl⟩
    · have HR : Hid (r = 0) := (by rw [← hr]; simp [h1, h2] : r = 0)
      clear hr
      go_enter Try.func23, Try.ntmps23
      go_wp2
      go_ret
      exact ⟨by rw [HR.out]; rfl, rfl⟩
theorem cmpi_any (a b : Int) (w : World) : Calls Try.prog 24 #[.int .i64 a, .int .i64 b] w fun e w' => e = .returned (.int .i64 (cmp a b)) ∧ w = w' := by
  obtain ⟨r, hr⟩ : ∃ r, cmp a b = r := ⟨_, rfl⟩
  rw [hr]
  unfold cmp at hr
  by_cases h1 : a < b
  · have HR : Hid (r = -1) := (by rw [← hr]; simp [h1] : r = -1)
    clear hr
    go_enter Try.func24, Try.ntmps24
    go_wp2
    go_ret
    exact ⟨by rw [HR.out]; rfl, rfl⟩
  · by_cases h2 : b < a
    · have HR : Hid (r = 1) := (by rw [← hr]; simp [h1, h2] : r = 1)
      clear hr
      go_enter Try.func24, Try.ntmps24
      go_wp2
      go_ret
      exact ⟨by rw [HR.out]; rfl, rfl⟩
    · have HR : Hid (r = 0) := (by rw [← hr]; simp [h1, h2] : r = 0)
      clear hr
      go_enter Try.func24, Try.ntmps24
      go_wp2
      go_ret
      exact ⟨by rw [HR.out]; rfl, rfl⟩
/-- the first that is not zero. -/
def or2 (x y : Int) : Int := if x = 0 then y else x
theorem or_any (x y : Int) (g : Nat) (w : World) (c0 : w.cell? ⟨g, 0, none⟩ = some (.int .i64 x)) (c1 : w.cell? ⟨g, 1, none⟩ = some (.int .i64 y)) :
    Calls Try.prog 22 #[.slice (some ⟨g, 0, none⟩) 2 2] w fun e w' => e = .returned (.int .i64 (or2 x y)) ∧ w = w' := by
  obtain ⟨r, hr⟩ : ∃ r, or2 x y = r := ⟨_, rfl⟩
  rw [hr]
  unfold or2 at hr
  by_cases h1 : x = 0
  · rw [if_pos h1] at hr
    subst h1
    by_cases h2 : y = 0
    · subst h2
      subst hr
      go_enter Try.func22, Try.ntmps22
      go_wp2_with fail
      refine wp_loop_rounds 3 ?_
      rw [rounds_succ]
      go_wp2_with fail
      rw [rounds_succ]
      go_wp2_with fail
      rw [rounds_succ]
      go_wp2_with fail
      go_ret
      exact ⟨rfl, rfl⟩
    · have h3 : (y != 0) = true := by simp [h2]
      have HR := Lib.hid hr
      clear hr h2
      go_enter Try.func22, Try.ntmps22
      go_wp2_with fail
      refine wp_loop_rounds 2 ?_
      rw [rounds_succ]
      go_wp2_with fail
      rw [rounds_succ]
      go_wp2_with fail
      go_ret
      exact ⟨by rw [← HR.out]; rfl, rfl⟩
  · rw [if_neg h1] at hr
    have h3 : (x != 0) = true := by simp [h1]
    have HR := Lib.hid hr
    clear hr h1
    go_enter Try.func22, Try.ntmps22
    go_wp2_with fail
    refine wp_loop_rounds 1 ?_
    rw [rounds_succ]
    go_wp2_with fail
    go_ret
    exact ⟨by rw [← HR.out]; rfl, rfl⟩
/-- the order of two timers. -/
def ord (a b : Du) : Int := or2 (cmp a.t b.t) (cmp a.id b.id)
theorem ord_neg (a b : Du) : decide (ord a b < 0) = RG.less a b := by
  rw [Bool.eq_iff_iff, RG.less_iff, decide_eq_true_eq]
  unfold ord or2 cmp
  by_cases h1 : a.t < b.t
  · simp [h1]
  · by_cases h2 : b.t < a.t
    · have e : ¬ a.t = b.t := by omega
      simp [h1, h2, e]
    · have e : a.t = b.t := by omega
      simp only [e, Nat.lt_irrefl, Int.lt_irrefl, if_false, if_true, false_or, true_and]
      split
      · simp; assumption
      · split <;> simp_all
theorem cmpu_is (a b : Nat) (c : Int) (h : cmp a b = c) (w : World) : Calls Try.prog 23 #[.int .u64 a, .int .u64 b] w fun e w' => e = .returned (.int .i64 c) ∧ w = w' := by rw [← h]; exact cmpu_any a b w
theorem cmpi_is (a b : Int) (c : Int) (h : cmp a b = c) (w : World) : Calls Try.prog 24 #[.int .i64 a, .int .i64 b] w fun e w' => e = .returned (.int .i64 c) ∧ w = w' := by rw [← h]; exact cmpi_any a b w
theorem or_is (x y z : Int) (h : or2 x y = z) (g : Nat) (w : World) (c0 : w.cell? ⟨g, 0, none⟩ = some (.int .i64 x)) (c1 : w.cell? ⟨g, 1, none⟩ = some (.int .i64 y)) :
    Calls Try.prog 22 #[.slice (some ⟨g, 0, none⟩) 2 2] w fun e w' => e = .returned (.int .i64 z) ∧ w = w' := by rw [← h]; exact or_any x y g w c0 c1
set_option maxHeartbeats 1000000 in
set_option maxRecDepth 100000 in
theorem order_any (a b : Du) (w : World) :
    Calls Try.prog 15 #[dv a, dv b] w fun e w' => e = .returned (.int .i64 (ord a b)) ∧ Grw w w' := by
  obtain ⟨r, hr⟩ : ∃ r, ord a b = r := ⟨_, rfl⟩
  rw [hr]
  unfold ord at hr
  obtain ⟨ai, a2⟩ := a
  obtain ⟨bi, b2⟩ := b
  simp only at hr
  unfold dv
  simp only
  obtain ⟨x, hx⟩ : ∃ x, cmp a2 b2 = x := ⟨_, rfl⟩
  obtain ⟨y, hy⟩ : ∃ y, cmp ai bi = y := ⟨_, rfl⟩
  rw [hx, hy] at hr
  have C1 := Lib.hid (fun w => cmpu_is a2 b2 x hx w)
  have C2 := Lib.hid (fun w => cmpi_is ai bi y hy w)
  have C3 := Lib.hid (fun g w => or_is x y r hr g w)
  clear hx hy hr
  go_enter Try.func15, Try.ntmps15
  go_wp2_with fail
  go_region_held3 (fun u => u.cell? ⟨w.heap.size, 0, none⟩ = some (.int .i64 ai) ∧ u.cell? ⟨w.heap.size, 1, none⟩ = some (.int .u64 a2) ∧ u.cell? ⟨w.heap.size + 1, 0, none⟩ = some (.int .i64 bi) ∧ u.cell? ⟨w.heap.size + 1, 1, none⟩ = some (.int .u64 b2)) (go_keep)
    (first | (go_at_call 23; refine (C1.out _).mono ?_; rintro _ w1 ⟨rfl, rfl⟩) | (go_at_call 24; refine (C2.out _).mono ?_; rintro _ w1 ⟨rfl, rfl⟩) | (go_at_call 22; refine (C3.out _ _ (by simp [go_sem]) (by simp [go_sem])).mono ?_; rintro _ w1 ⟨rfl, rfl⟩))
  go_wp2_with fail
  go_ret
  exact ⟨rfl, ((((Grw.rfl' _).alloc _).alloc _).drew).alloc _⟩
end Go.Proofs.Ytlihcljjpalapaa
