/- The contracts of Mod, Less, cmp.Compare, cmp.Or, ring.order at this program. -/
import Derived.Test.YtlihcljjpalapaaDoorRa
import Derived.Deep.RegionHeld3
namespace Go.Proofs.YtlihcljjpalapaaDoor
open Go.RowKit MK
open RG (Du)
set_option linter.unusedSimpArgs false

/-- a timer as a value. -/
def dv (d : Du) : Value := .agg #[.int .i64 d.id, .int .u64 (d.t : Nat)]
theorem mod_any (n : Int) (m : Nat) (w : World) (h0 : 0 < m) (hm : m ≤ 64) :
    Calls Tryd.prog 7 #[.int .i64 n, .int .i64 (m : Int)] w fun e w' => e = .returned (.int .i64 (n % (m : Int))) ∧ w = w' := by
  have hr : n.tmod (m : Int) = n % (m : Int) ∨ (n.tmod (m : Int) < 0 ∧ n.tmod (m : Int) + m = n % (m : Int)) := by
    have ha : ∀ k : Nat, 0 < k → ∀ z : Int, z.tmod (k : Int) = z % (k : Int) ∨ (z.tmod (k : Int) < 0 ∧ z.tmod (k : Int) + k = z % (k : Int)) := by
      intro k hk z
      by_cases hz : 0 ≤ z
      · left; exact Int.tmod_eq_emod_of_nonneg hz
      · rw [Int.tmod_eq_emod]
        have hkz : (k : Int) ≠ 0 := by omega
        have h3 := Int.emod_nonneg z hkz
        have h4 := Int.emod_lt_of_pos z (by omega : (0 : Int) < k)
        by_cases hd : (k : Int) ∣ z
        · left
          rw [if_pos (Or.inr hd)]; omega
        · right
          rw [if_neg (by intro h; rcases h with h | h; exact hz h; exact hd h)]
          have : (k : Int).natAbs = k := by simp
          omega
    exact ha m h0 n
  have h3 := Int.emod_nonneg n (show (m : Int) ≠ 0 by omega)
  have h4 := Int.emod_lt_of_pos n (show (0 : Int) < m by omega)
  have hne : ¬ (m : Int) = 0 := by omega
  have hn1 : ¬ (m : Int) = -1 := by omega
  obtain ⟨r, hre⟩ : ∃ r, n.tmod (m : Int) = r := ⟨_, rfl⟩
  obtain ⟨q, hq⟩ : ∃ q, n % (m : Int) = q := ⟨_, rfl⟩
  rw [hq] at hr h3 h4 ⊢
  rw [hre] at hr
  have HQ := Lib.hid hq
  clear hq
  rcases hr with rfl | ⟨hr1, hr2⟩
  · have hlt : decide (r < 0) = false := by simp; omega
    have hge : ¬ r < 0 := by omega
    go_enter Tryd.func7, Tryd.ntmps7
    go_wp2_with fail
    go_ret
    exact ⟨rfl, rfl⟩
  · have HR := Lib.hid hr2
    clear h4
    have hw : wrap64 (r + (m : Int)) = r + (m : Int) := by unfold wrap64; omega
    go_enter Tryd.func7, Tryd.ntmps7
    go_wp2_with fail
    go_ret
    exact ⟨by rw [← HR.out]; rfl, rfl⟩
set_option maxRecDepth 100000 in
theorem less_any (a b : Du) (w : World) :
    Calls Tryd.prog 20 #[dv a, dv b] w fun e w' => e = .returned (.bool (RG.less a b)) ∧ Grw w w' := by
  obtain ⟨ai, a2⟩ := a
  obtain ⟨bi, b2⟩ := b
  obtain ⟨r, hr⟩ : ∃ r, RG.less ⟨ai, a2⟩ ⟨bi, b2⟩ = r := ⟨_, rfl⟩
  rw [hr]
  unfold RG.less at hr
  simp only at hr
  unfold dv
  by_cases h1 : a2 < b2
  · have hlt : (a2 : Int) < (b2 : Int) := by omega
    have HR : Hid (r = true) := (by rw [← hr]; simp [h1] : r = true)
    clear hr
    go_enter Tryd.func20, Tryd.ntmps20
    go_wp2_with fail
    go_ret
    exact ⟨by rw [HR.out]; rfl, ((Grw.rfl' _).alloc _).alloc _⟩
  · have hlt : ¬ (a2 : Int) < (b2 : Int) := by omega
    by_cases h2 : a2 = b2
    · have he : ((a2 : Int) == (b2 : Int)) = true := by simp [h2]
      by_cases h3 : ai < bi
      · have HR : Hid (r = true) := (by rw [← hr]; simp [h2, h3] : r = true)
        clear hr h2
        go_enter Tryd.func20, Tryd.ntmps20
        go_wp2_with fail
        go_ret
        exact ⟨by rw [HR.out]; rfl, ((Grw.rfl' _).alloc _).alloc _⟩
      · have HR : Hid (r = false) := (by rw [← hr]; simp [h2, h3] : r = false)
        clear hr h2
        go_enter Tryd.func20, Tryd.ntmps20
        go_wp2_with fail
        go_ret
        exact ⟨by rw [HR.out]; rfl, ((Grw.rfl' _).alloc _).alloc _⟩
    · have he : ((a2 : Int) == (b2 : Int)) = false := by simp; omega
      have HR : Hid (r = false) := (by rw [← hr]; simp [h1, h2] : r = false)
      clear hr h2
      go_enter Tryd.func20, Tryd.ntmps20
      go_wp2_with fail
      go_ret
      exact ⟨by rw [HR.out]; rfl, ((Grw.rfl' _).alloc _).alloc _⟩
/-- compare. -/
def cmp (a b : Int) : Int := if a < b then -1 else if b < a then 1 else 0
theorem cmpu_any (a b : Nat) (w : World) : Calls Tryd.prog 36 #[.int .u64 a, .int .u64 b] w fun e w' => e = .returned (.int .i64 (cmp a b)) ∧ w = w' := by
  obtain ⟨r, hr⟩ : ∃ r, cmp a b = r := ⟨_, rfl⟩
  rw [hr]
  unfold cmp at hr
  by_cases h1 : (a : Int) < (b : Int)
  · have HR : Hid (r = -1) := (by rw [← hr]; simp [h1] : r = -1)
    clear hr
    go_enter Tryd.func36, Tryd.ntmps36
    go_wp2
    go_ret
    exact ⟨by rw [HR.out]; rfl, rfl⟩
  · by_cases h2 : (b : Int) < (a : Int)
    · have HR : Hid (r = 1) := (by rw [← hr]; simp [h1, h2] : r = 1)
      clear hr
      go_enter Tryd.func36, Tryd.ntmps36
      go_wp2
      go_ret
      exact ⟨by rw [HR.out]; rfl, rfl⟩
    · have HR : Hid (r = 0) := (by rw [← hr]; simp [h1, h2] : r = 0)
      clear hr
      go_enter Tryd.func36, Tryd.ntmps36
      go_wp2
      go_ret
      exact ⟨by rw [HR.out]; rfl, rfl⟩
theorem cmpi_any (a b : Int) (w : World) : Calls Tryd.prog 37 #[.int .i64 a, .int .i64 b] w fun e w' => e = .returned (.int .i64 (cmp a b)) ∧ w = w' := by
  obtain ⟨r, hr⟩ : ∃ r, cmp a b = r := ⟨_, rfl⟩
  rw [hr]
  unfold cmp at hr
  by_cases h1 : a < b
  · have HR : Hid (r = -1) := (by rw [← hr]; simp [h1] : r = -1)
    clear hr
    go_enter Tryd.func37, Tryd.ntmps37
    go_wp2
    go_ret
    exact ⟨by rw [HR.out]; rfl, rfl⟩
  · by_cases h2 : b < a
    · have HR : Hid (r = 1) := (by rw [← hr]; simp [h1, h2] : r = 1)
      clear hr
      go_enter Tryd.func37, Tryd.ntmps37
      go_wp2
      go_ret
      exact ⟨by rw [HR.out]; rfl, rfl⟩
    · have HR : Hid (r = 0) := (by rw [← hr]; simp [h1, h2] : r = 0)
      clear hr
      go_enter Tryd.func37, Tryd.ntmps37
      go_wp2
      go_ret
      exact ⟨by rw [HR.out]; rfl, rfl⟩
/-- the first that is not zero. -/
def or2 (x y : Int) : Int := if x = 0 then y else x
theorem or_any (x y : Int) (g : Nat) (w : World) (c0 : w.cell? ⟨g, 0, none⟩ = some (.int .i64 x)) (c1 : w.cell? ⟨g, 1, none⟩ = some (.int .i64 y)) :
    Calls Tryd.prog 35 #[.slice (some ⟨g, 0, none⟩) 2 2] w fun e w' => e = .returned (.int .i64 (or2 x y)) ∧ w = w' := by
  obtain ⟨r, hr⟩ : ∃ r, or2 x y = r := ⟨_, rfl⟩
  rw [hr]
  unfold or2 at hr
  by_cases h1 : x = 0
  · rw [if_pos h1] at hr
    subst h1
    by_cases h2 : y = 0
    · subst h2
      subst hr
      go_enter Tryd.func35, Tryd.ntmps35
      go_wp2_with fail
      refine wp_loop_rounds 3 ?_
      rw [rounds_succ]
      go_wp2_with fail
      rw [rounds_succ]
      go_wp2_with fail
      rw [rounds_succ]
      go_wp2_with fail
      go_ret
      exact ⟨rfl, rfl⟩
    · have h3 : (y != 0) = true := by simp [h2]
      have HR := Lib.hid hr
      clear hr h2
      go_enter Tryd.func35, Tryd.ntmps35
      go_wp2_with fail
      refine wp_loop_rounds 2 ?_
      rw [rounds_succ]
      go_wp2_with fail
      rw [rounds_succ]
      go_wp2_with fail
      go_ret
      exact ⟨by rw [← HR.out]; rfl, rfl⟩
  · rw [if_neg h1] at hr
    have h3 : (x != 0) = true := by simp [h1]
    have HR := Lib.hid hr
    clear hr h1
    go_enter Tryd.func35, Tryd.ntmps35
    go_wp2_with fail
    refine wp_loop_rounds 1 ?_
    rw [rounds_succ]
    go_wp2_with fail
    go_ret
    exact ⟨by rw [← HR.out]; rfl, rfl⟩
/-- the order of two timers. -/
def ord (a b : Du) : Int := or2 (cmp a.t b.t) (cmp a.id b.id)
theorem ord_neg (a b : Du) : decide (ord a b < 0) = RG.less a b := by
  rw [Bool.eq_iff_iff, RG.less_iff, decide_eq_true_eq]
  unfold ord or2 cmp
  by_cases h1 : a.t < b.t
  · simp [h1]
  · by_cases h2 : b.t < a.t
    · have e : ¬ a.t = b.t := by omega
      simp [h1, h2, e]
    · have e : a.t = b.t := by omega
      simp only [e, Nat.lt_irrefl, Int.lt_irrefl, if_false, if_true, false_or, true_and]
      split
      · simp; assumption
      · split <;> simp_all
theorem cmpu_is (a b : Nat) (c : Int) (h : cmp a b = c) (w : World) : Calls Tryd.prog 36 #[.int .u64 a, .int .u64 b] w fun e w' => e = .returned (.int .i64 c) ∧ w = w' := by rw [← h]; exact cmpu_any a b w
theorem cmpi_is (a b : Int) (c : Int) (h : cmp a b = c) (w : World) : Calls Tryd.prog 37 #[.int .i64 a, .int .i64 b] w fun e w' => e = .returned (.int .i64 c) ∧ w = w' := by rw [← h]; exact cmpi_any a b w
theorem or_is (x y z : Int) (h : or2 x y = z) (g : Nat) (w : World) (c0 : w.cell? ⟨g, 0, none⟩ = some (.int .i64 x)) (c1 : w.cell? ⟨g, 1, none⟩ = some (.int .i64 y)) :
    Calls Tryd.prog 35 #[.slice (some ⟨g, 0, none⟩) 2 2] w fun e w' => e = .returned (.int .i64 z) ∧ w = w' := by rw [← h]; exact or_any x y g w c0 c1
set_option maxHeartbeats 1000000 in
set_option maxRecDepth 100000 in
theorem order_any (a b : Du) (w : World) :
    Calls Tryd.prog 25 #[dv a, dv b] w fun e w' => e = .returned (.int .i64 (ord a b)) ∧ Grw w w' := by
  obtain ⟨r, hr⟩ : ∃ r, ord a b = r := ⟨_, rfl⟩
  rw [hr]
  unfold ord at hr
  obtain ⟨ai, a2⟩ := a
  obtain ⟨bi, b2⟩ := b
  simp only at hr
  unfold dv
  simp only
  obtain ⟨x, hx⟩ : ∃ x, cmp a2 b2 = x := ⟨_, rfl⟩
  obtain ⟨y, hy⟩ : ∃ y, cmp ai bi = y := ⟨_, rfl⟩
  rw [hx, hy] at hr
  have C1 := Lib.hid (fun w => cmpu_is a2 b2 x hx w)
  have C2 := Lib.hid (fun w => cmpi_is ai bi y hy w)
  have C3 := Lib.hid (fun g w => or_is x y r hr g w)
  clear hx hy hr
  go_enter Tryd.func25, Tryd.ntmps25
  go_wp2_with fail
  go_region_held3 (fun u => u.cell? ⟨w.heap.size, 0, none⟩ = some (.int .i64 ai) ∧ u.cell? ⟨w.heap.size, 1, none⟩ = some (.int .u64 a2) ∧ u.cell? ⟨w.heap.size + 1, 0, none⟩ = some (.int .i64 bi) ∧ u.cell? ⟨w.heap.size + 1, 1, none⟩ = some (.int .u64 b2)) (go_keep)
    (first | (go_at_call 36; refine (C1.out _).mono ?_; rintro _ w1 ⟨rfl, rfl⟩) | (go_at_call 37; refine (C2.out _).mono ?_; rintro _ w1 ⟨rfl, rfl⟩) | (go_at_call 35; refine (C3.out _ _ (by simp [go_sem]) (by simp [go_sem])).mono ?_; rintro _ w1 ⟨rfl, rfl⟩))
  go_wp2_with fail
  go_ret
  exact ⟨rfl, ((((Grw.rfl' _).alloc _).alloc _).drew).alloc _⟩
end Go.Proofs.YtlihcljjpalapaaDoor
