/- A set's elements in two orders at once. Nothing of the program is named here. -/
import Derived.Test.YtdbjfebpondbmaaDoorMm
namespace Go.Proofs.YtdbjfebpondbmaaDoor
namespace MK
/-- k times: the one t places on, going round, and the one from the end. -/
def tw (n t : Nat) (f : Nat → Int) : Nat → List Int
  | 0 => []
  | k + 1 => tw n t f k ++ [f ((k + t) % n), f (n - 1 - k)]
theorem tw_len (n t : Nat) (f : Nat → Int) (k : Nat) : (tw n t f k).length = 2 * k := by
  induction k with
  | zero => rfl
  | succ k ih => simp only [tw, List.length_append, ih, List.length_cons, List.length_nil]; omega
theorem mem_tw (n t : Nat) (f : Nat → Int) (k : Nat) (z : Int) : z ∈ tw n t f k ↔ ∃ j, j < k ∧ (z = f ((j + t) % n) ∨ z = f (n - 1 - j)) := by
  induction k with
  | zero => simp [tw]
  | succ k ih =>
    simp only [tw, List.mem_append, ih, List.mem_cons, List.not_mem_nil, or_false]
    constructor
    · rintro (⟨j, h1, h2⟩ | h)
      · exact ⟨j, by omega, h2⟩
      · exact ⟨k, by omega, h⟩
    · rintro ⟨j, h1, h2⟩
      rcases (by omega : j < k ∨ j = k) with h | h
      · exact Or.inl ⟨j, h, h2⟩
      · subst h; exact Or.inr h2
theorem mem_fl (n : Nat) (f : Nat → Int) (z : Int) : z ∈ fl n f ↔ ∃ j, j < n ∧ f j = z := by
  unfold fl; simp [List.mem_map]
theorem tw_all {m n t : Nat} {f : Nat → Int} (hm : m < 2 ^ 64) (h : fl n f = els m) : ofL (tw n t f n) = m :=
  ofL_eq hm _ fun k hk => by
    have hb : m.testBit k = true ↔ ∃ j, j < n ∧ f j = (k : Int) := by
      rw [← mem_fl, h, mem_els, has_nat m k hk]
    rw [hb, mem_tw]
    constructor
    · rintro ⟨j, h1, h2 | h2⟩
      · exact ⟨(j + t) % n, Nat.mod_lt _ (by omega), h2.symm⟩
      · exact ⟨n - 1 - j, by omega, h2.symm⟩
    · rintro ⟨j, h1, h2⟩
      exact ⟨n - 1 - j, by omega, Or.inr (by rw [← h2]; congr 1; omega)⟩
theorem fl_els {m n : Nat} {f : Nat → Int} (h : fl n f = els m) : (∀ j, j < n → has m (f j) = true) ∧ ∀ j, j + 1 < n → f j < f (j + 1) := by
  constructor
  · intro j hj
    rw [← mem_els, ← h, mem_fl]; exact ⟨j, hj, rfl⟩
  · intro j hj
    have := els_sorted m
    rw [← h, List.pairwise_iff_getElem] at this
    have := this j (j + 1) (by rw [fl_len]; omega) (by rw [fl_len]; omega) (by omega)
    rw [fl_get, fl_get] at this; exact this
theorem has_slot {m : Nat} {z : Int} (h : has m z = true) : 0 ≤ z ∧ z < 64 := by
  unfold has at h
  rw [Bool.and_eq_true, decide_eq_true_eq] at h
  exact h.1
theorem els_none {m : Nat} (hm : m < 2 ^ 64) : (els m).length = 0 ↔ m = 0 := by
  constructor
  · intro h
    have e : els m = [] := List.eq_nil_of_length_eq_zero h
    rw [zero_iff hm]
    intro k hk
    rcases hb : m.testBit k with _ | _
    · rfl
    · have : (k : Int) ∈ els m := by rw [mem_els, has_nat m k hk]; exact hb
      rw [e] at this; cases this
  · intro h; subst h; decide
end MK
end Go.Proofs.YtdbjfebpondbmaaDoor
