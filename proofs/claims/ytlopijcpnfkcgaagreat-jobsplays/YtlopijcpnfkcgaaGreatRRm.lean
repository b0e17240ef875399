/- The life of one job: what may be, what follows, how many steps are left, what a row of happenings makes of it. Nothing of the program is named here. -/
import Derived.WalkKit
namespace Go.Proofs.YtlopijcpnfkcgaaGreat
namespace RE
open Go.RowKit

def gd (n s u : Int) : Bool := decide (0 ≤ n ∧ n ≤ 9 ∧ ((s = 1 ∧ 0 ≤ u ∧ u ≤ n) ∨ (s = 2 ∧ 1 ≤ u ∧ u ≤ n + 1) ∨ (s = 3 ∧ 1 ≤ u ∧ u ≤ n) ∨ (s = 4 ∧ 1 ≤ u ∧ u ≤ n + 1) ∨ (s = 5 ∧ u = n + 1)))
theorem gd_t {n s u : Int} : gd n s u = true ↔ 0 ≤ n ∧ n ≤ 9 ∧ ((s = 1 ∧ 0 ≤ u ∧ u ≤ n) ∨ (s = 2 ∧ 1 ≤ u ∧ u ≤ n + 1) ∨ (s = 3 ∧ 1 ≤ u ∧ u ≤ n) ∨ (s = 4 ∧ 1 ≤ u ∧ u ≤ n + 1) ∨ (s = 5 ∧ u = n + 1)) := by simp [gd]

/-- what follows: state, number, and whether it can be. -/
def st (n s u k : Int) : Int × Int × Bool :=
  if gd n s u = false then (0, 0, false)
  else if s = 1 ∧ k = 1 then (2, u + 1, true)
  else if s = 2 ∧ k = 2 then (4, u, true)
  else if s = 2 ∧ k = 3 ∧ u ≤ n then (3, u, true)
  else if s = 2 ∧ k = 3 then (5, u, true)
  else if s = 3 ∧ k = 4 then (1, u, true)
  else (0, 0, false)
def lf (n s u : Int) : Int :=
  if gd n s u = false then 0 else if s = 1 then 3 * (n - u) + 2 else if s = 2 then 3 * (n + 1 - u) + 1 else if s = 3 then 3 * (n - u) + 3 else 0

theorem st_of {n s u k : Int} (h : (st n s u k).2.2 = true) : gd n s u = true ∧
    ((s = 1 ∧ k = 1 ∧ st n s u k = (2, u + 1, true)) ∨ (s = 2 ∧ k = 2 ∧ st n s u k = (4, u, true)) ∨ (s = 2 ∧ k = 3 ∧ u ≤ n ∧ st n s u k = (3, u, true)) ∨
     (s = 2 ∧ k = 3 ∧ ¬ u ≤ n ∧ st n s u k = (5, u, true)) ∨ (s = 3 ∧ k = 4 ∧ st n s u k = (1, u, true))) := by
  revert h
  unfold st
  cases hg : gd n s u with
  | false => simp
  | true =>
    by_cases h1 : s = 1 ∧ k = 1
    · simp [h1]
    · by_cases h2 : s = 2 ∧ k = 2
      · simp [h2]
      · by_cases h3 : s = 2 ∧ k = 3 ∧ u ≤ n
        · simp [h3]
        · by_cases h4 : s = 2 ∧ k = 3
          · have h5 : ¬ u ≤ n := fun e => h3 ⟨h4.1, h4.2, e⟩
            simp [h4, h5]
          · by_cases h5 : s = 3 ∧ k = 4
            · simp [h5]
            · simp [h1, h2, h3, h4, h5]
theorem st_none {n s u k : Int} (h : (st n s u k).2.2 = false) : st n s u k = (0, 0, false) := by
  revert h
  unfold st
  split
  · simp
  · split
    · simp
    · split
      · simp
      · split
        · simp
        · split
          · simp
          · split
            · simp
            · simp
theorem st_good {n s u k : Int} (h : (st n s u k).2.2 = true) : gd n (st n s u k).1 (st n s u k).2.1 = true := by
  obtain ⟨hg, h⟩ := st_of h
  rw [gd_t] at hg ⊢
  rcases h with ⟨h1, h2, e⟩ | ⟨h1, h2, e⟩ | ⟨h1, h2, h3, e⟩ | ⟨h1, h2, h3, e⟩ | ⟨h1, h2, e⟩ <;> rw [e] <;> subst h1 <;> refine ⟨hg.1, hg.2.1, ?_⟩ <;> simp at hg ⊢ <;> omega
theorem lf_of {n s u : Int} (h : gd n s u = true) : lf n s u = if s = 1 then 3 * (n - u) + 2 else if s = 2 then 3 * (n + 1 - u) + 1 else if s = 3 then 3 * (n - u) + 3 else 0 := by
  unfold lf; rw [h]; simp
theorem lf_bad {n s u : Int} (h : gd n s u = false) : lf n s u = 0 := by unfold lf; rw [h]; simp
theorem lf_range (n s u : Int) : 0 ≤ lf n s u ∧ lf n s u ≤ 40 := by
  cases hg : gd n s u with
  | false => rw [lf_bad hg]; omega
  | true =>
    rw [lf_of hg]
    rw [gd_t] at hg
    split
    · omega
    · split
      · omega
      · split
        · omega
        · omega
/-- a step leaves less. -/
theorem lf_less {n s u k : Int} (h : (st n s u k).2.2 = true) : lf n (st n s u k).1 (st n s u k).2.1 < lf n s u := by
  have g := st_good h
  obtain ⟨hg, h⟩ := st_of h
  rw [lf_of g, lf_of hg]
  rw [gd_t] at hg
  rcases h with ⟨h1, h2, e⟩ | ⟨h1, h2, e⟩ | ⟨h1, h2, h3, e⟩ | ⟨h1, h2, h3, e⟩ | ⟨h1, h2, e⟩ <;> subst h1 <;> rw [e] <;> simp <;> omega
/-- what the k-th happening leaves and itself, or nothing. -/
def pot (n s u k : Int) : Int := if (st n s u k).2.2 = true then 1 + lf n (st n s u k).1 (st n s u k).2.1 else 0
theorem pot_le (n s u k : Int) : pot n s u k ≤ lf n s u := by
  unfold pot
  split
  · next h => have := lf_less h; omega
  · exact (lf_range n s u).1
theorem pot_none {n s u k : Int} (h : ¬ (k = 1 ∨ k = 2 ∨ k = 3 ∨ k = 4)) : pot n s u k = 0 := by
  unfold pot
  rw [if_neg]
  intro e
  have := (st_of e).2
  omega
theorem pot_pos {n s u k : Int} (h : (st n s u k).2.2 = true) : 0 < pot n s u k := by
  unfold pot; rw [if_pos h]; have := (lf_range n (st n s u k).1 (st n s u k).2.1).1; omega
/-- the most of what the happenings 1 to 4 leave. -/
theorem pot_most (n s u : Int) : max (max (max (pot n s u 1) (pot n s u 2)) (pot n s u 3)) (pot n s u 4) = lf n s u := by
  have p1 := pot_le n s u 1
  have p2 := pot_le n s u 2
  have p3 := pot_le n s u 3
  have p4 := pot_le n s u 4
  have hr := lf_range n s u
  have q : ∀ k, 0 ≤ pot n s u k := fun k => by
    unfold pot; split
    · have := (lf_range n (st n s u k).1 (st n s u k).2.1).1; omega
    · omega
  have q1 := q 1
  have q2 := q 2
  have q3 := q 3
  have q4 := q 4
  suffices h : pot n s u 1 = lf n s u ∨ pot n s u 2 = lf n s u ∨ pot n s u 3 = lf n s u ∨ pot n s u 4 = lf n s u ∨ lf n s u = 0 by omega
  cases hg : gd n s u with
  | false => right; right; right; right; exact lf_bad hg
  | true =>
    have hg' := gd_t.1 hg
    obtain ⟨h0, h9, hc⟩ := hg'
    rcases hc with h | h | h | h | h
    · left
      have e : st n s u 1 = (2, u + 1, true) := by unfold st; rw [hg]; simp [h.1]
      unfold pot
      rw [e]
      simp only [if_true]
      rw [lf_of hg, lf_of (by rw [gd_t]; omega)]
      simp [h.1]; omega
    · by_cases hu : u ≤ n
      · right; right; left
        have e : st n s u 3 = (3, u, true) := by unfold st; rw [hg]; simp [h.1, hu]
        unfold pot
        rw [e]
        simp only [if_true]
        rw [lf_of hg, lf_of (by rw [gd_t]; omega)]
        simp [h.1]; omega
      · right; right; left
        have e : st n s u 3 = (5, u, true) := by unfold st; rw [hg]; simp [h.1, hu]
        unfold pot
        rw [e]
        simp only [if_true]
        rw [lf_of hg, lf_of (by rw [gd_t]; omega)]
        simp [h.1]; omega
    · right; right; right; left
      have e : st n s u 4 = (1, u, true) := by unfold st; rw [hg]; simp [h.1]
      unfold pot
      rw [e]
      simp only [if_true]
      rw [lf_of hg, lf_of (by rw [gd_t]; omega)]
      simp [h.1]; omega
    · right; right; right; right
      rw [lf_of hg]; simp [h.1]
    · right; right; right; right
      rw [lf_of hg]; simp [h.1]
/-- a row of happenings: state, number, how many were left out. -/
def one (n : Int) (x : Int × Int × Nat) (k : Int) : Int × Int × Nat :=
  if (st n x.1 x.2.1 k).2.2 = true then ((st n x.1 x.2.1 k).1, (st n x.1 x.2.1 k).2.1, x.2.2) else (x.1, x.2.1, x.2.2 + 1)
def rn (n s u : Int) (l : List Int) : Int × Int × Nat :=
  if gd n s u = false then (0, 0, l.length) else l.foldl (one n) (s, u, 0)
theorem rn_out (n : Int) (l : List Int) (x : Int × Int × Nat) : (l.foldl (one n) x).2.2 ≤ x.2.2 + l.length := by
  induction l generalizing x with
  | nil => simp
  | cons a l ih =>
    simp only [List.foldl_cons, List.length_cons]
    have := ih (one n x a)
    have h : (one n x a).2.2 ≤ x.2.2 + 1 := by unfold one; split <;> simp
    omega
theorem fold_next {l : List Int} {k : Nat} (h : k < l.length) (n : Int) (x : Int × Int × Nat) : (l.take (k + 1)).foldl (one n) x = one n ((l.take k).foldl (one n) x) l[k] := by
  rw [List.take_succ_eq_append_getElem h, List.foldl_append]
  rfl
/-- what comes first has come already (a goto would say: a fact about any happening). -/
theorem mostly {n s u : Int} (x : Int × Int × Nat) (k : Int) (h : (st n s u k).2.2 = true) (e : x = (s, u, x.2.2)) : one n x k = ((st n s u k).1, (st n s u k).2.1, x.2.2) := by
  rw [e]; unfold one; simp only; rw [if_pos h]
/-- a job that fails each time. -/
def fl : Nat → List Int
  | 0 => []
  | i + 1 => fl i ++ [1, 3, 4]
theorem fl_len (i : Nat) : (fl i).length = 3 * i := by
  induction i with
  | zero => rfl
  | succ i ih => simp [fl, ih]; omega
theorem st_fetch {n : Int} {i : Nat} (h9 : n ≤ 9) (hi : (i : Int) ≤ n) : st n 1 i 1 = (2, (i : Int) + 1, true) := by
  have hg : gd n 1 i = true := by rw [gd_t]; omega
  unfold st; rw [hg]; simp
theorem st_fail {n : Int} {i : Nat} (h9 : n ≤ 9) (hi : (i : Int) < n) : st n 2 ((i : Int) + 1) 3 = (3, (i : Int) + 1, true) := by
  have hg : gd n 2 ((i : Int) + 1) = true := by rw [gd_t]; omega
  have h1 : (i : Int) + 1 ≤ n := by omega
  unfold st; rw [hg]; simp [h1]
theorem st_dead {n : Int} {i : Nat} (h9 : n ≤ 9) (hi : (i : Int) = n) : st n 2 ((i : Int) + 1) 3 = (5, (i : Int) + 1, true) := by
  have hg : gd n 2 ((i : Int) + 1) = true := by rw [gd_t]; omega
  have h1 : ¬ (i : Int) + 1 ≤ n := by omega
  unfold st; rw [hg]; simp [h1]
theorem st_rest {n : Int} {i : Nat} (h9 : n ≤ 9) (hi : (i : Int) < n) : st n 3 ((i : Int) + 1) 4 = (1, (i : Int) + 1, true) := by
  have hg : gd n 3 ((i : Int) + 1) = true := by rw [gd_t]; omega
  unfold st; rw [hg]; simp
theorem fl_fold {n : Int} (i : Nat) (h9 : n ≤ 9) (hi : (i : Int) ≤ n) : (fl i).foldl (one n) (1, 0, 0) = (1, (i : Int), 0) := by
  induction i with
  | zero => rfl
  | succ i ih =>
    rw [fl, List.foldl_append, ih (by omega)]
    have e1 := st_fetch (i := i) h9 (by omega)
    have e2 := st_fail (i := i) h9 (by omega)
    have e3 := st_rest (i := i) h9 (by omega)
    simp [one, e1, e2, e3]
theorem fl_dead {n : Int} (i : Nat) (h9 : n ≤ 9) (hi : (i : Int) = n) : rn n 1 0 (fl i ++ [1, 3]) = (5, (i : Int) + 1, 0) := by
  have hg : gd n 1 0 = true := by rw [gd_t]; omega
  unfold rn
  rw [hg, List.foldl_append, fl_fold i h9 (by omega)]
  have e1 := st_fetch (i := i) h9 (by omega)
  have e2 := st_dead (i := i) h9 hi
  simp [one, e1, e2]
theorem lf_zero {n : Int} (h0 : 0 ≤ n) (h9 : n ≤ 9) : lf n 1 0 = 3 * n + 2 := by
  rw [lf_of (by rw [gd_t]; omega)]; simp
end RE
end Go.Proofs.YtlopijcpnfkcgaaGreat
