/- A heap of jobs in a list: what going up and down does. Nothing of the program is named here. -/
import Derived.Test.YtlopijcpnfkcgaaGreatQMa
namespace Go.Proofs.YtlopijcpnfkcgaaGreat
namespace QQ

def gt (l : List Wt) (i : Nat) : Wt := l.getD i default
theorem gt_at {l : List Wt} {i : Nat} (h : i < l.length) : gt l i = l[i] := by simp [gt, List.getD, h]
/-- two jobs of the line exchanged. -/
def swp (l : List Wt) (i j : Nat) : List Wt := (l.set i (gt l j)).set j (gt l i)
theorem swp_len (l : List Wt) (i j : Nat) : (swp l i j).length = l.length := by simp [swp]
theorem swp_gt {l : List Wt} {i j : Nat} (hi : i < l.length) (hj : j < l.length) (k : Nat) : gt (swp l i j) k = if k = j then gt l i else if k = i then gt l j else gt l k := by
  simp only [gt, List.getD_eq_getElem?_getD, swp, List.getElem?_set, List.length_set]
  by_cases e : j = k
  · subst e; simp [hj]
  · have e' : ¬ k = j := fun c => e c.symm
    simp only [e, e', if_false]
    by_cases e2 : i = k
    · subst e2; simp [hi]
    · have e3 : ¬ k = i := fun c => e2 c.symm
      simp only [e2, e3, if_false]
theorem swp_perm {l : List Wt} {i j : Nat} (hi : i < l.length) (hj : j < l.length) : (swp l i j).Perm l := by
  simp only [swp, gt_at hi, gt_at hj]
  exact List.set_set_perm hi hj
theorem swp_self {l : List Wt} {i : Nat} (hi : i < l.length) : swp l i i = l := by
  simp only [swp, gt_at hi]; simp
/-- none of the first n comes ahead of the one above it. -/
def Hp (a : Int) (l : List Wt) (n : Nat) : Prop := ∀ k, 0 < k → k < n → les a (gt l k) (gt l ((k - 1) / 2)) = false
/-- .. but for the one at j, which may. -/
structure HU (a : Int) (l : List Wt) (n j : Nat) : Prop where
  ok : ∀ k, 0 < k → k < n → k ≠ j → les a (gt l k) (gt l ((k - 1) / 2)) = false
  by' : ∀ k, 0 < k → k < n → (k - 1) / 2 = j → 0 < j → les a (gt l k) (gt l ((j - 1) / 2)) = false
/-- .. but for those below i. -/
structure HD (a : Int) (l : List Wt) (n i0 i : Nat) : Prop where
  ok : ∀ k, 0 < k → k < n → (k - 1) / 2 ≠ i → (k ≠ i ∨ i0 < i) → les a (gt l k) (gt l ((k - 1) / 2)) = false
  by' : ∀ k, 0 < k → k < n → (k - 1) / 2 = i → 0 < i → les a (gt l k) (gt l ((i - 1) / 2)) = false
theorem HU.top {a : Int} {l : List Wt} {n : Nat} (h : HU a l n 0) : Hp a l n := fun k h0 hk => h.ok k h0 hk (by omega)
theorem HU.done {a : Int} {l : List Wt} {n j : Nat} (h : HU a l n j) (e : les a (gt l j) (gt l ((j - 1) / 2)) = false) : Hp a l n := fun k h0 hk => by
  by_cases c : k = j
  · subst c; exact e
  · exact h.ok k h0 hk c
theorem HU.up {a : Int} {l : List Wt} {n j i : Nat} (h : HU a l n j) (hj : j < l.length) (h0 : 0 < j) (hi : (j - 1) / 2 = i) (hjn : j < n) (e : les a (gt l j) (gt l i) = true) : HU a (swp l i j) n i := by
  have hil : i < l.length := by omega
  have S := swp_gt (l := l) (i := i) (j := j) hil hj
  refine ⟨fun k k0 kn hk => ?_, fun k k0 kn hp hi0 => ?_⟩
  · rw [S k, S ((k - 1) / 2)]
    by_cases c : k = j
    · subst c; rw [if_pos rfl, hi, if_neg (by omega), if_pos rfl]; exact les_asym e
    · rw [if_neg c, if_neg hk]
      by_cases c1 : (k - 1) / 2 = j
      · rw [if_pos c1, ← hi]; exact h.by' k k0 kn c1 h0
      · rw [if_neg c1]
        by_cases c2 : (k - 1) / 2 = i
        · rw [if_pos c2]
          exact les_neg (les_asym e) (c2 ▸ h.ok k k0 kn c)
        · rw [if_neg c2]; exact h.ok k k0 kn c
  · rw [S k, S ((i - 1) / 2), if_neg (show ¬ (i - 1) / 2 = j by omega), if_neg (show ¬ (i - 1) / 2 = i by omega)]
    by_cases c : k = j
    · subst c; rw [if_pos rfl]; exact h.ok i (by omega) (by omega) (by omega)
    · rw [if_neg c, if_neg (show ¬ k = i by omega)]
      exact les_neg (h.ok i (by omega) (by omega) (by omega)) (hp ▸ h.ok k k0 kn c)
theorem HD.leaf {a : Int} {l : List Wt} {n i0 i : Nat} (h : HD a l n i0 i) (e : n ≤ 2 * i + 1) (hm : i0 < i) : Hp a l n := fun k h0 hk => h.ok k h0 hk (by omega) (Or.inr hm)
theorem HD.leaf' {a : Int} {l : List Wt} {n i : Nat} (h : HD a l n i i) (e : n ≤ 2 * i + 1) : HU a l n i := ⟨fun k h0 hk hn => h.ok k h0 hk (by omega) (Or.inl hn), h.by'⟩
/-- j is the child of i that comes first. -/
structure Ch (a : Int) (l : List Wt) (n i j : Nat) : Prop where
  lt : j < n
  par : (j - 1) / 2 = i
  pos : 0 < j
  least : ∀ k, 0 < k → k < n → (k - 1) / 2 = i → les a (gt l k) (gt l j) = false
theorem ch_one {a : Int} {l : List Wt} {n i : Nat} (h1 : 2 * i + 1 < n) (h2 : n ≤ 2 * i + 2) : Ch a l n i (2 * i + 1) :=
  ⟨h1, by omega, by omega, fun k h0 hk hp => by obtain rfl : k = 2 * i + 1 := by omega
                                                exact les_irr _ _⟩
theorem ch_left {a : Int} {l : List Wt} {n i : Nat} (h2 : 2 * i + 2 < n) (e : les a (gt l (2 * i + 2)) (gt l (2 * i + 1)) = false) : Ch a l n i (2 * i + 1) :=
  ⟨by omega, by omega, by omega, fun k h0 hk hp => by
    rcases (show k = 2 * i + 1 ∨ k = 2 * i + 2 by omega) with rfl | rfl
    · exact les_irr _ _
    · exact e⟩
theorem ch_right {a : Int} {l : List Wt} {n i : Nat} (h2 : 2 * i + 2 < n) (e : les a (gt l (2 * i + 2)) (gt l (2 * i + 1)) = true) : Ch a l n i (2 * i + 2) :=
  ⟨by omega, by omega, by omega, fun k h0 hk hp => by
    rcases (show k = 2 * i + 1 ∨ k = 2 * i + 2 by omega) with rfl | rfl
    · exact les_asym e
    · exact les_irr _ _⟩
theorem HD.done {a : Int} {l : List Wt} {n i0 i j : Nat} (h : HD a l n i0 i) (c : Ch a l n i j) (e : les a (gt l j) (gt l i) = false) (hm : i0 < i) : Hp a l n := fun k h0 hk => by
  by_cases q : (k - 1) / 2 = i
  · rw [q]; exact les_neg e (c.least k h0 hk q)
  · exact h.ok k h0 hk q (Or.inr hm)
theorem HD.done' {a : Int} {l : List Wt} {n i j : Nat} (h : HD a l n i i) (c : Ch a l n i j) (e : les a (gt l j) (gt l i) = false) : HU a l n i :=
  ⟨fun k h0 hk hn => by
    by_cases q : (k - 1) / 2 = i
    · rw [q]; exact les_neg e (c.least k h0 hk q)
    · exact h.ok k h0 hk q (Or.inl hn), h.by'⟩
theorem HD.down {a : Int} {l : List Wt} {n i0 i j : Nat} (h : HD a l n i0 i) (c : Ch a l n i j) (hn : n ≤ l.length) (h0 : i0 ≤ i) (e : les a (gt l j) (gt l i) = true) : HD a (swp l i j) n i0 j := by
  have hj := c.lt
  have hp := c.par
  have hj0 := c.pos
  have S := swp_gt (l := l) (i := i) (j := j) (by omega) (by omega)
  refine ⟨fun k k0 kn kp _ => ?_, fun k k0 kn kp _ => ?_⟩
  · rw [S k, S ((k - 1) / 2), if_neg kp]
    by_cases c1 : k = j
    · subst c1; rw [if_pos rfl, if_pos hp]; exact les_asym e
    · rw [if_neg c1]
      by_cases c2 : k = i
      · subst c2; rw [if_pos rfl, if_neg (by omega)]; exact h.by' j hj0 hj hp k0
      · rw [if_neg c2]
        by_cases c3 : (k - 1) / 2 = i
        · rw [if_pos c3]; exact c.least k k0 kn c3
        · rw [if_neg c3]; exact h.ok k k0 kn c3 (Or.inl c2)
  · rw [S k, S ((j - 1) / 2), if_neg (show ¬ k = j by omega), if_neg (show ¬ k = i by omega), if_neg (show ¬ (j - 1) / 2 = j by omega), if_pos hp]
    have := h.ok k k0 kn (by omega) (Or.inl (by omega))
    rwa [kp] at this
end QQ
end Go.Proofs.YtlopijcpnfkcgaaGreat
