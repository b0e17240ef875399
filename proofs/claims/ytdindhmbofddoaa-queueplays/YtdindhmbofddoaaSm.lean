/- Sorting a list of jobs by exchanges: what the library's steps keep. Nothing of the program is named here. -/
import Derived.Test.YtdindhmbofddoaaHm
namespace Go.Proofs.Ytdindhmbofddoaa

/-- m is l, but for the places from lo to hi, where it holds the same jobs in some order. -/
structure PI (lo hi : Nat) (l m : List Wt) : Prop where
  out : ∀ k, (k < lo ∨ hi ≤ k) → gt m k = gt l k
  perm : m.Perm l
  all : ∀ P : Wt → Prop, (∀ k, lo ≤ k → k < hi → P (gt l k)) → ∀ k, lo ≤ k → k < hi → P (gt m k)
theorem PI.refl (lo hi : Nat) (l : List Wt) : PI lo hi l l := ⟨fun _ _ => rfl, List.Perm.refl _, fun _ h => h⟩
theorem PI.trans {lo hi : Nat} {l m n : List Wt} (h : PI lo hi l m) (g : PI lo hi m n) : PI lo hi l n :=
  ⟨fun k hk => (g.out k hk).trans (h.out k hk), g.perm.trans h.perm, fun P hp => g.all P (h.all P hp)⟩
theorem PI.swap {lo hi : Nat} {l : List Wt} {i j : Nat} (hh : hi ≤ l.length) (i0 : lo ≤ i) (i1 : i < hi) (j0 : lo ≤ j) (j1 : j < hi) : PI lo hi l (swp l i j) := by
  have S := swp_gt (l := l) (i := i) (j := j) (by omega) (by omega)
  refine ⟨fun k hk => by rw [S k, if_neg (by omega), if_neg (by omega)], swp_perm (by omega) (by omega), fun P hp k h0 h1 => ?_⟩
  rw [S k]
  by_cases c : k = j
  · rw [if_pos c]; exact hp i i0 i1
  · rw [if_neg c]
    by_cases c2 : k = i
    · rw [if_pos c2]; exact hp j j0 j1
    · rw [if_neg c2]; exact hp k h0 h1
theorem PI.mono {lo hi lo' hi' : Nat} {l m : List Wt} (h : PI lo hi l m) (h0 : lo' ≤ lo) (h1 : hi ≤ hi') : PI lo' hi' l m :=
  ⟨fun k hk => h.out k (by omega), h.perm, fun P hp k k0 k1 => by
    by_cases c : lo ≤ k ∧ k < hi
    · exact h.all P (fun k a b => hp k (by omega) (by omega)) k c.1 c.2
    · rw [h.out k (by omega)]; exact hp k k0 k1⟩
theorem PI.len {lo hi : Nat} {l m : List Wt} (h : PI lo hi l m) : m.length = l.length := h.perm.length_eq
/-- in order from lo to hi. -/
def Srtd (a : Int) (lo hi : Nat) (l : List Wt) : Prop := ∀ i j, lo ≤ i → i < j → j < hi → les a (gt l j) (gt l i) = false
theorem Srtd.small (a : Int) {lo hi : Nat} (h : hi ≤ lo + 1) (l : List Wt) : Srtd a lo hi l := fun i j h0 h1 h2 => by omega
/-- the first i in order but for the one at j, which has to go down. -/
def Ins (a : Int) (lo i j : Nat) (m : List Wt) : Prop := ∀ p q, lo ≤ p → p < q → q ≤ i → q ≠ j → les a (gt m q) (gt m p) = false
theorem Ins.start {a : Int} {lo i : Nat} {m : List Wt} (h : Srtd a lo i m) : Ins a lo i i m := fun p q h0 h1 h2 h3 => h p q h0 h1 (by omega)
theorem Ins.low {a : Int} {lo i : Nat} {m : List Wt} (h : Ins a lo i lo m) : Srtd a lo (i + 1) m := fun p q h0 h1 h2 => h p q h0 h1 (by omega) (by omega)
theorem Ins.stop {a : Int} {lo i j : Nat} {m : List Wt} (h : Ins a lo i j m) (hj : lo < j) (hi : j ≤ i) (e : les a (gt m j) (gt m (j - 1)) = false) : Srtd a lo (i + 1) m := fun p q h0 h1 h2 => by
  by_cases c : q = j
  · subst c
    by_cases c2 : p = q - 1
    · subst c2; exact e
    · exact les_neg (h p (q - 1) h0 (by omega) (by omega) (by omega)) e
  · exact h p q h0 h1 (by omega) c
theorem Ins.step {a : Int} {lo i j : Nat} {m : List Wt} (h : Ins a lo i j m) (hj : lo < j) (hi : j ≤ i) (hm : i < m.length) (e : les a (gt m j) (gt m (j - 1)) = true) : Ins a lo i (j - 1) (swp m j (j - 1)) := by
  have S := swp_gt (l := m) (i := j) (j := j - 1) (by omega) (by omega)
  intro p q h0 h1 h2 h3
  rw [S p, S q, if_neg h3]
  by_cases c : q = j
  · rw [if_pos c]
    by_cases c2 : p = j - 1
    · rw [if_pos c2]; exact les_asym e
    · rw [if_neg c2, if_neg (by omega)]; exact h p (j - 1) h0 (by omega) (by omega) (by omega)
  · rw [if_neg c]
    by_cases c2 : p = j - 1
    · rw [if_pos c2]; exact h j q (by omega) (by omega) h2 c
    · rw [if_neg c2]
      by_cases c3 : p = j
      · rw [if_pos c3]; exact h (j - 1) q (by omega) (by omega) h2 c
      · rw [if_neg c3]; exact h p q h0 h1 h2 c
/-- a heap with the greatest at its root, from place f on: below the places from lo on. -/
def MH (a : Int) (f lo hi : Nat) (l : List Wt) : Prop := ∀ k, 1 ≤ k → k < hi → lo ≤ (k - 1) / 2 → les a (gt l (f + (k - 1) / 2)) (gt l (f + k)) = false
structure MD (a : Int) (f lo hi r : Nat) (l : List Wt) : Prop where
  ok : ∀ k, 1 ≤ k → k < hi → lo ≤ (k - 1) / 2 → (k - 1) / 2 ≠ r → les a (gt l (f + (k - 1) / 2)) (gt l (f + k)) = false
  by' : ∀ k, 1 ≤ k → k < hi → (k - 1) / 2 = r → 1 ≤ r → lo ≤ (r - 1) / 2 → les a (gt l (f + (r - 1) / 2)) (gt l (f + k)) = false
theorem MD.start {a : Int} {f lo hi : Nat} {l : List Wt} (h : MH a f (lo + 1) hi l) : MD a f lo hi lo l :=
  ⟨fun k h0 h1 h2 h3 => h k h0 h1 (by omega), fun k h0 h1 h2 h3 h4 => by omega⟩
theorem MD.leaf {a : Int} {f lo hi r : Nat} {l : List Wt} (h : MD a f lo hi r l) (e : hi ≤ 2 * r + 1) : MH a f lo hi l := fun k h0 h1 h2 => h.ok k h0 h1 h2 (by omega)
structure MC (a : Int) (f hi r c : Nat) (l : List Wt) : Prop where
  lt : c < hi
  par : (c - 1) / 2 = r
  pos : 1 ≤ c
  top : ∀ k, 1 ≤ k → k < hi → (k - 1) / 2 = r → les a (gt l (f + c)) (gt l (f + k)) = false
theorem mc_one {a : Int} {f hi r : Nat} {l : List Wt} (h1 : 2 * r + 1 < hi) (h2 : hi ≤ 2 * r + 2) : MC a f hi r (2 * r + 1) l :=
  ⟨h1, by omega, by omega, fun k h0 hk hp => by obtain rfl : k = 2 * r + 1 := by omega
                                                exact les_irr _ _⟩
theorem mc_left {a : Int} {f hi r : Nat} {l : List Wt} (h2 : 2 * r + 2 < hi) (e : les a (gt l (f + (2 * r + 1))) (gt l (f + (2 * r + 2))) = false) : MC a f hi r (2 * r + 1) l :=
  ⟨by omega, by omega, by omega, fun k h0 hk hp => by
    rcases (show k = 2 * r + 1 ∨ k = 2 * r + 2 by omega) with rfl | rfl
    · exact les_irr _ _
    · exact e⟩
theorem mc_right {a : Int} {f hi r : Nat} {l : List Wt} (h2 : 2 * r + 2 < hi) (e : les a (gt l (f + (2 * r + 1))) (gt l (f + (2 * r + 2))) = true) : MC a f hi r (2 * r + 2) l :=
  ⟨by omega, by omega, by omega, fun k h0 hk hp => by
    rcases (show k = 2 * r + 1 ∨ k = 2 * r + 2 by omega) with rfl | rfl
    · exact les_asym e
    · exact les_irr _ _⟩
theorem MD.done {a : Int} {f lo hi r c : Nat} {l : List Wt} (h : MD a f lo hi r l) (m : MC a f hi r c l) (e : les a (gt l (f + r)) (gt l (f + c)) = false) : MH a f lo hi l := fun k h0 h1 h2 => by
  by_cases q : (k - 1) / 2 = r
  · rw [q]; exact les_neg (m.top k h0 h1 q) e
  · exact h.ok k h0 h1 h2 q
theorem MD.down {a : Int} {f lo hi r c : Nat} {l : List Wt} (h : MD a f lo hi r l) (m : MC a f hi r c l) (hh : f + hi ≤ l.length) (hr : lo ≤ r) (e : les a (gt l (f + r)) (gt l (f + c)) = true) : MD a f lo hi c (swp l (f + r) (f + c)) := by
  have hc := m.lt
  have hp := m.par
  have h1 := m.pos
  have S := swp_gt (l := l) (i := f + r) (j := f + c) (by omega) (by omega)
  refine ⟨fun k k0 k1 k2 k3 => ?_, fun k k0 k1 k2 _ _ => ?_⟩
  · rw [S (f + k), S (f + (k - 1) / 2), if_neg (show ¬ f + (k - 1) / 2 = f + c by omega)]
    by_cases c1 : k = c
    · subst c1; rw [if_pos (show f + (k - 1) / 2 = f + r by omega), if_pos rfl]; exact les_asym e
    · rw [if_neg (show ¬ f + k = f + c by omega)]
      by_cases c2 : k = r
      · subst c2; rw [if_neg (show ¬ f + (k - 1) / 2 = f + k by omega), if_pos rfl]
        exact h.by' c h1 hc hp k0 k2
      · rw [if_neg (show ¬ f + k = f + r by omega)]
        by_cases c3 : (k - 1) / 2 = r
        · rw [if_pos (show f + (k - 1) / 2 = f + r by omega)]; exact m.top k k0 k1 c3
        · rw [if_neg (show ¬ f + (k - 1) / 2 = f + r by omega)]; exact h.ok k k0 k1 k2 c3
  · rw [hp, S (f + r), S (f + k), if_neg (show ¬ f + r = f + c by omega), if_pos rfl, if_neg (show ¬ f + k = f + c by omega), if_neg (show ¬ f + k = f + r by omega), ← k2]
    exact h.ok k k0 k1 (by omega) (by omega)
/-- the root is the greatest. -/
theorem MH.root {a : Int} {f hi : Nat} {l : List Wt} (h : MH a f 0 hi l) : ∀ k, k < hi → les a (gt l f) (gt l (f + k)) = false := by
  intro k
  induction k using Nat.strongRecOn with
  | ind k ih =>
    intro hk
    by_cases c : k = 0
    · subst c; exact les_irr _ _
    · exact les_neg (h k (by omega) hk (Nat.zero_le _)) (ih ((k - 1) / 2) (by omega) (by omega))
/-- from i on all are in their places. -/
def Tail (a : Int) (f n i : Nat) (l : List Wt) : Prop := ∀ p q, p < q → q < n → i ≤ q → les a (gt l (f + q)) (gt l (f + p)) = false
theorem Tail.done {a : Int} {f n : Nat} {l : List Wt} (h : Tail a f n 0 l) : Srtd a f (f + n) l := fun i j h0 h1 h2 => by
  have := h (i - f) (j - f) (by omega) (by omega) (Nat.zero_le _)
  rwa [show f + (j - f) = j by omega, show f + (i - f) = i by omega] at this
theorem Tail.swap {a : Int} {f n i : Nat} {l : List Wt} (h : Tail a f n (i + 1) l) (m : MH a f 0 (i + 1) l) (hi : i < n) (hl : f + n ≤ l.length) : Tail a f n i (swp l f (f + i)) ∧ MD a f 0 i 0 (swp l f (f + i)) := by
  have S := swp_gt (l := l) (i := f) (j := f + i) (by omega) (by omega)
  have V : ∀ p, p ≤ i → ∃ p', p' ≤ i ∧ gt (swp l f (f + i)) (f + p) = gt l (f + p') := fun p hp => by
    rw [S (f + p)]
    by_cases c : f + p = f + i
    · exact ⟨0, Nat.zero_le _, by rw [if_pos c]; rfl⟩
    · rw [if_neg c]
      by_cases c2 : f + p = f
      · exact ⟨i, Nat.le_refl _, by rw [if_pos c2]⟩
      · exact ⟨p, hp, by rw [if_neg c2]⟩
  refine ⟨fun p q h0 h1 h2 => ?_, ⟨fun k k0 k1 k2 k3 => ?_, fun k k0 k1 k2 k3 => by omega⟩⟩
  · by_cases c : q = i
    · subst c
      obtain ⟨p', hp', e⟩ := V p (by omega)
      rw [e, S (f + q), if_pos rfl]
      exact m.root p' (by omega)
    · rw [S (f + q), if_neg (by omega), if_neg (by omega)]
      by_cases c2 : p ≤ i
      · obtain ⟨p', hp', e⟩ := V p c2
        rw [e]; exact h p' q (by omega) h1 (by omega)
      · rw [S (f + p), if_neg (by omega), if_neg (by omega)]; exact h p q h0 h1 (by omega)
  · rw [S (f + k), S (f + (k - 1) / 2), if_neg (by omega), if_neg (by omega), if_neg (by omega), if_neg (by omega)]
    exact m k k0 (by omega) k2
theorem Tail.perm {a : Int} {f n i : Nat} {l m : List Wt} (h : Tail a f n i l) (p : PI f (f + i) l m) : Tail a f n i m := fun x q h0 h1 h2 => by
  rw [p.out (f + q) (by omega)]
  by_cases c : x < i
  · exact p.all (fun z => les a (gt l (f + q)) z = false) (fun k k0 k1 => by
      have := h (k - f) q (by omega) h1 h2
      rwa [show f + (k - f) = k by omega] at this) (f + x) (by omega) (by omega)
  · rw [p.out (f + x) (by omega)]; exact h x q h0 h1 h2
end Go.Proofs.Ytdindhmbofddoaa
