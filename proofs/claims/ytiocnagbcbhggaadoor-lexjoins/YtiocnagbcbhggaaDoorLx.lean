/- Signs of a guard as lists of bytes: what is read, what is written. Nothing of the program is named here. -/
import Derived.Test.YtiocnagbcbhggaaDoorMb
namespace Go.Proofs.YtiocnagbcbhggaaDoor
namespace SM
set_option linter.unusedSimpArgs false

structure Sg where
  k : Nat
  n : Nat
  deriving DecidableEq
/-- the kind that one byte is; 0: none. -/
def sg1 (c : UInt8) : Nat :=
  if c = 43 then 3 else if c = 45 then 4 else if c = 42 then 5 else if c = 60 then 6 else if c = 62 then 8 else if c = 38 then 12 else if c = 124 then 13 else if c = 33 then 14
  else if c = 40 then 15 else if c = 41 then 16 else if c = 91 then 17 else if c = 93 then 18 else 0
/-- the kind that two bytes are; 0: none. -/
def sg2 (c d : UInt8) : Nat := if d = 61 then (if c = 60 then 7 else if c = 62 then 9 else if c = 61 then 10 else if c = 33 then 11 else 0) else 0
def isL (c : UInt8) : Bool := decide (97 ≤ c.toNat) && decide (c.toNat ≤ 122)
def maxN : Nat := 2147483647
inductive Nx where
  | fin : Nx
  | sp : List UInt8 → Nx
  | sg : Sg → List UInt8 → Nx
  | bad : Nat → Nx
  deriving DecidableEq
/-- what stands first. -/
def nx : List UInt8 → Nx
  | [] => .fin
  | c :: t =>
    if c = 32 then .sp t
    else if isL c then .sg ⟨2, c.toNat - 97⟩ t
    else if isD c then (if c = 48 ∧ (ds (c :: t)).length ≠ 1 then .bad 2 else if maxN < nval (ds (c :: t)) then .bad 3 else .sg ⟨1, nval (ds (c :: t))⟩ (bh (c :: t)))
    else match t with
      | [] => if sg1 c = 0 then .bad 2 else .sg ⟨sg1 c, 0⟩ []
      | d :: t' => if sg2 c d ≠ 0 then .sg ⟨sg2 c d, 0⟩ t' else if sg1 c = 0 then .bad 2 else .sg ⟨sg1 c, 0⟩ (d :: t')
theorem bh_lt {c : UInt8} {t : List UInt8} (h : isD c = true) : (bh (c :: t)).length < (c :: t).length := by
  unfold bh
  rw [List.dropWhile_cons_of_pos h]
  have := (List.dropWhile_sublist (l := t) isD).length_le
  simp; omega
theorem nx_sp {l r : List UInt8} (h : nx l = .sp r) : r.length < l.length := by
  unfold nx at h
  split at h
  · cases h
  · next c t =>
    split at h
    · cases h; simp
    · split at h
      · cases h
      · split at h
        · split at h
          · cases h
          · split at h <;> cases h
        · split at h
          · split at h <;> cases h
          · split at h
            · cases h
            · split at h <;> cases h
theorem nx_sg {l r : List UInt8} {s : Sg} (h : nx l = .sg s r) : r.length < l.length := by
  unfold nx at h
  split at h
  · cases h
  · next c t =>
    split at h
    · cases h
    · split at h
      · cases h; simp
      · split at h
        · next hd =>
          split at h
          · cases h
          · split at h
            · cases h
            · cases h; exact bh_lt hd
        · split at h
          · split at h <;> cases h
            simp
          · split at h
            · cases h; simp; omega
            · split at h <;> cases h
              simp
/-- the signs of a text, and what is wrong first. -/
def lx (l : List UInt8) : List Sg × Nat :=
  match h : nx l with
  | .fin => ([], 0)
  | .sp r => have := nx_sp h; lx r
  | .sg s r => have := nx_sg h; let x := lx r; if x.2 = 0 then (s :: x.1, 0) else ([], x.2)
  | .bad e => ([], e)
  termination_by l.length
theorem lx_fin {l : List UInt8} (h : nx l = .fin) : lx l = ([], 0) := by rw [lx]; split <;> simp_all
theorem lx_sp {l r : List UInt8} (h : nx l = .sp r) : lx l = lx r := by rw [lx]; split <;> simp_all
theorem lx_bad {l : List UInt8} {e : Nat} (h : nx l = .bad e) : lx l = ([], e) := by rw [lx]; split <;> simp_all
theorem lx_sg {l r : List UInt8} {s : Sg} (h : nx l = .sg s r) : lx l = if (lx r).2 = 0 then (s :: (lx r).1, 0) else ([], (lx r).2) := by rw [lx]; split <;> simp_all
theorem lx_nil : lx [] = ([], 0) := lx_fin rfl
theorem nx_bad {l : List UInt8} {e : Nat} (h : nx l = .bad e) : e = 2 ∨ e = 3 := by
  unfold nx at h
  split at h
  · cases h
  · split at h
    · cases h
    · split at h
      · cases h
      · split at h
        · split at h
          · cases h; exact Or.inl rfl
          · split at h
            · cases h; exact Or.inr rfl
            · cases h
        · split at h
          · split at h <;> cases h
            exact Or.inl rfl
          · split at h
            · cases h
            · split at h <;> cases h
              exact Or.inl rfl
/-- what is wrong leaves no signs. -/
theorem lx_err (l : List UInt8) : (lx l).2 ≠ 0 → (lx l).1 = [] := by
  intro h
  rcases e : nx l with _ | r | ⟨s, r⟩ | e
  · rw [lx_fin e]
  · rw [lx_sp e] at h ⊢
    have := nx_sp e
    exact lx_err r h
  · rw [lx_sg e] at h ⊢
    split
    · next c => rw [if_pos c] at h; exact absurd rfl h
    · rfl
  · rw [lx_bad e]
  termination_by l.length
/-- more text behind a byte that goes on with nothing. -/
def Nx.more (b : List UInt8) : Nx → Nx
  | .fin => .fin
  | .sp r => .sp (r ++ b)
  | .sg s r => .sg s (r ++ b)
  | .bad e => .bad e
theorem ds_more (l : List UInt8) (c : UInt8) (b : List UInt8) (hc : isD c = false) : ds (l ++ c :: b) = ds l ∧ bh (l ++ c :: b) = bh l ++ c :: b := by
  unfold ds bh
  induction l with
  | nil => simp [List.takeWhile_cons, List.dropWhile_cons, hc]
  | cons x l ih =>
    by_cases h : isD x = true
    · simp only [List.cons_append, List.takeWhile_cons, List.dropWhile_cons, h, if_true]
      exact ⟨by rw [ih.1], ih.2⟩
    · simp [List.takeWhile_cons, List.dropWhile_cons, h]
theorem nx_more (x : UInt8) (l : List UInt8) (c : UInt8) (b : List UInt8) (hc : isD c = false) (h61 : c ≠ 61) : nx (x :: l ++ c :: b) = (nx (x :: l)).more (c :: b) := by
  have hd := ds_more (x :: l) c b hc
  simp only [List.cons_append] at hd ⊢
  unfold nx
  simp only [hd.1, hd.2]
  split
  · rfl
  · split
    · rfl
    · split
      · split
        · rfl
        · split <;> rfl
      · cases l with
        | nil =>
          have h2 : sg2 x c = 0 := by unfold sg2; rw [if_neg h61]
          simp only [List.nil_append, h2, ne_eq, not_true_eq_false, if_false]
          split <;> rfl
        | cons y l =>
          simp only [List.cons_append]
          split
          · rfl
          · split <;> rfl
theorem lx_more (c : UInt8) (b : List UInt8) (hc : isD c = false) (h61 : c ≠ 61) : ∀ l, lx (l ++ c :: b) = if (lx l).2 ≠ 0 then ([], (lx l).2) else if (lx (c :: b)).2 ≠ 0 then ([], (lx (c :: b)).2) else ((lx l).1 ++ (lx (c :: b)).1, 0)
  | [] => by
    rw [lx_nil, List.nil_append]
    simp only [ne_eq, not_true_eq_false, if_false, List.nil_append]
    split
    · next h => exact Prod.ext (lx_err _ h) rfl
    · next h => exact Prod.ext rfl (by simpa using h)
  | x :: l => by
    have hn := nx_more x l c b hc h61
    rcases e : nx (x :: l) with _ | r | ⟨s, r⟩ | e'
    · exfalso
      unfold nx at e
      simp only at e
      repeat (first | contradiction | (split at e))
    · rw [e] at hn
      have hl := nx_sp e
      rw [lx_sp (by simpa [Nx.more] using hn), lx_sp e]
      exact lx_more c b hc h61 r
    · rw [e] at hn
      have hl := nx_sg e
      rw [lx_sg (r := r ++ c :: b) (by simpa [Nx.more] using hn), lx_sg e, lx_more c b hc h61 r]
      by_cases c1 : (lx r).2 = 0
      · by_cases c2 : (lx (c :: b)).2 = 0
        · simp [c1, c2]
        · simp [c1, c2]
      · simp [c1]
    · rw [e] at hn
      rw [lx_bad (by simpa [Nx.more] using hn), lx_bad e]
      rcases nx_bad e with rfl | rfl <;> simp
  termination_by l => l.length
theorem lx_blank (b : List UInt8) : lx (32 :: b) = lx b := lx_sp rfl
/-- two texts, a blank between. -/
theorem lx_join (a b : List UInt8) : lx (a ++ 32 :: b) = if (lx a).2 ≠ 0 then ([], (lx a).2) else if (lx b).2 ≠ 0 then ([], (lx b).2) else ((lx a).1 ++ (lx b).1, 0) := by
  rw [lx_more 32 b (by decide) (by decide) a, lx_blank]
/-- a byte that begins no sign. -/
theorem lx_wrong (a b : List UInt8) (c : UInt8) (h : (lx a).2 = 0) (h32 : c ≠ 32) (hl : isL c = false) (hd : isD c = false) (h61 : c ≠ 61) (h1 : sg1 c = 0) : lx (a ++ c :: b) = ([], 2) := by
  have hb : lx (c :: b) = ([], 2) := by
    refine lx_bad ?_
    simp only [nx, if_neg h32, hl, hd, Bool.false_eq_true, if_false]
    cases b with
    | nil => simp [h1]
    | cons d b =>
      have h2 : sg2 c d = 0 := by
        unfold sg2
        split
        · have h3 : c ≠ 60 := fun e => by rw [e] at h1; revert h1; decide
          have h4 : c ≠ 62 := fun e => by rw [e] at h1; revert h1; decide
          have h5 : c ≠ 33 := fun e => by rw [e] at h1; revert h1; decide
          simp [h3, h4, h5, h61]
        · rfl
      simp [h1, h2]
  rw [lx_more c b hd h61 a, hb]
  simp [h]
/-- may a sign be written? -/
def gs (s : Sg) : Bool := (s.k == 1 && decide (s.n ≤ maxN)) || (s.k == 2 && decide (s.n < 26)) || (decide (3 ≤ s.k) && decide (s.k ≤ 18) && s.n == 0)
/-- how a sign is written. -/
def tx (s : Sg) : List UInt8 :=
  match s.k with
  | 1 => Lib.decDigits s.n
  | 2 => [UInt8.ofNat (97 + s.n)]
  | 3 => [43] | 4 => [45] | 5 => [42] | 6 => [60] | 7 => [60, 61] | 8 => [62] | 9 => [62, 61] | 10 => [61, 61] | 11 => [33, 61]
  | 12 => [38] | 13 => [124] | 14 => [33] | 15 => [40] | 16 => [41] | 17 => [91] | 18 => [93]
  | _ => []
theorem sg1_in (c : UInt8) : sg1 c = 0 ∨ (3 ≤ sg1 c ∧ sg1 c ≤ 18) := by
  unfold sg1
  (repeat' split) <;> decide
theorem sg2_in (c d : UInt8) : sg2 c d = 0 ∨ (3 ≤ sg2 c d ∧ sg2 c d ≤ 18) := by
  unfold sg2
  (repeat' split) <;> decide
theorem gs_of {k : Nat} (h : 3 ≤ k ∧ k ≤ 18) : gs ⟨k, 0⟩ = true := by
  unfold gs
  simp [h.1, h.2]
/-- what is read may be written. -/
theorem nx_good {l r : List UInt8} {s : Sg} (h : nx l = .sg s r) : gs s = true := by
  unfold nx at h
  split at h
  · cases h
  · next c t =>
    split at h
    · cases h
    · split at h
      · next hl =>
        cases h
        unfold isL at hl
        simp only [Bool.and_eq_true, decide_eq_true_eq] at hl
        have : c.toNat - 97 < 26 := by omega
        simp [gs, this]
      · split at h
        · split at h
          · cases h
          · split at h
            · cases h
            · next hm =>
              cases h
              have : nval (ds (c :: t)) ≤ maxN := by omega
              simp [gs, this]
        · have h1 : ∀ c : UInt8, sg1 c ≠ 0 → gs ⟨sg1 c, 0⟩ = true := fun c hc => gs_of ((sg1_in c).resolve_left hc)
          split at h
          · split at h
            · cases h
            · next hs => cases h; exact h1 c hs
          · split at h
            · next d t' hs =>
              cases h
              exact gs_of ((sg2_in c d).resolve_left hs)
            · split at h
              · cases h
              · next hs => cases h; exact h1 c hs
theorem lx_good (l : List UInt8) : ∀ s ∈ (lx l).1, gs s = true := by
  rcases e : nx l with _ | r | ⟨s, r⟩ | e
  · rw [lx_fin e]; intro s h; cases h
  · rw [lx_sp e]
    have := nx_sp e
    exact lx_good r
  · rw [lx_sg e]
    have := nx_sg e
    have ih := lx_good r
    split
    · intro x hx
      rcases List.mem_cons.1 hx with rfl | hx
      · exact nx_good e
      · exact ih x hx
    · intro x hx; cases hx
  · rw [lx_bad e]; intro s h; cases h
  termination_by l.length
/-- a number's digits, nothing behind. -/
theorem ds_all' {d : List UInt8} (h : ∀ c ∈ d, isD c = true) : ds d = d ∧ bh d = [] := by
  unfold ds bh
  induction d with
  | nil => exact ⟨rfl, rfl⟩
  | cons a d ih =>
    have ha := h a (by simp)
    obtain ⟨i1, i2⟩ := ih (fun c hc => h c (by simp [hc]))
    exact ⟨by rw [List.takeWhile_cons_of_pos ha, i1], by rw [List.dropWhile_cons_of_pos ha, i2]⟩
theorem notL {c : UInt8} (h : isD c = true) : isL c = false ∧ c ≠ 32 := by
  have := (isD_iff c).1 h
  refine ⟨by unfold isL; simp; omega, fun e => by subst e; simp at this⟩
theorem nx_dec (n : Nat) : nx (Lib.decDigits n) = if maxN < n then .bad 3 else .sg ⟨1, n⟩ [] := by
  obtain ⟨c, t, e⟩ : ∃ c t, Lib.decDigits n = c :: t := by
    rcases h : Lib.decDigits n with _ | ⟨c, t⟩
    · have := dec_pos n; rw [h] at this; simp at this
    · exact ⟨c, t, rfl⟩
  have ha := dec_all n
  have hv := dec_val n
  have hh := dec_head n
  have h0 : n = 0 → Lib.decDigits n = [48] := fun h => by subst h; rw [Lib.decDigits]; rfl
  rw [e] at ha hv hh h0 ⊢
  have hc := ha c (by simp)
  obtain ⟨hl, h32⟩ := notL hc
  obtain ⟨d1, d2⟩ := ds_all' ha
  have h48 : ¬ (c = 48 ∧ (c :: t).length ≠ 1) := by
    rintro ⟨rfl, hlen⟩
    by_cases hn : n = 0
    · have := h0 hn
      rw [this] at hlen
      exact hlen rfl
    · exact hh hn rfl
  simp only [nx, if_neg h32, hl, hc, Bool.false_eq_true, if_false, if_true, d1, d2, hv, if_neg h48]
theorem lx_dec (n : Nat) : lx (Lib.decDigits n) = if maxN < n then ([], 3) else ([⟨1, n⟩], 0) := by
  have h := nx_dec n
  split
  · next c => rw [if_pos c] at h; exact lx_bad h
  · next c => rw [if_neg c] at h; rw [lx_sg h, lx_nil]; rfl
theorem lx_nought (n : Nat) : lx (48 :: Lib.decDigits n) = ([], 2) := by
  have ha : ∀ c ∈ 48 :: Lib.decDigits n, isD c = true := by
    intro c hc
    rcases List.mem_cons.1 hc with rfl | hc
    · rfl
    · exact dec_all n c hc
  obtain ⟨d1, d2⟩ := ds_all' ha
  have hp := dec_pos n
  refine lx_bad ?_
  have h48 : (48 :: Lib.decDigits n).length ≠ 1 := by simp only [List.length_cons]; omega
  have h32 : ¬ (48 : UInt8) = 32 := by decide
  have hl : isL 48 = false := by decide
  have hd : isD 48 = true := by decide
  simp only [nx, if_neg h32, hl, hd, Bool.false_eq_true, if_false, if_true, d1, true_and, if_pos h48]
/-- what is written is read. -/
theorem lx_tx {s : Sg} (h : gs s = true) : lx (tx s) = ([s], 0) := by
  obtain ⟨k, n⟩ := s
  unfold gs at h
  simp only [Bool.or_eq_true, Bool.and_eq_true, beq_iff_eq, decide_eq_true_eq] at h
  rcases h with (⟨rfl, h⟩ | ⟨rfl, h⟩) | ⟨⟨h1, h2⟩, rfl⟩
  · show lx (Lib.decDigits n) = _
    rw [lx_dec, if_neg (by omega)]
  · show lx [UInt8.ofNat (97 + n)] = _
    have : ∀ n : Fin 26, lx [UInt8.ofNat (97 + n.1)] = ([⟨2, n.1⟩], 0) := by
      intro n
      have h : nx [UInt8.ofNat (97 + n.1)] = .sg ⟨2, n.1⟩ [] := by revert n; decide
      rw [lx_sg h, lx_nil]; rfl
    exact this ⟨n, h⟩
  · have : ∀ k : Fin 16, lx (tx ⟨k.1 + 3, 0⟩) = ([⟨k.1 + 3, 0⟩], 0) := by
      intro k
      have h : nx (tx ⟨k.1 + 3, 0⟩) = .sg ⟨k.1 + 3, 0⟩ [] := by revert k; decide
      rw [lx_sg h, lx_nil]; rfl
    have h3 := this ⟨k - 3, by omega⟩
    simp only [Nat.sub_add_cancel h1] at h3
    exact h3
/-- signs written, a blank between each two. -/
def pr : List Sg → List UInt8
  | [] => []
  | [s] => tx s
  | s :: t :: l => tx s ++ 32 :: pr (t :: l)
theorem lx_pr : ∀ (l : List Sg), (∀ s ∈ l, gs s = true) → lx (pr l) = (l, 0)
  | [], _ => lx_nil
  | [s], h => lx_tx (h s (by simp))
  | s :: t :: l, h => by
    rw [pr, lx_join, lx_tx (h s (by simp)), lx_pr (t :: l) (fun x hx => h x (by simp at hx ⊢; exact Or.inr hx))]
    simp
/-- written from the front. -/
theorem pr_snoc (l : List Sg) (s : Sg) : pr (l ++ [s]) = if l = [] then tx s else pr l ++ 32 :: tx s := by
  induction l with
  | nil => rfl
  | cons a l ih =>
    cases l with
    | nil => rfl
    | cons b l =>
      simp only [List.cons_append] at ih ⊢
      rw [pr, ih, if_neg (by simp), if_neg (by simp), pr]
      simp
end SM
end Go.Proofs.YtiocnagbcbhggaaDoor
