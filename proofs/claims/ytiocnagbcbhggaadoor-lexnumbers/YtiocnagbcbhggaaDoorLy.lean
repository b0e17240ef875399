/- Signs of a guard, second part: the longest sign found among all, a number counted up to a bound. Nothing of the program is named here. -/
import Derived.Test.YtiocnagbcbhggaaDoorLx
namespace Go.Proofs.YtiocnagbcbhggaaDoor
namespace SM
set_option linter.unusedSimpArgs false

/-- counted up to a bound. -/
def sat (M : Nat) (d : List UInt8) : Nat := d.foldl (fun n c => min (10 * n + (c.toNat - 48)) M) 0
theorem sat_snoc (M : Nat) (d : List UInt8) (c : UInt8) : sat M (d ++ [c]) = min (10 * sat M d + (c.toNat - 48)) M := by unfold sat; simp
theorem sat_is (M : Nat) (d : List UInt8) : sat M d = min (nval d) M := by
  induction h : d.length generalizing d with
  | zero =>
    have := List.eq_nil_of_length_eq_zero h
    subst this
    simp [sat, nval]
  | succ n ih =>
    rcases List.eq_nil_or_concat d with rfl | ⟨l, c, rfl⟩
    · simp at h
    · rw [List.concat_eq_append] at h ⊢
      rw [sat_snoc, nval_snoc, ih l (by simpa using h)]
      omega
theorem sat_over (d : List UInt8) : (maxN < sat (maxN + 1) d ↔ maxN < nval d) ∧ (nval d ≤ maxN → sat (maxN + 1) d = nval d) := by
  rw [sat_is]
  omega
/-- does a sign of this kind stand first? -/
def pk (l : List UInt8) (k : Nat) : Bool := (tx ⟨k, 0⟩).isPrefixOf l
/-- the longest found yet, and one kind more. -/
def f1 (l : List UInt8) (f k : Nat) : Nat := if pk l k && (f == 0 || decide ((tx ⟨f, 0⟩).length < (tx ⟨k, 0⟩).length)) then k else f
/-- the longest of the kinds below m + 3. -/
def fs (l : List UInt8) : Nat → Nat
  | 0 => 0
  | m + 1 => f1 l (fs l m) (m + 3)
/-- the sign that stands first, neither number nor name. -/
def op : List UInt8 → Nat
  | [] => 0
  | [c] => sg1 c
  | c :: d :: _ => if sg2 c d ≠ 0 then sg2 c d else sg1 c
theorem pk_one (c : UInt8) (l : List UInt8) : pk (c :: l) 3 = decide (c = 43) ∧ pk (c :: l) 4 = decide (c = 45) ∧ pk (c :: l) 5 = decide (c = 42) ∧ pk (c :: l) 6 = decide (c = 60) ∧ pk (c :: l) 8 = decide (c = 62) ∧ pk (c :: l) 12 = decide (c = 38) ∧
    pk (c :: l) 13 = decide (c = 124) ∧ pk (c :: l) 14 = decide (c = 33) ∧ pk (c :: l) 15 = decide (c = 40) ∧ pk (c :: l) 16 = decide (c = 41) ∧ pk (c :: l) 17 = decide (c = 91) ∧ pk (c :: l) 18 = decide (c = 93) := by
  have h : ∀ a : UInt8, List.isPrefixOf [a] (c :: l) = decide (c = a) := fun a => by
    simp only [List.isPrefixOf, Bool.and_true]
    by_cases e : c = a
    · subst e; simp
    · have e' : ¬ a = c := fun x => e x.symm
      simp [e, e']
  exact ⟨h 43, h 45, h 42, h 60, h 62, h 38, h 124, h 33, h 40, h 41, h 91, h 93⟩
theorem pk_two (c : UInt8) (l : List UInt8) : pk (c :: l) 7 = (decide (c = 60) && decide (l.head? = some 61)) ∧ pk (c :: l) 9 = (decide (c = 62) && decide (l.head? = some 61)) ∧ pk (c :: l) 10 = (decide (c = 61) && decide (l.head? = some 61)) ∧ pk (c :: l) 11 = (decide (c = 33) && decide (l.head? = some 61)) := by
  have h : ∀ a : UInt8, List.isPrefixOf [a, 61] (c :: l) = (decide (c = a) && decide (l.head? = some 61)) := fun a => by
    cases l with
    | nil => simp [List.isPrefixOf]
    | cons d l =>
      simp only [List.isPrefixOf, Bool.and_true, List.head?_cons, Option.some.injEq]
      by_cases e : c = a
      · subst e
        by_cases e2 : d = 61
        · subst e2; simp
        · have e' : ¬ 61 = d := fun x => e2 x.symm
          simp [e2, e']
      · have e' : ¬ a = c := fun x => e x.symm
        simp [e, e']
  exact ⟨h 60, h 62, h 61, h 33⟩
theorem f1_no {l : List UInt8} {f k : Nat} (h : pk l k = false) : f1 l f k = f := by unfold f1; rw [h]; simp
theorem f1_first {l : List UInt8} {k : Nat} (h : pk l k = true) : f1 l 0 k = k := by unfold f1; rw [h]; simp
theorem f1_more {l : List UInt8} {f k : Nat} (h : pk l k = true) (hl : (tx ⟨f, 0⟩).length < (tx ⟨k, 0⟩).length) : f1 l f k = k := by unfold f1; rw [h]; simp [hl]
theorem fs_all (l : List UInt8) : fs l 16 = f1 l (f1 l (f1 l (f1 l (f1 l (f1 l (f1 l (f1 l (f1 l (f1 l (f1 l (f1 l (f1 l (f1 l (f1 l (f1 l 0 3) 4) 5) 6) 7) 8) 9) 10) 11) 12) 13) 14) 15) 16) 17) 18 := rfl
theorem c13 (c : UInt8) : c = 43 ∨ c = 45 ∨ c = 42 ∨ c = 60 ∨ c = 62 ∨ c = 61 ∨ c = 38 ∨ c = 124 ∨ c = 33 ∨ c = 40 ∨ c = 41 ∨ c = 91 ∨ c = 93 ∨ (c ≠ 43 ∧ c ≠ 45 ∧ c ≠ 42 ∧ c ≠ 60 ∧ c ≠ 62 ∧ c ≠ 61 ∧ c ≠ 38 ∧ c ≠ 124 ∧ c ≠ 33 ∧ c ≠ 40 ∧ c ≠ 41 ∧ c ≠ 91 ∧ c ≠ 93) := by
  by_cases h : c ∈ [43, 45, 42, 60, 62, 61, 38, 124, 33, 40, 41, 91, 93]
  · simp only [List.mem_cons, List.not_mem_nil, or_false] at h
    rcases h with h | h | h | h | h | h | h | h | h | h | h | h | h <;> simp [h]
  · simp only [List.mem_cons, List.not_mem_nil, or_false, not_or] at h
    simp [h]
theorem op_is (c : UInt8) (l : List UInt8) : op (c :: l) = if l.head? = some 61 ∧ sg2 c 61 ≠ 0 then sg2 c 61 else sg1 c := by
  cases l with
  | nil => simp [op]
  | cons d l =>
    by_cases e : d = 61
    · subst e; simp [op]
    · have : sg2 c d = 0 := by unfold sg2; rw [if_neg e]
      simp [op, this, e]
theorem m67 {l : List UInt8} (h : pk l 7 = true) : f1 l 6 7 = 7 := f1_more h (by decide)
theorem m89 {l : List UInt8} (h : pk l 9 = true) : f1 l 8 9 = 9 := f1_more h (by decide)
theorem m1114 (l : List UInt8) : f1 l 11 14 = 11 := by
  unfold f1
  have h : decide ((tx ⟨11, 0⟩).length < (tx ⟨14, 0⟩).length) = false := by decide
  rw [h]; simp
theorem fs_is (l : List UInt8) : fs l 16 = op l := by
  cases l with
  | nil => rfl
  | cons c l =>
    obtain ⟨p3, p4, p5, p6, p8, p12, p13, p14, p15, p16, p17, p18⟩ := pk_one c l
    obtain ⟨p7, p9, p10, p11⟩ := pk_two c l
    rw [op_is, fs_all]
    by_cases e : l.head? = some 61
    · simp only [e, decide_true, Bool.and_true] at p7 p9 p10 p11
      rcases c13 c with rfl | rfl | rfl | rfl | rfl | rfl | rfl | rfl | rfl | rfl | rfl | rfl | rfl | h
      case inr.inr.inr.inr.inr.inr.inr.inr.inr.inr.inr.inr.inr =>
        simp [h, f1_no, p3, p4, p5, p6, p7, p8, p9, p10, p11, p12, p13, p14, p15, p16, p17, p18, e, sg1, sg2]
      all_goals simp [f1_no, f1_first, m67, m89, m1114, p3, p4, p5, p6, p7, p8, p9, p10, p11, p12, p13, p14, p15, p16, p17, p18, e, sg1, sg2]
    · simp only [e, decide_false, Bool.and_false] at p7 p9 p10 p11
      rcases c13 c with rfl | rfl | rfl | rfl | rfl | rfl | rfl | rfl | rfl | rfl | rfl | rfl | rfl | h
      case inr.inr.inr.inr.inr.inr.inr.inr.inr.inr.inr.inr.inr =>
        simp [h, f1_no, p3, p4, p5, p6, p7, p8, p9, p10, p11, p12, p13, p14, p15, p16, p17, p18, e, sg1, sg2]
      all_goals simp [f1_no, f1_first, p3, p4, p5, p6, p7, p8, p9, p10, p11, p12, p13, p14, p15, p16, p17, p18, e, sg1, sg2]
theorem sg1_len (c : UInt8) : sg1 c ≠ 0 → (tx ⟨sg1 c, 0⟩).length = 1 := by
  unfold sg1
  (repeat' split) <;> decide
theorem sg2_len (c d : UInt8) : sg2 c d ≠ 0 → (tx ⟨sg2 c d, 0⟩).length = 2 := by
  unfold sg2
  (repeat' split) <;> decide
/-- what stands first, by kinds. -/
theorem nx_op (c : UInt8) (t : List UInt8) (h32 : c ≠ 32) (hl : isL c = false) (hd : isD c = false) : nx (c :: t) = if op (c :: t) = 0 then .bad 2 else .sg ⟨op (c :: t), 0⟩ ((c :: t).drop (tx ⟨op (c :: t), 0⟩).length) := by
  cases t with
  | nil =>
    have ho : op [c] = sg1 c := rfl
    rw [ho]
    simp only [nx, if_neg h32, hl, hd, Bool.false_eq_true, if_false]
    by_cases h : sg1 c = 0
    · rw [if_pos h, if_pos h]
    · rw [if_neg h, if_neg h, sg1_len _ h]; rfl
  | cons d t =>
    by_cases h2 : sg2 c d = 0
    · have ho : op (c :: d :: t) = sg1 c := by simp [op, h2]
      rw [ho]
      simp only [nx, if_neg h32, hl, hd, Bool.false_eq_true, if_false, h2, ne_eq, not_true_eq_false]
      by_cases h : sg1 c = 0
      · rw [if_pos h, if_pos h]
      · rw [if_neg h, if_neg h, sg1_len _ h]; rfl
    · have ho : op (c :: d :: t) = sg2 c d := by simp [op, h2]
      rw [ho]
      simp only [nx, if_neg h32, hl, hd, Bool.false_eq_true, if_false, h2, ne_eq, not_false_eq_true, if_true]
      rw [sg2_len _ _ h2]; rfl
end SM
end Go.Proofs.YtiocnagbcbhggaaDoor
