/- Sets of slots as numbers below 2^64: lists of their elements, the next one, straight and round. Nothing of the program is named here. -/
namespace Go.Proofs.YtlihcljjpalapaaDoor
namespace MK

def B64 : Nat := 18446744073709551616
theorem b64 : B64 = 2 ^ 64 := by decide

/-- the elements, rising. -/
def lst (m : Nat) : List Nat := (List.range 64).filter (fun i => m.testBit i)
theorem mem_lst (m i : Nat) : i ∈ lst m ↔ i < 64 ∧ m.testBit i = true := by
  unfold lst; rw [List.mem_filter, List.mem_range]

theorem ext64 {a b : Nat} (ha : a < 2 ^ 64) (hb : b < 2 ^ 64) (h : ∀ k, k < 64 → a.testBit k = b.testBit k) : a = b := by
  apply Nat.eq_of_testBit_eq
  intro k
  by_cases hk : k < 64
  · exact h k hk
  · rw [Nat.testBit_lt_two_pow (Nat.lt_of_lt_of_le ha (Nat.pow_le_pow_right (by omega) (by omega))), Nat.testBit_lt_two_pow (Nat.lt_of_lt_of_le hb (Nat.pow_le_pow_right (by omega) (by omega)))]

theorem zero_iff {m : Nat} (hm : m < 2 ^ 64) : m = 0 ↔ ∀ k, k < 64 → m.testBit k = false := by
  constructor
  · intro h k _; rw [h]; exact Nat.zero_testBit k
  · intro h; exact ext64 hm (by decide) (fun k hk => by rw [h k hk]; exact (Nat.zero_testBit k).symm)

/-- with a slot, without it. -/
def wit (m i : Nat) : Nat := m ||| 2 ^ i
def wout (m i : Nat) : Nat := m &&& (2 ^ 64 - 1 - 2 ^ i)
theorem wit_bit (m i k : Nat) : (wit m i).testBit k = (m.testBit k || decide (i = k)) := by
  unfold wit; rw [Nat.testBit_or, Nat.testBit_two_pow]
theorem wit_lt {m i : Nat} (hm : m < 2 ^ 64) (hi : i < 64) : wit m i < 2 ^ 64 :=
  Nat.or_lt_two_pow hm (Nat.pow_lt_pow_right (by omega) hi)

/-- the set of the slots of a list. -/
def ofL (l : List Int) : Nat := l.foldl (fun m i => if 0 ≤ i ∧ i < 64 then wit m i.toNat else m) 0
theorem ofL_step (l : List Int) (a : Nat) (k : Nat) (hk : k < 64) : (l.foldl (fun m i => if 0 ≤ i ∧ i < 64 then wit m i.toNat else m) a).testBit k = (a.testBit k || decide ((k : Int) ∈ l)) := by
  induction l generalizing a with
  | nil => simp
  | cons c l ih =>
    rw [List.foldl_cons, ih]
    by_cases h : 0 ≤ c ∧ c < 64
    · rw [if_pos h, wit_bit]
      have e : decide (c.toNat = k) = decide ((k : Int) = c) := by rw [decide_eq_decide]; omega
      rw [e]
      simp [List.mem_cons, Bool.or_assoc]
    · rw [if_neg h]
      have : ¬ (k : Int) = c := by omega
      simp [List.mem_cons, this]
theorem ofL_bit (l : List Int) (k : Nat) (hk : k < 64) : (ofL l).testBit k = decide ((k : Int) ∈ l) := by
  unfold ofL; rw [ofL_step l 0 k hk]; simp
theorem ofL_lt (l : List Int) : ofL l < 2 ^ 64 := by
  have : ∀ (l : List Int) (a : Nat), a < 2 ^ 64 → l.foldl (fun m i => if 0 ≤ i ∧ i < 64 then wit m i.toNat else m) a < 2 ^ 64 := by
    intro l
    induction l with
    | nil => intro a ha; exact ha
    | cons c l ih =>
      intro a ha
      rw [List.foldl_cons]
      apply ih
      by_cases h : 0 ≤ c ∧ c < 64
      · rw [if_pos h]; exact wit_lt ha (by omega)
      · rw [if_neg h]; exact ha
  exact this l 0 (by decide)
/-- a list of slots that holds just the elements is the set. -/
theorem ofL_eq {m : Nat} (hm : m < 2 ^ 64) (l : List Int) (h : ∀ k : Nat, k < 64 → ((k : Int) ∈ l ↔ m.testBit k = true)) : ofL l = m :=
  ext64 (ofL_lt l) hm (fun k hk => by
    rw [ofL_bit l k hk, Bool.eq_iff_iff, decide_eq_true_eq]; exact h k hk)
theorem ofL_snoc (l : List Int) (i : Int) : ofL (l ++ [i]) = if 0 ≤ i ∧ i < 64 then wit (ofL l) i.toNat else ofL l := by
  unfold ofL; rw [List.foldl_append]; rfl
theorem add_bit {m i : Nat} (h : m.testBit i = false) : m + 2 ^ i = wit m i := by
  unfold wit
  rw [Nat.testBit_eq_decide_div_mod_eq, decide_eq_false_iff_not] at h
  obtain ⟨q, hq⟩ : ∃ q, m / 2 ^ i = 2 * q := ⟨m / 2 ^ i / 2, by omega⟩
  have hr : m % 2 ^ i < 2 ^ i := Nat.mod_lt _ (Nat.two_pow_pos i)
  have hm : m = 2 ^ (i + 1) * q + m % 2 ^ i := by
    have := Nat.div_add_mod m (2 ^ i)
    rw [hq] at this
    rw [Nat.pow_succ, Nat.mul_assoc]; omega
  have hp : 2 ^ (i + 1) = 2 ^ i + 2 ^ i := by rw [Nat.pow_succ]; omega
  generalize m % 2 ^ i = r at *
  have e1 := Nat.two_pow_add_eq_or_of_lt (i := i + 1) (b := r) (by omega) q
  have e2 := Nat.two_pow_add_eq_or_of_lt (i := i + 1) (b := 2 ^ i + r) (by omega) q
  have e3 := Nat.two_pow_add_eq_or_of_lt (i := i) (b := r) hr 1
  rw [Nat.mul_one] at e3
  rw [hm, Nat.add_assoc, Nat.add_comm r, e2, e1, e3, Nat.or_assoc, Nat.or_comm r]

/-! ### round -/
/-- the first slot from f on, going round, that is in: how far it is (64: there is none). -/
def far (m f : Nat) : Nat := ((List.range 64).find? (fun s => m.testBit ((f + s) % 64))).getD 64
theorem far_le (m f : Nat) : far m f ≤ 64 := by
  unfold far
  rcases h : (List.range 64).find? (fun s => m.testBit ((f + s) % 64)) with _ | s
  · simp
  · have := List.mem_of_find?_eq_some h
    rw [List.mem_range] at this
    simp; omega
theorem far_some {m f : Nat} (h : ∃ s, s < 64 ∧ m.testBit ((f + s) % 64) = true) : far m f < 64 ∧ m.testBit ((f + far m f) % 64) = true ∧ ∀ s, s < far m f → m.testBit ((f + s) % 64) = false := by
  unfold far
  rcases hf : (List.range 64).find? (fun s => m.testBit ((f + s) % 64)) with _ | s
  · obtain ⟨s, h1, h2⟩ := h
    have := List.find?_eq_none.1 hf s (List.mem_range.2 h1)
    rw [h2] at this; exact absurd rfl this
  · have h1 := List.mem_of_find?_eq_some hf
    rw [List.mem_range] at h1
    have h2 := List.find?_some hf
    refine ⟨h1, h2, fun k hk => ?_⟩
    have hk : k < s := hk
    rw [List.find?_range_eq_some] at hf
    have := hf.2.2 k hk
    simpa using this
theorem far_none {m f : Nat} (h : ¬ ∃ s, s < 64 ∧ m.testBit ((f + s) % 64) = true) : far m f = 64 := by
  unfold far
  rcases hf : (List.range 64).find? (fun s => m.testBit ((f + s) % 64)) with _ | s
  · rfl
  · have h2 : m.testBit ((f + s) % 64) = true := by
      have := List.find?_some hf
      exact this
    exact absurd ⟨s, by simpa using List.mem_of_find?_eq_some hf, h2⟩ h
theorem far_none_iff {m f : Nat} (hm : m < 2 ^ 64) : (¬ ∃ s, s < 64 ∧ m.testBit ((f + s) % 64) = true) ↔ m = 0 := by
  rw [zero_iff hm]
  constructor
  · intro h k hk
    rcases e : m.testBit k with _ | _
    · rfl
    · exact absurd ⟨(k + 64 - f % 64) % 64, Nat.mod_lt _ (by omega), by rw [show (f + (k + 64 - f % 64) % 64) % 64 = k by omega]; exact e⟩ h
  · rintro h ⟨s, _, h2⟩
    rw [h _ (Nat.mod_lt _ (by omega))] at h2; cases h2

/-- the elements met from slot a on, d slots far. -/
def met (m a d : Nat) : List Nat := ((List.range d).map (fun t => (a + t) % 64)).filter (fun k => m.testBit k)
theorem met_zero (m a : Nat) : met m a 0 = [] := rfl
theorem met_succ (m a d : Nat) : met m a (d + 1) = if m.testBit ((a + d) % 64) then met m a d ++ [(a + d) % 64] else met m a d := by
  unfold met; rw [List.range_succ, List.map_append, List.filter_append]
  by_cases h : m.testBit ((a + d) % 64) = true
  · simp [h]
  · simp [h]
theorem met_skip (m a d e : Nat) (h : ∀ s, s < e → m.testBit ((a + d + s) % 64) = false) : met m a (d + e) = met m a d := by
  induction e with
  | zero => rfl
  | succ e ih =>
    rw [← Nat.add_assoc, met_succ, ih (fun s hs => h s (by omega)), show a + (d + e) = a + d + e by omega, h e (by omega)]; rfl
theorem mem_met (m a k : Nat) (hk : k < 64) : k ∈ met m a 64 ↔ m.testBit k = true := by
  unfold met
  rw [List.mem_filter, List.mem_map]
  constructor
  · exact fun h => h.2
  · intro h
    exact ⟨⟨(k + 64 - a % 64) % 64, List.mem_range.2 (Nat.mod_lt _ (by omega)), by omega⟩, h⟩
theorem met_len (m a : Nat) : (met m a 64).length = (lst m).length := by
  have hp : List.Perm ((List.range 64).map (fun t => (a + t) % 64)) (List.range 64) := by
    have key : ∀ r : Fin 64, List.Perm ((List.range 64).map (fun t => (r.val + t) % 64)) (List.range 64) := by decide +kernel
    have := key ⟨a % 64, Nat.mod_lt _ (by omega)⟩
    have e : (fun t => (a % 64 + t) % 64) = (fun t => (a + t) % 64) := by funext t; omega
    simp only [e] at this
    exact this
  exact (hp.filter _).length_eq
end MK
end Go.Proofs.YtlihcljjpalapaaDoor
