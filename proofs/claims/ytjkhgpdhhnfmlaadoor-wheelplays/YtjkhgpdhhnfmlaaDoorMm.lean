/- Sets of slots as numbers below 2^64: lists of their elements, the next one, straight and round. Nothing of the program is named here. -/
import Derived.Lib.TrailingZeros
namespace Go.Proofs.YtjkhgpdhhnfmlaaDoor
namespace MK

def B64 : Nat := 18446744073709551616
theorem b64 : B64 = 2 ^ 64 := by decide

/-- the elements, rising. -/
def lst (m : Nat) : List Nat := (List.range 64).filter (fun i => m.testBit i)
theorem mem_lst (m i : Nat) : i ∈ lst m ↔ i < 64 ∧ m.testBit i = true := by
  unfold lst; rw [List.mem_filter, List.mem_range]

theorem ext64 {a b : Nat} (ha : a < 2 ^ 64) (hb : b < 2 ^ 64) (h : ∀ k, k < 64 → a.testBit k = b.testBit k) : a = b := by
  apply Nat.eq_of_testBit_eq
  intro k
  by_cases hk : k < 64
  · exact h k hk
  · rw [Nat.testBit_lt_two_pow (Nat.lt_of_lt_of_le ha (Nat.pow_le_pow_right (by omega) (by omega))), Nat.testBit_lt_two_pow (Nat.lt_of_lt_of_le hb (Nat.pow_le_pow_right (by omega) (by omega)))]

theorem zero_iff {m : Nat} (hm : m < 2 ^ 64) : m = 0 ↔ ∀ k, k < 64 → m.testBit k = false := by
  constructor
  · intro h k _; rw [h]; exact Nat.zero_testBit k
  · intro h; exact ext64 hm (by decide) (fun k hk => by rw [h k hk]; exact (Nat.zero_testBit k).symm)

/-- with a slot, without it. -/
def wit (m i : Nat) : Nat := m ||| 2 ^ i
def wout (m i : Nat) : Nat := m &&& (2 ^ 64 - 1 - 2 ^ i)
theorem wit_bit (m i k : Nat) : (wit m i).testBit k = (m.testBit k || decide (i = k)) := by
  unfold wit; rw [Nat.testBit_or, Nat.testBit_two_pow]
theorem wit_lt {m i : Nat} (hm : m < 2 ^ 64) (hi : i < 64) : wit m i < 2 ^ 64 :=
  Nat.or_lt_two_pow hm (Nat.pow_lt_pow_right (by omega) hi)

/-- the set of the slots of a list. -/
def ofL (l : List Int) : Nat := l.foldl (fun m i => if 0 ≤ i ∧ i < 64 then wit m i.toNat else m) 0
theorem ofL_step (l : List Int) (a : Nat) (k : Nat) (hk : k < 64) : (l.foldl (fun m i => if 0 ≤ i ∧ i < 64 then wit m i.toNat else m) a).testBit k = (a.testBit k || decide ((k : Int) ∈ l)) := by
  induction l generalizing a with
  | nil => simp
  | cons c l ih =>
    rw [List.foldl_cons, ih]
    by_cases h : 0 ≤ c ∧ c < 64
    · rw [if_pos h, wit_bit]
      have e : decide (c.toNat = k) = decide ((k : Int) = c) := by rw [decide_eq_decide]; omega
      rw [e]
      simp [List.mem_cons, Bool.or_assoc]
    · rw [if_neg h]
      have : ¬ (k : Int) = c := by omega
      simp [List.mem_cons, this]
theorem ofL_bit (l : List Int) (k : Nat) (hk : k < 64) : (ofL l).testBit k = decide ((k : Int) ∈ l) := by
  unfold ofL; rw [ofL_step l 0 k hk]; simp
theorem ofL_lt (l : List Int) : ofL l < 2 ^ 64 := by
  have : ∀ (l : List Int) (a : Nat), a < 2 ^ 64 → l.foldl (fun m i => if 0 ≤ i ∧ i < 64 then wit m i.toNat else m) a < 2 ^ 64 := by
    intro l
    induction l with
    | nil => intro a ha; exact ha
    | cons c l ih =>
      intro a ha
      rw [List.foldl_cons]
      apply ih
      by_cases h : 0 ≤ c ∧ c < 64
      · rw [if_pos h]; exact wit_lt ha (by omega)
      · rw [if_neg h]; exact ha
  exact this l 0 (by decide)
/-- a list of slots that holds just the elements is the set. -/
theorem ofL_eq {m : Nat} (hm : m < 2 ^ 64) (l : List Int) (h : ∀ k : Nat, k < 64 → ((k : Int) ∈ l ↔ m.testBit k = true)) : ofL l = m :=
  ext64 (ofL_lt l) hm (fun k hk => by
    rw [ofL_bit l k hk, Bool.eq_iff_iff, decide_eq_true_eq]; exact h k hk)
theorem ofL_snoc (l : List Int) (i : Int) : ofL (l ++ [i]) = if 0 ≤ i ∧ i < 64 then wit (ofL l) i.toNat else ofL l := by
  unfold ofL; rw [List.foldl_append]; rfl
theorem add_bit {m i : Nat} (h : m.testBit i = false) : m + 2 ^ i = wit m i := by
  unfold wit
  rw [Nat.testBit_eq_decide_div_mod_eq, decide_eq_false_iff_not] at h
  obtain ⟨q, hq⟩ : ∃ q, m / 2 ^ i = 2 * q := ⟨m / 2 ^ i / 2, by omega⟩
  have hr : m % 2 ^ i < 2 ^ i := Nat.mod_lt _ (Nat.two_pow_pos i)
  have hm : m = 2 ^ (i + 1) * q + m % 2 ^ i := by
    have := Nat.div_add_mod m (2 ^ i)
    rw [hq] at this
    rw [Nat.pow_succ, Nat.mul_assoc]; omega
  have hp : 2 ^ (i + 1) = 2 ^ i + 2 ^ i := by rw [Nat.pow_succ]; omega
  generalize m % 2 ^ i = r at *
  have e1 := Nat.two_pow_add_eq_or_of_lt (i := i + 1) (b := r) (by omega) q
  have e2 := Nat.two_pow_add_eq_or_of_lt (i := i + 1) (b := 2 ^ i + r) (by omega) q
  have e3 := Nat.two_pow_add_eq_or_of_lt (i := i) (b := r) hr 1
  rw [Nat.mul_one] at e3
  rw [hm, Nat.add_assoc, Nat.add_comm r, e2, e1, e3, Nat.or_assoc, Nat.or_comm r]

/-! ### round -/
/-- the first slot from f on, going round, that is in: how far it is (64: there is none). -/
def far (m f : Nat) : Nat := ((List.range 64).find? (fun s => m.testBit ((f + s) % 64))).getD 64
theorem far_le (m f : Nat) : far m f ≤ 64 := by
  unfold far
  rcases h : (List.range 64).find? (fun s => m.testBit ((f + s) % 64)) with _ | s
  · simp
  · have := List.mem_of_find?_eq_some h
    rw [List.mem_range] at this
    simp; omega
theorem far_some {m f : Nat} (h : ∃ s, s < 64 ∧ m.testBit ((f + s) % 64) = true) : far m f < 64 ∧ m.testBit ((f + far m f) % 64) = true ∧ ∀ s, s < far m f → m.testBit ((f + s) % 64) = false := by
  unfold far
  rcases hf : (List.range 64).find? (fun s => m.testBit ((f + s) % 64)) with _ | s
  · obtain ⟨s, h1, h2⟩ := h
    have := List.find?_eq_none.1 hf s (List.mem_range.2 h1)
    rw [h2] at this; exact absurd rfl this
  · have h1 := List.mem_of_find?_eq_some hf
    rw [List.mem_range] at h1
    have h2 := List.find?_some hf
    refine ⟨h1, h2, fun k hk => ?_⟩
    have hk : k < s := hk
    rw [List.find?_range_eq_some] at hf
    have := hf.2.2 k hk
    simpa using this
theorem far_none {m f : Nat} (h : ¬ ∃ s, s < 64 ∧ m.testBit ((f + s) % 64) = true) : far m f = 64 := by
  unfold far
  rcases hf : (List.range 64).find? (fun s => m.testBit ((f + s) % 64)) with _ | s
  · rfl
  · have h2 : m.testBit ((f + s) % 64) = true := by
      have := List.find?_some hf
      exact this
    exact absurd ⟨s, by simpa using List.mem_of_find?_eq_some hf, h2⟩ h
theorem far_none_iff {m f : Nat} (hm : m < 2 ^ 64) : (¬ ∃ s, s < 64 ∧ m.testBit ((f + s) % 64) = true) ↔ m = 0 := by
  rw [zero_iff hm]
  constructor
  · intro h k hk
    rcases e : m.testBit k with _ | _
    · rfl
    · exact absurd ⟨(k + 64 - f % 64) % 64, Nat.mod_lt _ (by omega), by rw [show (f + (k + 64 - f % 64) % 64) % 64 = k by omega]; exact e⟩ h
  · rintro h ⟨s, _, h2⟩
    rw [h _ (Nat.mod_lt _ (by omega))] at h2; cases h2

/-- the elements met from slot a on, d slots far. -/
def met (m a d : Nat) : List Nat := ((List.range d).map (fun t => (a + t) % 64)).filter (fun k => m.testBit k)
theorem met_zero (m a : Nat) : met m a 0 = [] := rfl
theorem met_succ (m a d : Nat) : met m a (d + 1) = if m.testBit ((a + d) % 64) then met m a d ++ [(a + d) % 64] else met m a d := by
  unfold met; rw [List.range_succ, List.map_append, List.filter_append]
  by_cases h : m.testBit ((a + d) % 64) = true
  · simp [h]
  · simp [h]
theorem met_skip (m a d e : Nat) (h : ∀ s, s < e → m.testBit ((a + d + s) % 64) = false) : met m a (d + e) = met m a d := by
  induction e with
  | zero => rfl
  | succ e ih =>
    rw [← Nat.add_assoc, met_succ, ih (fun s hs => h s (by omega)), show a + (d + e) = a + d + e by omega, h e (by omega)]; rfl
theorem mem_met (m a k : Nat) (hk : k < 64) : k ∈ met m a 64 ↔ m.testBit k = true := by
  unfold met
  rw [List.mem_filter, List.mem_map]
  constructor
  · exact fun h => h.2
  · intro h
    exact ⟨⟨(k + 64 - a % 64) % 64, List.mem_range.2 (Nat.mod_lt _ (by omega)), by omega⟩, h⟩
theorem met_len (m a : Nat) : (met m a 64).length = (lst m).length := by
  have hp : List.Perm ((List.range 64).map (fun t => (a + t) % 64)) (List.range 64) := by
    have key : ∀ r : Fin 64, List.Perm ((List.range 64).map (fun t => (r.val + t) % 64)) (List.range 64) := by decide +kernel
    have := key ⟨a % 64, Nat.mod_lt _ (by omega)⟩
    have e : (fun t => (a % 64 + t) % 64) = (fun t => (a + t) % 64) := by funext t; omega
    simp only [e] at this
    exact this
  exact (hp.filter _).length_eq
end MK
end Go.Proofs.YtjkhgpdhhnfmlaaDoor

/- Sets of slots: what the functions of the chapter and of the document return, as mathematics. Nothing of the program is named here. -/
namespace Go.Proofs.YtjkhgpdhhnfmlaaDoor
namespace MK

/-- the set of slot i alone; with it; without it; is it in? -/
def onl (i : Int) : Nat := if 0 ≤ i ∧ i < 64 then 2 ^ i.toNat else 0
def wth (m : Nat) (i : Int) : Nat := if 0 ≤ i ∧ i < 64 then wit m i.toNat else m
def wot (m : Nat) (i : Int) : Nat := m &&& (18446744073709551615 - onl i)
def has (m : Nat) (i : Int) : Bool := decide (0 ≤ i ∧ i < 64) && m.testBit i.toNat
theorem onl_in {i : Int} (h : 0 ≤ i ∧ i < 64) : onl i = 2 ^ i.toNat := if_pos h
theorem onl_out {i : Int} (h : ¬ (0 ≤ i ∧ i < 64)) : onl i = 0 := if_neg h
theorem onl_lt (i : Int) : onl i < 2 ^ 64 := by
  by_cases h : 0 ≤ i ∧ i < 64
  · rw [onl_in h]; exact Nat.pow_lt_pow_right (by omega) (by omega)
  · rw [onl_out h]; decide
theorem or_onl (m : Nat) (i : Int) : m ||| onl i = wth m i := by
  unfold wth
  by_cases h : 0 ≤ i ∧ i < 64
  · rw [onl_in h, if_pos h]; rfl
  · rw [onl_out h, if_neg h]; simp
theorem wth_lt {m : Nat} (hm : m < 2 ^ 64) (i : Int) : wth m i < 2 ^ 64 := by
  rw [← or_onl]; exact Nat.or_lt_two_pow hm (onl_lt i)
theorem onl_bit (i : Int) (k : Nat) (hk : k < 64) : (onl i).testBit k = decide (i = (k : Int)) := by
  by_cases h : 0 ≤ i ∧ i < 64
  · rw [onl_in h, Nat.testBit_two_pow, decide_eq_decide]; omega
  · rw [onl_out h, Nat.zero_testBit]
    have : ¬ i = (k : Int) := by omega
    simp [this]
theorem wth_bit (m : Nat) (i : Int) (k : Nat) (hk : k < 64) : (wth m i).testBit k = (m.testBit k || decide (i = (k : Int))) := by
  rw [← or_onl, Nat.testBit_or, onl_bit i k hk]
theorem wot_bit (m : Nat) (i : Int) (k : Nat) (hk : k < 64) : (wot m i).testBit k = (m.testBit k && !decide (i = (k : Int))) := by
  unfold wot
  rw [Nat.testBit_and, show 18446744073709551615 - onl i = 2 ^ 64 - (onl i + 1) by have := onl_lt i; omega, Nat.testBit_two_pow_sub_succ (onl_lt i), onl_bit i k hk]
  simp [hk]
theorem wot_lt {m : Nat} (hm : m < 2 ^ 64) (i : Int) : wot m i < 2 ^ 64 := Nat.lt_of_le_of_lt Nat.and_le_left hm
theorem and_two (m n : Nat) : (m &&& 2 ^ n = 0) ↔ m.testBit n = false := by
  constructor
  · intro h
    have := congrArg (fun x => Nat.testBit x n) h
    simpa [Nat.testBit_and, Nat.testBit_two_pow] using this
  · intro h
    apply Nat.eq_of_testBit_eq
    intro k
    rw [Nat.testBit_and, Nat.testBit_two_pow, Nat.zero_testBit]
    by_cases e : n = k
    · subst e; simp [h]
    · simp [e]
theorem and_onl (m : Nat) (i : Int) : decide (m &&& onl i = 0) = !has m i := by
  unfold has
  by_cases h : 0 ≤ i ∧ i < 64
  · rw [onl_in h]
    simp only [and_two, h]
    cases m.testBit i.toNat <;> simp
  · rw [onl_out h]; simp [h]
theorem has_nat (m k : Nat) (hk : k < 64) : has m (k : Int) = m.testBit k := by
  unfold has
  have : (0 : Int) ≤ (k : Int) ∧ (k : Int) < 64 := by omega
  simp [this]
theorem has_out {m : Nat} {i : Int} (h : ¬ (0 ≤ i ∧ i < 64)) : has m i = false := by unfold has; simp [h]

/-- the elements below k; the elements. -/
def pre (m k : Nat) : List Int := ((List.range k).filter (fun i => m.testBit i)).map (fun i : Nat => (i : Int))
def els (m : Nat) : List Int := pre m 64
theorem pre_succ (m k : Nat) : pre m (k + 1) = if m.testBit k then pre m k ++ [(k : Int)] else pre m k := by
  unfold pre; rw [List.range_succ, List.filter_append, List.map_append]
  by_cases h : m.testBit k = true
  · simp [h]
  · simp [h]
theorem pre_len (m k : Nat) : (pre m k).length ≤ k := by
  unfold pre; rw [List.length_map]
  exact Nat.le_trans (List.length_filter_le _ _) (by simp)
theorem els_len (m : Nat) : (els m).length ≤ 64 := pre_len m 64
theorem els_lst (m : Nat) : (els m).length = (lst m).length := by unfold els pre lst; simp
theorem mem_els (m : Nat) (z : Int) : z ∈ els m ↔ has m z = true := by
  unfold els pre has
  simp only [List.mem_map, List.mem_filter, List.mem_range, Bool.and_eq_true, decide_eq_true_eq]
  constructor
  · rintro ⟨n, ⟨h1, h2⟩, rfl⟩; exact ⟨by omega, by simpa using h2⟩
  · rintro ⟨h1, h2⟩; exact ⟨z.toNat, ⟨by omega, h2⟩, by omega⟩
theorem els_sorted (m : Nat) : (els m).Pairwise (· < ·) := by
  unfold els pre
  rw [List.pairwise_map]
  exact (List.Pairwise.filter _ List.pairwise_lt_range).imp (fun h => by omega)

/-- n numbers, told by a function. -/
def fl (n : Nat) (f : Nat → Int) : List Int := (List.range n).map f
theorem fl_succ (n : Nat) (f : Nat → Int) : fl (n + 1) f = fl n f ++ [f n] := by unfold fl; rw [List.range_succ, List.map_append]; rfl
theorem fl_len (n : Nat) (f : Nat → Int) : (fl n f).length = n := by unfold fl; simp
theorem fl_get (n : Nat) (f : Nat → Int) (j : Nat) (h : j < (fl n f).length) : (fl n f)[j] = f j := by simp [fl]
theorem fl_of (l : List Int) : fl l.length (fun j => l.getD j 0) = l := by
  apply List.ext_getElem
  · rw [fl_len]
  · intro j h1 h2
    rw [fl_get]; simp [h2]
theorem ofL_fl_succ (n : Nat) (f : Nat → Int) : ofL (fl (n + 1) f) = wth (ofL (fl n f)) (f n) := by rw [fl_succ, ofL_snoc]; rfl

/-- the first one from f on. -/
def nxt (m : Nat) (f : Int) : Option Int := (els m).find? (fun k => decide (f ≤ k))
theorem nxt_some {m : Nat} {f : Int} {n : Nat} (h1 : n < 64) (h2 : m.testBit n = true) (h3 : f ≤ (n : Int)) (h4 : ∀ j : Nat, j < n → f ≤ (j : Int) → m.testBit j = false) : nxt m f = some (n : Int) := by
  unfold nxt els pre
  rw [List.find?_map, List.find?_filter, Option.map_eq_some_iff]
  refine ⟨n, ?_, rfl⟩
  rw [List.find?_range_eq_some]
  refine ⟨by simp [h2, h3], List.mem_range.2 h1, fun j hj => ?_⟩
  by_cases hf : f ≤ (j : Int)
  · simp [h4 j hj hf]
  · simp [hf]
theorem nxt_none {m : Nat} {f : Int} (h : ∀ j : Nat, j < 64 → f ≤ (j : Int) → m.testBit j = false) : nxt m f = none := by
  unfold nxt
  rw [List.find?_eq_none]
  intro z hz
  rw [mem_els] at hz
  unfold has at hz
  rw [Bool.and_eq_true, decide_eq_true_eq] at hz
  intro hf
  rw [decide_eq_true_eq] at hf
  have := h z.toNat (by omega) (by omega)
  rw [this] at hz; cases hz.2
theorem nxt_is (m : Nat) (f : Int) : (nxt m f = none ∧ ∀ j : Nat, j < 64 → f ≤ (j : Int) → m.testBit j = false) ∨ ∃ n : Nat, nxt m f = some (n : Int) ∧ n < 64 ∧ m.testBit n = true ∧ f ≤ (n : Int) ∧ ∀ j : Nat, j < n → f ≤ (j : Int) → m.testBit j = false := by
  rcases h : (List.range 64).find? (fun k : Nat => m.testBit k && decide (f ≤ (k : Int))) with _ | n
  · left
    have key : ∀ j : Nat, j < 64 → f ≤ (j : Int) → m.testBit j = false := by
      intro j hj hf
      have := List.find?_eq_none.1 h j (List.mem_range.2 hj)
      simpa [hf] using this
    exact ⟨nxt_none key, key⟩
  · right
    rw [List.find?_range_eq_some] at h
    obtain ⟨h1, h2, h3⟩ := h
    rw [Bool.and_eq_true, decide_eq_true_eq] at h1
    have key : ∀ j : Nat, j < n → f ≤ (j : Int) → m.testBit j = false := by
      intro j hj hf
      have := h3 j hj
      simpa [hf] using this
    exact ⟨n, nxt_some (List.mem_range.1 h2) h1.1 h1.2 key, List.mem_range.1 h2, h1.1, h1.2, key⟩
def rnd (m : Nat) (f : Int) : Option Int := if 0 ≤ f ∧ f < 64 then (nxt m f).or (nxt m 0) else none
def ov (o : Option Int) : Int := o.getD 0

/-- what is left of m from slot s on. -/
def rest (m s : Nat) : Nat := m / 2 ^ s * 2 ^ s
theorem rest_le (m s : Nat) : rest m s ≤ m := Nat.div_mul_le_self _ _
theorem rest_bit (m s k : Nat) : (rest m s).testBit k = (decide (s ≤ k) && m.testBit k) := by
  unfold rest
  rw [Nat.testBit_mul_two_pow]
  by_cases h : s ≤ k
  · rw [Nat.testBit_div_two_pow]; simp [h]
  · simp [h]
theorem ctz_is {x : Nat} (h0 : x ≠ 0) (hx : x < 2 ^ 64) : Lib.ctz 64 x < 64 ∧ x.testBit (Lib.ctz 64 x) = true ∧ ∀ k, k < Lib.ctz 64 x → x.testBit k = false := by
  unfold Lib.ctz
  rw [if_neg h0]
  obtain ⟨q, e, hc⟩ := Lib.ctzFrom_spec 64 x (by omega) hx
  generalize Lib.ctzFrom 64 x = c at *
  refine ⟨hc, ?_, fun k hk => ?_⟩
  · rw [e, Nat.testBit_two_pow_mul]; simp [Nat.testBit_zero]
  · rw [e, Nat.testBit_two_pow_mul]; simp; omega
theorem nxt_zero {m s : Nat} (f : Int) (hs : ∀ j : Nat, f ≤ (j : Int) ↔ s ≤ j) (h : rest m s = 0) : nxt m f = none :=
  nxt_none fun j _ hf => by
    have := rest_bit m s j
    rw [h, Nat.zero_testBit] at this
    have hj := (hs j).1 hf
    simpa [hj] using this.symm
theorem nxt_ctz {m s : Nat} (f : Int) (hm : m < 2 ^ 64) (hs : ∀ j : Nat, f ≤ (j : Int) ↔ s ≤ j) (h : rest m s ≠ 0) : nxt m f = some (Lib.ctz 64 (rest m s) : Int) := by
  obtain ⟨h1, h2, h3⟩ := ctz_is h (Nat.lt_of_le_of_lt (rest_le m s) hm)
  rw [rest_bit, Bool.and_eq_true, decide_eq_true_eq] at h2
  refine nxt_some h1 h2.2 ((hs _).2 h2.1) fun j hj hf => ?_
  have := h3 j hj
  rw [rest_bit] at this
  have hj' := (hs j).1 hf
  simpa [hj'] using this

/-! ### round -/
theorem rnd_far {m f : Nat} (hf : f < 64) (h : ∃ s, s < 64 ∧ m.testBit ((f + s) % 64) = true) : rnd m (f : Int) = some (((f + far m f) % 64 : Nat) : Int) := by
  obtain ⟨h1, h2, h3⟩ := far_some h
  unfold rnd
  rw [if_pos (by omega)]
  by_cases hw : f + far m f < 64
  · rw [nxt_some (n := (f + far m f) % 64) (Nat.mod_lt _ (by omega)) h2 (by omega) (fun j hj hfj => by
      have := h3 (j - f) (by omega)
      rw [show (f + (j - f)) % 64 = j by omega] at this; exact this)]
    rfl
  · rw [nxt_none (fun j hj hfj => by
      have := h3 (j - f) (by omega)
      rw [show (f + (j - f)) % 64 = j by omega] at this; exact this)]
    rw [nxt_some (n := (f + far m f) % 64) (Nat.mod_lt _ (by omega)) h2 (by omega) (fun j hj _ => by
      have := h3 (j + 64 - f) (by omega)
      rw [show (f + (j + 64 - f)) % 64 = j by omega] at this; exact this)]
    rfl
theorem rnd_none {m f : Nat} (h : m = 0) : rnd m (f : Int) = none := by
  subst h
  unfold rnd
  split
  · rw [nxt_none (fun j _ _ => Nat.zero_testBit j), nxt_none (fun j _ _ => Nat.zero_testBit j)]; rfl
  · rfl
end MK
end Go.Proofs.YtjkhgpdhhnfmlaaDoor
