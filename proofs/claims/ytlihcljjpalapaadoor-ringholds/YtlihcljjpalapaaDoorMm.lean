/- Sets of slots: what the functions of the chapter and of the document return, as mathematics. Nothing of the program is named here. -/
import Derived.Test.YtlihcljjpalapaaDoorMk
import Derived.Lib.TrailingZeros
namespace Go.Proofs.YtlihcljjpalapaaDoor
namespace MK

/-- the set of slot i alone; with it; without it; is it in? -/
def onl (i : Int) : Nat := if 0 ≤ i ∧ i < 64 then 2 ^ i.toNat else 0
def wth (m : Nat) (i : Int) : Nat := if 0 ≤ i ∧ i < 64 then wit m i.toNat else m
def wot (m : Nat) (i : Int) : Nat := m &&& (18446744073709551615 - onl i)
def has (m : Nat) (i : Int) : Bool := decide (0 ≤ i ∧ i < 64) && m.testBit i.toNat
theorem onl_in {i : Int} (h : 0 ≤ i ∧ i < 64) : onl i = 2 ^ i.toNat := if_pos h
theorem onl_out {i : Int} (h : ¬ (0 ≤ i ∧ i < 64)) : onl i = 0 := if_neg h
theorem onl_lt (i : Int) : onl i < 2 ^ 64 := by
  by_cases h : 0 ≤ i ∧ i < 64
  · rw [onl_in h]; exact Nat.pow_lt_pow_right (by omega) (by omega)
  · rw [onl_out h]; decide
theorem or_onl (m : Nat) (i : Int) : m ||| onl i = wth m i := by
  unfold wth
  by_cases h : 0 ≤ i ∧ i < 64
  · rw [onl_in h, if_pos h]; rfl
  · rw [onl_out h, if_neg h]; simp
theorem wth_lt {m : Nat} (hm : m < 2 ^ 64) (i : Int) : wth m i < 2 ^ 64 := by
  rw [← or_onl]; exact Nat.or_lt_two_pow hm (onl_lt i)
theorem onl_bit (i : Int) (k : Nat) (hk : k < 64) : (onl i).testBit k = decide (i = (k : Int)) := by
  by_cases h : 0 ≤ i ∧ i < 64
  · rw [onl_in h, Nat.testBit_two_pow, decide_eq_decide]; omega
  · rw [onl_out h, Nat.zero_testBit]
    have : ¬ i = (k : Int) := by omega
    simp [this]
theorem wth_bit (m : Nat) (i : Int) (k : Nat) (hk : k < 64) : (wth m i).testBit k = (m.testBit k || decide (i = (k : Int))) := by
  rw [← or_onl, Nat.testBit_or, onl_bit i k hk]
theorem wot_bit (m : Nat) (i : Int) (k : Nat) (hk : k < 64) : (wot m i).testBit k = (m.testBit k && !decide (i = (k : Int))) := by
  unfold wot
  rw [Nat.testBit_and, show 18446744073709551615 - onl i = 2 ^ 64 - (onl i + 1) by have := onl_lt i; omega, Nat.testBit_two_pow_sub_succ (onl_lt i), onl_bit i k hk]
  simp [hk]
theorem wot_lt {m : Nat} (hm : m < 2 ^ 64) (i : Int) : wot m i < 2 ^ 64 := Nat.lt_of_le_of_lt Nat.and_le_left hm
theorem and_two (m n : Nat) : (m &&& 2 ^ n = 0) ↔ m.testBit n = false := by
  constructor
  · intro h
    have := congrArg (fun x => Nat.testBit x n) h
    simpa [Nat.testBit_and, Nat.testBit_two_pow] using this
  · intro h
    apply Nat.eq_of_testBit_eq
    intro k
    rw [Nat.testBit_and, Nat.testBit_two_pow, Nat.zero_testBit]
    by_cases e : n = k
    · subst e; simp [h]
    · simp [e]
theorem and_onl (m : Nat) (i : Int) : decide (m &&& onl i = 0) = !has m i := by
  unfold has
  by_cases h : 0 ≤ i ∧ i < 64
  · rw [onl_in h]
    simp only [and_two, h]
    cases m.testBit i.toNat <;> simp
  · rw [onl_out h]; simp [h]
theorem has_nat (m k : Nat) (hk : k < 64) : has m (k : Int) = m.testBit k := by
  unfold has
  have : (0 : Int) ≤ (k : Int) ∧ (k : Int) < 64 := by omega
  simp [this]
theorem has_out {m : Nat} {i : Int} (h : ¬ (0 ≤ i ∧ i < 64)) : has m i = false := by unfold has; simp [h]

/-- the elements below k; the elements. -/
def pre (m k : Nat) : List Int := ((List.range k).filter (fun i => m.testBit i)).map (fun i : Nat => (i : Int))
def els (m : Nat) : List Int := pre m 64
theorem pre_succ (m k : Nat) : pre m (k + 1) = if m.testBit k then pre m k ++ [(k : Int)] else pre m k := by
  unfold pre; rw [List.range_succ, List.filter_append, List.map_append]
  by_cases h : m.testBit k = true
  · simp [h]
  · simp [h]
theorem pre_len (m k : Nat) : (pre m k).length ≤ k := by
  unfold pre; rw [List.length_map]
  exact Nat.le_trans (List.length_filter_le _ _) (by simp)
theorem els_len (m : Nat) : (els m).length ≤ 64 := pre_len m 64
theorem els_lst (m : Nat) : (els m).length = (lst m).length := by unfold els pre lst; simp
theorem mem_els (m : Nat) (z : Int) : z ∈ els m ↔ has m z = true := by
  unfold els pre has
  simp only [List.mem_map, List.mem_filter, List.mem_range, Bool.and_eq_true, decide_eq_true_eq]
  constructor
  · rintro ⟨n, ⟨h1, h2⟩, rfl⟩; exact ⟨by omega, by simpa using h2⟩
  · rintro ⟨h1, h2⟩; exact ⟨z.toNat, ⟨by omega, h2⟩, by omega⟩
theorem els_sorted (m : Nat) : (els m).Pairwise (· < ·) := by
  unfold els pre
  rw [List.pairwise_map]
  exact (List.Pairwise.filter _ List.pairwise_lt_range).imp (fun h => by omega)

/-- n numbers, told by a function. -/
def fl (n : Nat) (f : Nat → Int) : List Int := (List.range n).map f
theorem fl_succ (n : Nat) (f : Nat → Int) : fl (n + 1) f = fl n f ++ [f n] := by unfold fl; rw [List.range_succ, List.map_append]; rfl
theorem fl_len (n : Nat) (f : Nat → Int) : (fl n f).length = n := by unfold fl; simp
theorem fl_get (n : Nat) (f : Nat → Int) (j : Nat) (h : j < (fl n f).length) : (fl n f)[j] = f j := by simp [fl]
theorem fl_of (l : List Int) : fl l.length (fun j => l.getD j 0) = l := by
  apply List.ext_getElem
  · rw [fl_len]
  · intro j h1 h2
    rw [fl_get]; simp [h2]
theorem ofL_fl_succ (n : Nat) (f : Nat → Int) : ofL (fl (n + 1) f) = wth (ofL (fl n f)) (f n) := by rw [fl_succ, ofL_snoc]; rfl

/-- the first one from f on. -/
def nxt (m : Nat) (f : Int) : Option Int := (els m).find? (fun k => decide (f ≤ k))
theorem nxt_some {m : Nat} {f : Int} {n : Nat} (h1 : n < 64) (h2 : m.testBit n = true) (h3 : f ≤ (n : Int)) (h4 : ∀ j : Nat, j < n → f ≤ (j : Int) → m.testBit j = false) : nxt m f = some (n : Int) := by
  unfold nxt els pre
  rw [List.find?_map, List.find?_filter, Option.map_eq_some_iff]
  refine ⟨n, ?_, rfl⟩
  rw [List.find?_range_eq_some]
  refine ⟨by simp [h2, h3], List.mem_range.2 h1, fun j hj => ?_⟩
  by_cases hf : f ≤ (j : Int)
  · simp [h4 j hj hf]
  · simp [hf]
theorem nxt_none {m : Nat} {f : Int} (h : ∀ j : Nat, j < 64 → f ≤ (j : Int) → m.testBit j = false) : nxt m f = none := by
  unfold nxt
  rw [List.find?_eq_none]
  intro z hz
  rw [mem_els] at hz
  unfold has at hz
  rw [Bool.and_eq_true, decide_eq_true_eq] at hz
  intro hf
  rw [decide_eq_true_eq] at hf
  have := h z.toNat (by omega) (by omega)
  rw [this] at hz; cases hz.2
theorem nxt_is (m : Nat) (f : Int) : (nxt m f = none ∧ ∀ j : Nat, j < 64 → f ≤ (j : Int) → m.testBit j = false) ∨ ∃ n : Nat, nxt m f = some (n : Int) ∧ n < 64 ∧ m.testBit n = true ∧ f ≤ (n : Int) ∧ ∀ j : Nat, j < n → f ≤ (j : Int) → m.testBit j = false := by
  rcases h : (List.range 64).find? (fun k : Nat => m.testBit k && decide (f ≤ (k : Int))) with _ | n
  · left
    have key : ∀ j : Nat, j < 64 → f ≤ (j : Int) → m.testBit j = false := by
      intro j hj hf
      have := List.find?_eq_none.1 h j (List.mem_range.2 hj)
      simpa [hf] using this
    exact ⟨nxt_none key, key⟩
  · right
    rw [List.find?_range_eq_some] at h
    obtain ⟨h1, h2, h3⟩ := h
    rw [Bool.and_eq_true, decide_eq_true_eq] at h1
    have key : ∀ j : Nat, j < n → f ≤ (j : Int) → m.testBit j = false := by
      intro j hj hf
      have := h3 j hj
      simpa [hf] using this
    exact ⟨n, nxt_some (List.mem_range.1 h2) h1.1 h1.2 key, List.mem_range.1 h2, h1.1, h1.2, key⟩
def rnd (m : Nat) (f : Int) : Option Int := if 0 ≤ f ∧ f < 64 then (nxt m f).or (nxt m 0) else none
def ov (o : Option Int) : Int := o.getD 0

/-- what is left of m from slot s on. -/
def rest (m s : Nat) : Nat := m / 2 ^ s * 2 ^ s
theorem rest_le (m s : Nat) : rest m s ≤ m := Nat.div_mul_le_self _ _
theorem rest_bit (m s k : Nat) : (rest m s).testBit k = (decide (s ≤ k) && m.testBit k) := by
  unfold rest
  rw [Nat.testBit_mul_two_pow]
  by_cases h : s ≤ k
  · rw [Nat.testBit_div_two_pow]; simp [h]
  · simp [h]
theorem ctz_is {x : Nat} (h0 : x ≠ 0) (hx : x < 2 ^ 64) : Lib.ctz 64 x < 64 ∧ x.testBit (Lib.ctz 64 x) = true ∧ ∀ k, k < Lib.ctz 64 x → x.testBit k = false := by
  unfold Lib.ctz
  rw [if_neg h0]
  obtain ⟨q, e, hc⟩ := Lib.ctzFrom_spec 64 x (by omega) hx
  generalize Lib.ctzFrom 64 x = c at *
  refine ⟨hc, ?_, fun k hk => ?_⟩
  · rw [e, Nat.testBit_two_pow_mul]; simp [Nat.testBit_zero]
  · rw [e, Nat.testBit_two_pow_mul]; simp; omega
theorem nxt_zero {m s : Nat} (f : Int) (hs : ∀ j : Nat, f ≤ (j : Int) ↔ s ≤ j) (h : rest m s = 0) : nxt m f = none :=
  nxt_none fun j _ hf => by
    have := rest_bit m s j
    rw [h, Nat.zero_testBit] at this
    have hj := (hs j).1 hf
    simpa [hj] using this.symm
theorem nxt_ctz {m s : Nat} (f : Int) (hm : m < 2 ^ 64) (hs : ∀ j : Nat, f ≤ (j : Int) ↔ s ≤ j) (h : rest m s ≠ 0) : nxt m f = some (Lib.ctz 64 (rest m s) : Int) := by
  obtain ⟨h1, h2, h3⟩ := ctz_is h (Nat.lt_of_le_of_lt (rest_le m s) hm)
  rw [rest_bit, Bool.and_eq_true, decide_eq_true_eq] at h2
  refine nxt_some h1 h2.2 ((hs _).2 h2.1) fun j hj hf => ?_
  have := h3 j hj
  rw [rest_bit] at this
  have hj' := (hs j).1 hf
  simpa [hj'] using this

/-! ### round -/
theorem rnd_far {m f : Nat} (hf : f < 64) (h : ∃ s, s < 64 ∧ m.testBit ((f + s) % 64) = true) : rnd m (f : Int) = some (((f + far m f) % 64 : Nat) : Int) := by
  obtain ⟨h1, h2, h3⟩ := far_some h
  unfold rnd
  rw [if_pos (by omega)]
  by_cases hw : f + far m f < 64
  · rw [nxt_some (n := (f + far m f) % 64) (Nat.mod_lt _ (by omega)) h2 (by omega) (fun j hj hfj => by
      have := h3 (j - f) (by omega)
      rw [show (f + (j - f)) % 64 = j by omega] at this; exact this)]
    rfl
  · rw [nxt_none (fun j hj hfj => by
      have := h3 (j - f) (by omega)
      rw [show (f + (j - f)) % 64 = j by omega] at this; exact this)]
    rw [nxt_some (n := (f + far m f) % 64) (Nat.mod_lt _ (by omega)) h2 (by omega) (fun j hj _ => by
      have := h3 (j + 64 - f) (by omega)
      rw [show (f + (j + 64 - f)) % 64 = j by omega] at this; exact this)]
    rfl
theorem rnd_none {m f : Nat} (h : m = 0) : rnd m (f : Int) = none := by
  subst h
  unfold rnd
  split
  · rw [nxt_none (fun j _ _ => Nat.zero_testBit j), nxt_none (fun j _ _ => Nat.zero_testBit j)]; rfl
  · rfl
end MK
end Go.Proofs.YtlihcljjpalapaaDoor
