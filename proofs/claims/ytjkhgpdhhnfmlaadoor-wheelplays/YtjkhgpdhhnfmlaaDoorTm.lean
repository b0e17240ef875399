/- Plain arithmetic for layer 1 (tick): sums and products that fit, digits in base 64, the highest digit at which two numbers differ. Nothing of the program is named here. -/
import Derived.Lib.BitFns
namespace Go.Proofs.YtjkhgpdhhnfmlaaDoor
namespace TM
open Go.Lib

/-- the sum fits. -/
def sumB (a b : Int) : Bool := decide (a + b < 18446744073709551616)
def sumV (a b : Int) : Int := if a + b < 18446744073709551616 then a + b else 0
def mulB (a b : Int) : Bool := decide (a * b < 18446744073709551616)
def mulV (a b : Int) : Int := if a * b < 18446744073709551616 then a * b else 0
def heldV (a b : Int) : Int := if a + b < 18446744073709551616 then a + b else 18446744073709551615
/-- a word of 64 bits. -/
def Wd (x : Int) : Prop := 0 ≤ x ∧ x < 18446744073709551616
/-- digit k of x. -/
def dig (x : Int) (k : Nat) : Int := x / 64 ^ k % 64

theorem p64 (k : Nat) : (0 : Int) < 64 ^ k := Int.pow_pos (by decide)
theorem quo_succ (x : Int) (k : Nat) : x / 64 ^ k / 64 = x / 64 ^ (k + 1) := by
  rw [Int.ediv_ediv_of_nonneg (Int.le_of_lt (p64 k)), Int.pow_succ]
theorem dig_nat (x k : Nat) : dig (x : Int) k = ((x / 64 ^ k % 64 : Nat) : Int) := by unfold dig; simp
theorem dig_range (x : Int) (k : Nat) : 0 ≤ dig x k ∧ dig x k ≤ 63 := by unfold dig; omega
theorem dig_ten (x : Int) (h : Wd x) : dig x 10 ≤ 15 := by
  obtain ⟨h0, h1⟩ := h
  unfold dig
  have : (64 : Int) ^ 10 = 1152921504606846976 := by decide
  omega

/-! ### bit lengths -/
theorem bitLen_pos (x : Nat) (h : x ≠ 0) (hx : x < 2 ^ 64) : 1 ≤ bitLen x := by
  rw [bitLen_half x h hx]; omega
theorem bitLen_lt (x : Nat) (hx : x < 2 ^ 64) : x < 2 ^ bitLen x := by
  by_cases h : x < 2 ^ bitLen x
  · exact h
  · have h' : 2 ^ bitLen x ≤ x := by omega
    have s := bitLen_shift (bitLen x) x h' hx
    have hp : 0 < 2 ^ bitLen x := Nat.pos_of_ne_zero (by simp)
    have h1 : x / 2 ^ bitLen x ≠ 0 := by
      have := Nat.div_pos h' hp
      omega
    have h2 := bitLen_pos (x / 2 ^ bitLen x) h1 (Nat.lt_of_le_of_lt (Nat.div_le_self _ _) hx)
    omega
theorem bitLen_ge (x : Nat) (h : x ≠ 0) (hx : x < 2 ^ 64) : 2 ^ (bitLen x - 1) ≤ x := by
  have h1 := bitLen_pos x h hx
  have h64 := bitLen_le x 64 (by omega) hx
  by_cases g : x < 2 ^ (bitLen x - 1)
  · have := bitLen_le x (bitLen x - 1) (by omega) g
    omega
  · omega

/-! ### where two numbers differ -/
/-- the highest digit at which a and b differ, as bit lengths tell it; -1 where there is none. -/
def topV (a b : Int) : Int := if a = b then -1 else ((bitLen (a.toNat ^^^ b.toNat) : Int) - 1) / 6
def topN (a b : Nat) : Nat := (bitLen (a ^^^ b) - 1) / 6

theorem pow64 (k : Nat) : 64 ^ k = 2 ^ (6 * k) := by rw [show (64 : Nat) = 2 ^ 6 from rfl, ← Nat.pow_mul]
theorem xor_ne {a b : Nat} (h : a ≠ b) : a ^^^ b ≠ 0 := by
  intro e
  apply h
  have g : a ^^^ b ^^^ b = a := by rw [Nat.xor_assoc, Nat.xor_self, Nat.xor_zero]
  rw [e, Nat.zero_xor] at g
  exact g.symm
theorem xor_div (a b k : Nat) : (a ^^^ b) / 2 ^ k = a / 2 ^ k ^^^ b / 2 ^ k := by
  rw [← Nat.shiftRight_eq_div_pow, ← Nat.shiftRight_eq_div_pow, ← Nat.shiftRight_eq_div_pow, Nat.shiftRight_xor_distrib]
theorem xor_lt64 {a b : Nat} (ha : a < 2 ^ 64) (hb : b < 2 ^ 64) : a ^^^ b < 2 ^ 64 := Nat.xor_lt_two_pow ha hb

theorem top_above {a b : Nat} (ha : a < 2 ^ 64) (hb : b < 2 ^ 64) (hne : a ≠ b) : a / 64 ^ (topN a b + 1) = b / 64 ^ (topN a b + 1) := by
  have h1 := bitLen_lt (a ^^^ b) (xor_lt64 ha hb)
  have h0 := bitLen_pos (a ^^^ b) (xor_ne hne) (xor_lt64 ha hb)
  have h2 : (a ^^^ b) / 64 ^ (topN a b + 1) = 0 := by
    rw [pow64]
    apply Nat.div_eq_of_lt
    exact Nat.lt_of_lt_of_le h1 (Nat.pow_le_pow_right (by omega) (by unfold topN; omega))
  rw [pow64, xor_div] at h2
  rw [pow64]
  by_cases e : a / 2 ^ (6 * (topN a b + 1)) = b / 2 ^ (6 * (topN a b + 1))
  · exact e
  · exact absurd h2 (xor_ne e)
theorem top_at {a b : Nat} (ha : a < 2 ^ 64) (hb : b < 2 ^ 64) (hne : a ≠ b) : a / 64 ^ topN a b ≠ b / 64 ^ topN a b := by
  intro e
  have h1 := bitLen_ge (a ^^^ b) (xor_ne hne) (xor_lt64 ha hb)
  have h0 := bitLen_pos (a ^^^ b) (xor_ne hne) (xor_lt64 ha hb)
  have h2 : 2 ^ (6 * topN a b) ≤ a ^^^ b := Nat.le_trans (Nat.pow_le_pow_right (by omega) (by unfold topN; omega)) h1
  have h3 : 1 ≤ (a ^^^ b) / 64 ^ topN a b := by rw [pow64]; exact Nat.div_pos h2 (Nat.pos_of_ne_zero (by simp))
  rw [pow64, xor_div] at h3
  rw [pow64] at e
  rw [e, Nat.xor_self] at h3
  omega
theorem top_le {a b : Nat} (ha : a < 2 ^ 64) (hb : b < 2 ^ 64) : topN a b ≤ 10 := by
  have := bitLen_le (a ^^^ b) 64 (by omega) (xor_lt64 ha hb)
  unfold topN; omega
theorem topV_nat {a b : Nat} (ha : a < 2 ^ 64) (hb : b < 2 ^ 64) (hne : a ≠ b) : topV (a : Int) (b : Int) = (topN a b : Int) := by
  have h0 := bitLen_pos (a ^^^ b) (xor_ne hne) (xor_lt64 ha hb)
  unfold topV topN
  rw [if_neg (by omega)]
  simp only [Int.toNat_natCast]
  omega
theorem topV_self (a : Int) : topV a a = -1 := by unfold topV; simp
theorem topV_comm (a b : Int) : topV a b = topV b a := by
  unfold topV
  by_cases h : a = b
  · subst h; rfl
  · rw [if_neg h, if_neg (fun e => h e.symm), Nat.xor_comm]

theorem wd_nat {x : Int} (h : Wd x) : ∃ n : Nat, x = (n : Int) ∧ n < 2 ^ 64 := by
  obtain ⟨h0, h1⟩ := h
  obtain ⟨n, rfl⟩ := Int.eq_ofNat_of_zero_le h0
  exact ⟨n, rfl, by omega⟩
theorem topV_range {a b : Int} (ha : Wd a) (hb : Wd b) : -1 ≤ topV a b ∧ topV a b ≤ 10 := by
  obtain ⟨a, rfl, ga⟩ := wd_nat ha
  obtain ⟨b, rfl, gb⟩ := wd_nat hb
  by_cases h : a = b
  · subst h; rw [topV_self]; omega
  · rw [topV_nat ga gb h]; have := top_le ga gb; omega
theorem topV_neg {a b : Int} (ha : Wd a) (hb : Wd b) : topV a b = -1 ↔ a = b := by
  obtain ⟨a, rfl, ga⟩ := wd_nat ha
  obtain ⟨b, rfl, gb⟩ := wd_nat hb
  constructor
  · intro e
    by_cases h : a = b
    · rw [h]
    · rw [topV_nat ga gb h] at e; omega
  · intro e; rw [e, topV_self]
theorem div_up {a b m n : Nat} (h : a / 64 ^ m = b / 64 ^ m) (hn : m ≤ n) : a / 64 ^ n = b / 64 ^ n := by
  obtain ⟨d, rfl⟩ := Nat.exists_eq_add_of_le hn
  rw [Nat.pow_add, ← Nat.div_div_eq_div_mul, ← Nat.div_div_eq_div_mul, h]
theorem top_dig_above {a b : Int} (ha : Wd a) (hb : Wd b) (i : Nat) (hi : topV a b < i) : dig a i = dig b i := by
  obtain ⟨a, rfl, ga⟩ := wd_nat ha
  obtain ⟨b, rfl, gb⟩ := wd_nat hb
  by_cases h : a = b
  · rw [h]
  · rw [topV_nat ga gb h] at hi
    have := div_up (top_above ga gb h) (n := i) (by omega)
    rw [dig_nat, dig_nat, this]
theorem top_dig_at {a b : Int} (ha : Wd a) (hb : Wd b) (k : Nat) (hk : topV a b = k) : dig a k ≠ dig b k ∧ (dig a k < dig b k ↔ a < b) := by
  obtain ⟨a, rfl, ga⟩ := wd_nat ha
  obtain ⟨b, rfl, gb⟩ := wd_nat hb
  by_cases h : a = b
  · subst h; rw [topV_self] at hk; omega
  · rw [topV_nat ga gb h] at hk
    have hk : topN a b = k := by omega
    have h1 := top_above ga gb h
    have h2 := top_at ga gb h
    rw [hk] at h1 h2
    rw [Nat.pow_succ, ← Nat.div_div_eq_div_mul, ← Nat.div_div_eq_div_mul] at h1
    have hm1 : a < b → a / 64 ^ k ≤ b / 64 ^ k := fun g => Nat.div_le_div_right (Nat.le_of_lt g)
    have hm2 : b ≤ a → b / 64 ^ k ≤ a / 64 ^ k := fun g => Nat.div_le_div_right g
    rw [dig_nat, dig_nat]
    generalize a / 64 ^ k = A at *
    generalize b / 64 ^ k = B at *
    omega

/-! ### carries -/
/-- the digits of a below k are all 63. -/
def Car (a : Int) (k : Nat) : Prop := (a + 1) / 64 ^ k = a / 64 ^ k + 1
theorem car_zero (a : Int) : Car a 0 := by unfold Car; simp
theorem car_step {a : Int} {k : Nat} (h : Car a k) (hd : dig a k = 63) : Car a (k + 1) ∧ dig (a + 1) k = 0 := by
  unfold Car dig at *
  rw [← quo_succ, ← quo_succ, h]
  generalize a / 64 ^ k = A at *
  omega
theorem car_quo {a : Int} {k : Nat} (h : Car a k) (hd : dig a k ≠ 63) : (a + 1) / 64 ^ (k + 1) = a / 64 ^ (k + 1) := by
  unfold Car dig at *
  rw [← quo_succ, ← quo_succ, h]
  generalize a / 64 ^ k = A at *
  omega
theorem quo_up {a b : Int} {m n : Nat} (h : a / 64 ^ m = b / 64 ^ m) (hn : m ≤ n) : a / 64 ^ n = b / 64 ^ n := by
  obtain ⟨d, rfl⟩ := Nat.exists_eq_add_of_le hn
  rw [Int.pow_add, ← Int.ediv_ediv_of_nonneg (Int.le_of_lt (p64 m)), ← Int.ediv_ediv_of_nonneg (Int.le_of_lt (p64 m)), h]
theorem car_end {a : Int} {k : Nat} (h : Car a k) (hd : dig a k ≠ 63) : dig (a + 1) k = dig a k + 1 ∧ ∀ i : Nat, k < i → dig a i = dig (a + 1) i := by
  constructor
  · unfold Car dig at *
    rw [h]
    generalize a / 64 ^ k = A at *
    omega
  · intro i hi
    have g := quo_up (car_quo h hd) (n := i) (by omega)
    unfold dig
    rw [g]
theorem car_ten (a : Int) (h : Wd a) : dig a 10 ≠ 63 := by
  have := dig_ten a h
  omega
theorem car_top {a : Int} {k : Nat} (ha : 0 ≤ a) (ha1 : a < 18446744073709551615) (h : Car a k) (hd : dig a k ≠ 63) : topV a (a + 1) = k := by
  have w0 : Wd a := ⟨ha, by omega⟩
  have w1 : Wd (a + 1) := ⟨by omega, by omega⟩
  obtain ⟨e1, e2⟩ := car_end h hd
  obtain ⟨r0, r1⟩ := topV_range w0 w1
  have hne : topV a (a + 1) ≠ -1 := fun e => by have := (topV_neg w0 w1).1 e; omega
  obtain ⟨n, hn⟩ := Int.eq_ofNat_of_zero_le (show 0 ≤ topV a (a + 1) by omega)
  have ht := top_dig_at w0 w1 n hn
  by_cases g : n < k
  · have := top_dig_above w0 w1 k (by omega)
    omega
  · by_cases g' : k < n
    · exact absurd (e2 n g') ht.1
    · rw [hn]; omega

end TM
end Go.Proofs.YtjkhgpdhhnfmlaaDoor
