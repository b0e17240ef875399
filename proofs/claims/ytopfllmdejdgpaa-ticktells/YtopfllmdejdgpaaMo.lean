/- Plain arithmetic on eleven digits: when they make a number, and which. Nothing of the program is named here. -/
import Derived.Test.YtopfllmdejdgpaaMath
import Derived.Laws.Bits64b
import Derived.Laws.Bits64
namespace Go.Proofs.Ytopfllmdejdgpaa
namespace TM

/-- eleven digits make a number. -/
def ofB (d : Nat → Int) : Bool := decide (d 10 ≤ 15) && (List.range 11).all (fun i => decide (0 ≤ d i) && decide (d i ≤ 63))
theorem ofB_iff (d : Nat → Int) : ofB d = true ↔ d 10 ≤ 15 ∧ ∀ i, i < 11 → 0 ≤ d i ∧ d i ≤ 63 := by
  unfold ofB
  simp only [Bool.and_eq_true, decide_eq_true_eq, List.all_eq_true, List.mem_range]
/-- the number that the first k digits make. -/
def val (d : Nat → Int) : Nat → Int
  | 0 => 0
  | k + 1 => val d k + d k * 64 ^ k
def ofV (d : Nat → Int) : Int := if ofB d = true then val d 11 else 0

theorem val_range (d : Nat → Int) : ∀ k, (∀ i, i < k → 0 ≤ d i ∧ d i ≤ 63) → 0 ≤ val d k ∧ val d k < 64 ^ k
  | 0, _ => by simp [val]
  | k + 1, h => by
    obtain ⟨h1, h2⟩ := val_range d k (fun i hi => h i (by omega))
    obtain ⟨g1, g2⟩ := h k (by omega)
    have p := p64 k
    have m1 : 0 ≤ d k * 64 ^ k := Int.mul_nonneg g1 (Int.le_of_lt p)
    have m2 : d k * 64 ^ k ≤ 63 * 64 ^ k := Int.mul_le_mul_of_nonneg_right g2 (Int.le_of_lt p)
    unfold val
    rw [Int.pow_succ]
    omega
theorem val_max (d : Nat → Int) (h : ofB d = true) : 0 ≤ val d 11 ∧ val d 11 < 18446744073709551616 := by
  obtain ⟨h1, h2⟩ := (ofB_iff d).1 h
  obtain ⟨g1, g2⟩ := val_range d 10 (fun i hi => h2 i (by omega))
  have := (h2 10 (by omega)).1
  have e : (64 : Int) ^ 10 = 1152921504606846976 := by decide
  rw [e] at g2
  have u : val d 11 = val d 10 + d 10 * 64 ^ 10 := rfl
  rw [u, e]
  omega
theorem ofV_wd (d : Nat → Int) : Wd (ofV d) := by
  unfold ofV
  split
  · rename_i h; exact val_max d h
  · exact ⟨by omega, by omega⟩

theorem or_nat (n D k : Nat) (hn : n < 2 ^ k) : n ||| D * 2 ^ k = n + D * 2 ^ k := by
  have h := Nat.shiftLeft_add_eq_or_of_lt hn D
  rw [Nat.shiftLeft_eq] at h
  rw [Nat.or_comm, ← h, Nat.add_comm]
theorem shift_lt (D k : Nat) (hD : D ≤ 63) (hk : k ≤ 10) (h10 : k = 10 → D ≤ 15) : D * 64 ^ k < 18446744073709551616 - 1152921504606846975 := by
  by_cases e : k = 10
  · subst e
    have := h10 rfl
    have e : 64 ^ 10 = 1152921504606846976 := by decide
    rw [e]; omega
  · have h1 : 64 ^ k ≤ 64 ^ 9 := Nat.pow_le_pow_right (by omega) (by omega)
    have h2 : D * 64 ^ k ≤ 63 * 64 ^ 9 := Nat.mul_le_mul hD h1
    have e : 64 ^ 9 = 18014398509481984 := by decide
    rw [e] at h2
    omega
theorem pow_le_ten (k : Nat) (hk : k ≤ 10) : 64 ^ k ≤ 1152921504606846976 := by
  have h1 : 64 ^ k ≤ 64 ^ 10 := Nat.pow_le_pow_right (by omega) hk
  have e : 64 ^ 10 = 1152921504606846976 := by decide
  omega
theorem or_step (n D : Int) (k : Nat) (h0 : 0 ≤ n) (hn : n < 64 ^ k) (hD0 : 0 ≤ D) (hD : D ≤ 63) (hk : k ≤ 10) (h10 : k = 10 → D ≤ 15) :
    bits .or .u64 n (IntKind.u64.wrap (D * 2 ^ (6 * k))) = n + D * 64 ^ k := by
  obtain ⟨n, rfl⟩ := Int.eq_ofNat_of_zero_le h0
  obtain ⟨D, rfl⟩ := Int.eq_ofNat_of_zero_le hD0
  have hn' : n < 64 ^ k := by
    have : ((64 ^ k : Nat) : Int) = (64 : Int) ^ k := by simp
    omega
  have hs := shift_lt D k (by omega) hk (fun e => by have := h10 e; omega)
  have hp := pow_le_ten k hk
  have e1 : (D : Int) * 2 ^ (6 * k) = ((D * 64 ^ k : Nat) : Int) := by rw [pow64]; simp
  have e2 : IntKind.u64.wrap ((D * 64 ^ k : Nat) : Int) = ((D * 64 ^ k : Nat) : Int) := by rw [IntKind.wrap_u64]; omega
  rw [e1, e2, bits_or_u64_nat n (D * 64 ^ k) (by omega) (by omega)]
  rw [pow64] at hn' ⊢
  rw [or_nat n D _ hn', ← pow64]
  simp

/-! ### digits of the number, number of the digits -/
theorem val_dig (n : Nat) : ∀ k, val (dig (n : Int)) k = ((n % 64 ^ k : Nat) : Int)
  | 0 => by simp [val, Nat.mod_one]
  | k + 1 => by
    unfold val
    rw [val_dig n k, dig_nat, Nat.pow_succ, Nat.mod_mul, Int.natCast_add, Int.natCast_mul, Int.mul_comm]
    simp
theorem val_dig_all (x : Int) (h : Wd x) : val (dig x) 11 = x := by
  obtain ⟨n, rfl, hn⟩ := wd_nat h
  rw [val_dig, Nat.mod_eq_of_lt]
  have e : 64 ^ 11 = 73786976294838206464 := by decide
  omega
theorem ofB_dig (x : Int) (h : Wd x) : ofB (dig x) = true :=
  (ofB_iff _).2 ⟨dig_ten x h, fun i _ => dig_range x i⟩
theorem ofV_dig (x : Int) (h : Wd x) : ofV (dig x) = x := by
  unfold ofV; rw [if_pos (ofB_dig x h), val_dig_all x h]
theorem dig_val (d : Nat → Int) : ∀ k, (∀ i, i < k → 0 ≤ d i ∧ d i ≤ 63) → ∀ i, i < k → dig (val d k) i = d i
  | 0, _, _, hi => by omega
  | k + 1, h, i, hi => by
    have hk : ∀ i, i < k → 0 ≤ d i ∧ d i ≤ 63 := fun i hi => h i (by omega)
    obtain ⟨r1, r2⟩ := val_range d k hk
    have u : val d (k + 1) = val d k + d k * 64 ^ k := rfl
    rw [u]
    by_cases e : i = k
    · subst e
      obtain ⟨g1, g2⟩ := h i (by omega)
      unfold dig
      rw [Int.add_mul_ediv_right _ _ (by have := p64 i; omega), Int.ediv_eq_zero_of_lt r1 r2]
      omega
    · have ih := dig_val d k hk i (by omega)
      obtain ⟨m, hm⟩ := Nat.exists_eq_add_of_lt (show i < k by omega)
      unfold dig at *
      have e2 : d k * 64 ^ k = (d k * 64 ^ m * 64) * 64 ^ i := by
        rw [hm, show i + m + 1 = i + (m + 1) by omega, Int.pow_add, Int.pow_succ]
        simp only [Int.mul_assoc, Int.mul_comm, Int.mul_left_comm]
      rw [e2, Int.add_mul_ediv_right _ _ (by have := p64 i; omega), Int.add_mul_emod_self_right]
      exact ih
theorem dig_ofV (d : Nat → Int) (h : ofB d = true) (i : Nat) (hi : i < 11) : dig (ofV d) i = d i := by
  unfold ofV
  rw [if_pos h]
  exact dig_val d 11 ((ofB_iff d).1 h).2 i hi
end TM
end Go.Proofs.Ytopfllmdejdgpaa
