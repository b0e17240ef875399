/- Durations as lists of bytes, second part: numerals, texts that are put together, cut and lengthened. Nothing of the program is named here. -/
import Derived.Test.YtiocnagbcbhggaaDoorMath
namespace Go.Proofs.YtiocnagbcbhggaaDoor
namespace SM
set_option linter.unusedSimpArgs false

theorem dec_all (n : Nat) : ∀ c ∈ Lib.decDigits n, isD c = true := by
  induction n using Nat.strongRecOn with
  | _ n ih =>
    intro c hc
    rw [Lib.decDigits] at hc
    by_cases h : n < 10
    · rw [dif_pos h] at hc
      rw [isD_iff]
      obtain rfl : c = UInt8.ofNat (48 + n) := by simpa using hc
      simp; omega
    · rw [dif_neg h, List.mem_append] at hc
      rcases hc with hc | hc
      · exact ih (n / 10) (by omega) c hc
      · rw [isD_iff]
        obtain rfl : c = UInt8.ofNat (48 + n % 10) := by simpa using hc
        simp; omega
theorem dec_val (n : Nat) : nval (Lib.decDigits n) = n := by
  induction n using Nat.strongRecOn with
  | _ n ih =>
    rw [Lib.decDigits]
    by_cases h : n < 10
    · rw [dif_pos h]; simp [nval]; omega
    · rw [dif_neg h, nval_snoc, ih (n / 10) (by omega)]
      simp; omega
theorem dec_pos (n : Nat) : 1 ≤ (Lib.decDigits n).length := by rw [Lib.decDigits_length]; exact Lib.nDigits_pos n
theorem nDigits_le (n k : Nat) (hk : 1 ≤ k) (h : n < 10 ^ k) : Lib.nDigits n ≤ k := by
  induction k generalizing n with
  | zero => omega
  | succ k ih =>
    by_cases g : n < 10
    · rw [Lib.nDigits_small g]; omega
    · rw [Lib.nDigits_big g]
      rw [Nat.pow_succ] at h
      by_cases k0 : k = 0
      · subst k0; simp at h; omega
      · have := ih (n / 10) (by omega) (by omega); omega
theorem dec_len15 (n : Nat) (h : n < 1000000000000000) : (Lib.decDigits n).length ≤ 15 := by
  rw [Lib.decDigits_length]; exact nDigits_le n 15 (by omega) (by omega)
theorem dec_head (n : Nat) (h : n ≠ 0) : (Lib.decDigits n).head? ≠ some 48 := by
  induction n using Nat.strongRecOn with
  | _ n ih =>
    rw [Lib.decDigits]
    by_cases g : n < 10
    · rw [dif_pos g]
      intro e
      have e : UInt8.ofNat (48 + n) = 48 := by simpa using e
      have := congrArg UInt8.toNat e
      simp at this
      omega
    · rw [dif_neg g]
      have := ih (n / 10) (by omega) (by omega)
      rcases hd : Lib.decDigits (n / 10) with _ | ⟨a, t⟩
      · have := dec_pos (n / 10); rw [hd] at this; simp at this
      · rw [hd] at this; simpa using this
theorem dec_numB (n : Nat) (h : n < 1000000000000000) : numB (Lib.decDigits n) = true := by
  have h1 := dec_pos n
  have h2 := dec_len15 n h
  unfold numB
  by_cases g : n = 0
  · subst g; rw [Lib.decDigits_one (by omega)]; decide
  · have := dec_head n g
    simp [this, h1, h2]
theorem item_dec (n : Nat) (u : UInt8) (r : List UInt8) (h : n < 1000000000000000) (hu : isD u = false) : item (Lib.decDigits n ++ u :: r) = some (n, u, r) := by
  have := item_mk (Lib.decDigits n) u r (dec_all n) (dec_numB n h) hu
  rw [dec_val] at this; exact this
/-- a nought ahead. -/
theorem item_nought (n : Nat) (u : UInt8) (r : List UInt8) (hu : isD u = false) : item (48 :: (Lib.decDigits n ++ u :: r)) = none := by
  have hall : ∀ c ∈ 48 :: Lib.decDigits n, isD c = true := by
    intro c hc
    rcases List.mem_cons.1 hc with rfl | hc
    · rfl
    · exact dec_all n c hc
  have h1 : ds (48 :: Lib.decDigits n ++ u :: r) = 48 :: Lib.decDigits n := by
    unfold ds; rw [List.takeWhile_append_of_pos hall, List.takeWhile_cons, hu]; simp
  have h2 : bh (48 :: Lib.decDigits n ++ u :: r) = u :: r := by
    unfold bh; rw [List.dropWhile_append_of_pos hall, List.dropWhile_cons, hu]; simp
  have h3 : numB (48 :: Lib.decDigits n) = false := by
    have := dec_pos n
    unfold numB; simp; intro _; intro e; rw [e] at this; simp at this
  rw [← List.cons_append]
  unfold item
  rw [h1, h2, h3]; rfl
theorem dec_noT (n : Nat) (r : List UInt8) : ¬ ∃ t, Lib.decDigits n ++ r = 84 :: t := by
  rintro ⟨t, e⟩
  rcases hd : Lib.decDigits n with _ | ⟨a, x⟩
  · have := dec_pos n; rw [hd] at this; simp at this
  · rw [hd] at e
    have : a = 84 := by simpa using (List.cons.inj e).1
    have g := dec_all n a (by rw [hd]; simp)
    rw [this] at g
    exact absurd g (by decide)

/-! ### texts put together -/
def opt (b : Bool) (n : Nat) (c : UInt8) : List UInt8 := if b then Lib.decDigits n ++ [c] else []
def lst (b : Bool) (n u : Nat) : Nat := if b then n * u else 0

theorem opt_true (n : Nat) (c : UInt8) (r : List UInt8) : opt true n c ++ r = Lib.decDigits n ++ c :: r := by simp [opt]
theorem opt_false (n : Nat) (c : UInt8) (r : List UInt8) : opt false n c ++ r = r := by simp [opt]
theorem opt_ne (n : Nat) (c : UInt8) (r : List UInt8) : Lib.decDigits n ++ c :: r ≠ [] := by simp

theorem clock_opt (len : Nat) (b1 b2 b3 : Bool) (n1 n2 n3 : Nat) (h1 : n1 < 1000000000000000) (h2 : n2 < 1000000000000000) (h3 : n3 < 1000000000000000) :
    clock len (item (opt b1 n1 72 ++ (opt b2 n2 77 ++ (opt b3 n3 83 ++ [])))) = if b1 || b2 || b3 then some (len + lst b1 n1 3600 + lst b2 n2 60 + lst b3 n3 1) else none := by
  have i1 := fun r => item_dec n1 72 r h1 (by decide)
  have i2 := fun r => item_dec n2 77 r h2 (by decide)
  have i3 := fun r => item_dec n3 83 r h3 (by decide)
  rcases b1 with _ | _ <;> rcases b2 with _ | _ <;> rcases b3 with _ | _ <;>
    simp [opt, i1, i2, i3, item_nil, clock, mins, secs, lst, opt_ne]

theorem body_T (t : List UInt8) : body (84 :: t) = clock 0 (item t) := rfl
theorem body_dec (n : Nat) (r : List UInt8) (h : n < 1000000000000000) : body (Lib.decDigits n ++ 68 :: r) = (match r with | [] => some (n * 86400) | 84 :: t => clock (n * 86400) (item t) | _ => none) := by
  have i := item_dec n 68 r h (by decide)
  have g := dec_noT n (68 :: r)
  unfold body
  split
  · rename_i t e; exact absurd ⟨t, e⟩ g
  · rw [i]
    simp only []
    rw [if_neg (by decide), if_pos trivial]
    rcases r with _ | ⟨a, t⟩
    · rfl
    · by_cases ha : a = 84
      · subst ha; rfl
      · split
        · rename_i e; cases e
        · rename_i e; exact absurd (List.cons.inj e).1 ha
        · split
          · rename_i e; cases e
          · rename_i e; exact absurd (List.cons.inj e).1 ha
          · rfl
theorem body_week (n : Nat) (h : n < 1000000000000000) : body (Lib.decDigits n ++ [87]) = some (n * 604800) := by
  have i := item_dec n 87 [] h (by decide)
  have g := dec_noT n [87]
  unfold body
  split
  · rename_i t e; exact absurd ⟨t, e⟩ g
  · rw [i]; simp

theorem body_opt (b0 b1 b2 b3 : Bool) (n0 n1 n2 n3 : Nat) (h0 : n0 < 1000000000000000) (h1 : n1 < 1000000000000000) (h2 : n2 < 1000000000000000) (h3 : n3 < 1000000000000000) :
    body (opt b0 n0 68 ++ (if b1 || b2 || b3 then 84 :: (opt b1 n1 72 ++ (opt b2 n2 77 ++ (opt b3 n3 83 ++ []))) else [])) =
      if b0 || b1 || b2 || b3 then some (lst b0 n0 86400 + lst b1 n1 3600 + lst b2 n2 60 + lst b3 n3 1) else none := by
  have hb : body [] = none := rfl
  rcases hb0 : b0 with _ | _
  · rw [opt_false]
    rcases hb1 : (b1 || b2 || b3) with _ | _
    · have : (false || b1 || b2 || b3) = false := by cases b1 <;> cases b2 <;> cases b3 <;> simp_all
      rw [this]; exact hb
    · have : (false || b1 || b2 || b3) = true := by cases b1 <;> cases b2 <;> cases b3 <;> simp_all
      rw [this, if_pos rfl, if_pos rfl, body_T, clock_opt 0 b1 b2 b3 n1 n2 n3 h1 h2 h3, hb1]; simp [lst]
  · rw [opt_true, body_dec n0 _ h0]
    have : (true || b1 || b2 || b3) = true := by cases b1 <;> cases b2 <;> cases b3 <;> rfl
    rw [this]
    rcases hb1 : (b1 || b2 || b3) with _ | _
    · have e1 : b1 = false := by cases b1 <;> simp_all
      have e2 : b2 = false := by cases b2 <;> simp_all
      have e3 : b3 = false := by cases b3 <;> simp_all
      subst e1 e2 e3
      simp [lst]
    · rw [if_pos rfl, if_pos rfl]
      simp only []
      rw [clock_opt (n0 * 86400) b1 b2 b3 n1 n2 n3 h1 h2 h3, hb1]; simp [lst]

theorem cal_dec (n : Nat) (u : UInt8) (r : List UInt8) (h : n < 1000000000000000) (hu : isD u = false) : cal (80 :: (Lib.decDigits n ++ u :: r)) = (u == 89 || u == 77) := by
  simp only [cal]; rw [item_dec n u r h hu]
theorem cal_no (t : List UInt8) (h : item t = none) : cal (80 :: t) = false := by simp only [cal]; rw [h]
theorem cal_opt (b0 b : Bool) (n0 : Nat) (t : List UInt8) (h0 : n0 < 1000000000000000) : cal (80 :: (opt b0 n0 68 ++ (if b then 84 :: t else []))) = false := by
  rcases b0 with _ | _
  · rw [opt_false]
    apply cal_no
    rcases b with _ | _
    · rfl
    · exact item_nodigit 84 t (by decide)
  · rw [opt_true, cal_dec n0 68 _ h0 (by decide)]; rfl
end SM
end Go.Proofs.YtiocnagbcbhggaaDoor
