/- Cycles as lists of bytes: R, a number of rounds, a slash, a duration. Nothing of the program is named here. -/
import Derived.Test.YtcdfjheklggfhaaDoorMc
namespace Go.Proofs.YtcdfjheklggfhaaDoor
namespace SM
set_option linter.unusedSimpArgs false

def noSl (c : UInt8) : Bool := c != 47
def hd (t : List UInt8) : List UInt8 := t.takeWhile noSl
def tl (t : List UInt8) : List UInt8 := t.dropWhile noSl
theorem hd_tl (t : List UInt8) : hd t ++ tl t = t := List.takeWhile_append_dropWhile
theorem tl_head (t : List UInt8) (u : UInt8) (r : List UInt8) (h : tl t = u :: r) : u = 47 := by
  have := List.head?_dropWhile_not noSl t
  unfold tl at h
  rw [h] at this
  simpa [noSl] using this
theorem hd_all (t : List UInt8) : ∀ c ∈ hd t, noSl c = true := by
  intro c hc
  have := List.all_takeWhile (p := noSl) (l := t)
  rw [List.all_eq_true] at this
  exact this c hc
theorem isD_noSl {c : UInt8} (h : isD c = true) : noSl c = true := by
  rcases hc : noSl c with _ | _
  · have : c = 47 := by simpa [noSl] using hc
    subst this; exact absurd h (by decide)
  · rfl

/-- a number of rounds: 1 to 7 digits, the first one no nought. -/
def rndB (d : List UInt8) : Bool := decide (1 ≤ d.length) && decide (d.length ≤ 7) && decide (d.head? ≠ some 48) && d.all isD

/-- what is wrong behind the slash; the rounds are n. -/
def cyR (n : Nat) (r : List UInt8) : Nat := if 1000000 < n then 3 else if pE r ≠ 0 then pE r else if pV r = 0 then 6 else 0
def cyT (t : List UInt8) : Nat := match tl t with | [] => 2 | _ :: r => if rndB (hd t) then cyR (nval (hd t)) r else 2
def cyE (l : List UInt8) : Nat := match l with | 82 :: t => (match t with | 47 :: _ => 5 | t => cyT t) | _ => 2
def cyN (l : List UInt8) : Nat := if cyE l = 0 then nval (hd (l.drop 1)) else 0
def cyV (l : List UInt8) : Nat := if cyE l = 0 then pV ((tl (l.drop 1)).drop 1) else 0

theorem cyE_noR {l : List UInt8} (h : ¬ ∃ t, l = 82 :: t) : cyE l = 2 := by
  unfold cyE; split
  · exact absurd ⟨_, rfl⟩ h
  · rfl
theorem cyE_endless (t : List UInt8) : cyE (82 :: 47 :: t) = 5 := rfl
theorem cyE_R {t : List UInt8} (h : ¬ ∃ r, t = 47 :: r) : cyE (82 :: t) = cyT t := by
  have key : ∀ t : List UInt8, cyE (82 :: t) = (match t with | 47 :: _ => 5 | t => cyT t) := fun _ => rfl
  rw [key]
  split
  · exact absurd ⟨_, rfl⟩ h
  · rfl
theorem cyT_none {t : List UInt8} (h : tl t = []) : cyT t = 2 := by unfold cyT; rw [h]
theorem cyT_some {t r : List UInt8} (h : tl t = 47 :: r) : cyT t = if rndB (hd t) then cyR (nval (hd t)) r else 2 := by unfold cyT; rw [h]
theorem cy_bad {l : List UInt8} (h : cyE l ≠ 0) : cyN l = 0 ∧ cyV l = 0 := by
  unfold cyN cyV; rw [if_neg h, if_neg h]; exact ⟨rfl, rfl⟩
theorem cy_ok {t r : List UInt8} (ht : tl t = 47 :: r) (h : cyE (82 :: t) = 0) : cyN (82 :: t) = nval (hd t) ∧ cyV (82 :: t) = pV r := by
  unfold cyN cyV; rw [if_pos h, if_pos h]
  refine ⟨rfl, ?_⟩
  show pV ((tl t).drop 1) = pV r
  rw [ht]; rfl

theorem rndB_all {d : List UInt8} (h : rndB d = true) : 1 ≤ d.length ∧ d.length ≤ 7 ∧ d.head? ≠ some 48 ∧ ∀ c ∈ d, isD c = true := by
  unfold rndB at h
  simp only [Bool.and_eq_true, decide_eq_true_eq, List.all_eq_true] at h
  exact ⟨h.1.1.1, h.1.1.2, h.1.2, h.2⟩
theorem rndB_mk {d : List UInt8} (h1 : 1 ≤ d.length) (h2 : d.length ≤ 7) (h3 : d.head? ≠ some 48) (h4 : ∀ c ∈ d, isD c = true) : rndB d = true := by
  unfold rndB
  simp only [Bool.and_eq_true, decide_eq_true_eq, List.all_eq_true]
  exact ⟨⟨⟨h1, h2⟩, h3⟩, h4⟩
theorem rnd_lt {d : List UInt8} (h : rndB d = true) : nval d < 10000000 := by
  obtain ⟨_, h2, _, h4⟩ := rndB_all h
  have h1 := nval_lt d h4
  have h3 : 10 ^ d.length ≤ 10 ^ 7 := Nat.pow_le_pow_right (by omega) h2
  omega

/-! ### the digits, read from the left -/
theorem cut_mk (d r : List UInt8) (hd' : ∀ c ∈ d, noSl c = true) : hd (d ++ 47 :: r) = d ∧ tl (d ++ 47 :: r) = 47 :: r := by
  constructor
  · unfold hd; rw [List.takeWhile_append_of_pos hd', List.takeWhile_cons]; simp [noSl]
  · unfold tl; rw [List.dropWhile_append_of_pos hd', List.dropWhile_cons]; simp [noSl]
theorem ds_cut {t r : List UInt8} (h : bh t = 47 :: r) : hd t = ds t ∧ tl t = 47 :: r := by
  have e := ds_bh t
  rw [h] at e
  have := cut_mk (ds t) r (fun c hc => isD_noSl (ds_all t c hc))
  rw [e] at this; exact this
theorem cut_ds {t r : List UInt8} (h : tl t = 47 :: r) (ha : ∀ c ∈ hd t, isD c = true) : ds t = hd t ∧ bh t = 47 :: r := by
  have e := hd_tl t
  rw [h] at e
  have h1 : ds (hd t ++ 47 :: r) = hd t := by
    unfold ds; rw [List.takeWhile_append_of_pos ha, List.takeWhile_cons]; simp [isD]
  have h2 : bh (hd t ++ 47 :: r) = 47 :: r := by
    unfold bh; rw [List.dropWhile_append_of_pos ha, List.dropWhile_cons]; simp [isD]
  rw [e] at h1 h2; exact ⟨h1, h2⟩
/-- the same, by the run of digits. -/
theorem cyT_run (t r : List UInt8) (h : bh t = 47 :: r) (h1 : 1 ≤ (ds t).length) (h2 : (ds t).length ≤ 7) (h3 : (ds t).head? ≠ some 48) : cyT t = cyR (nval (ds t)) r ∧ hd t = ds t ∧ tl t = 47 :: r := by
  obtain ⟨e1, e2⟩ := ds_cut h
  refine ⟨?_, e1, e2⟩
  rw [cyT_some e2, e1, if_pos (rndB_mk h1 h2 h3 (ds_all t))]
theorem cyT_off (t : List UInt8) (h : ¬ ((∃ r, bh t = 47 :: r) ∧ 1 ≤ (ds t).length ∧ (ds t).length ≤ 7 ∧ (ds t).head? ≠ some 48)) : cyT t = 2 := by
  rcases ht : tl t with _ | ⟨u, r⟩
  · exact cyT_none ht
  · have := tl_head t u r ht; subst this
    rw [cyT_some ht]
    rcases hb : rndB (hd t) with _ | _
    · rfl
    · obtain ⟨a1, a2, a3, a4⟩ := rndB_all hb
      obtain ⟨e1, e2⟩ := cut_ds ht a4
      exact absurd ⟨⟨r, e2⟩, by rw [e1]; exact a1, by rw [e1]; exact a2, by rw [e1]; exact a3⟩ h

/-! ### what is written is read -/
theorem rnd_dec (n : Nat) (h0 : n ≠ 0) (h : n < 10000000) : rndB (Lib.decDigits n) = true :=
  rndB_mk (dec_pos n) (dec_le n 7 (by omega) (by omega)) (dec_head n h0) (dec_all n)
theorem dec_noSl (n : Nat) (r : List UInt8) : ¬ ∃ x, Lib.decDigits n ++ r = 47 :: x := by
  rintro ⟨t, e⟩
  rcases hd : Lib.decDigits n with _ | ⟨a, x⟩
  · have := dec_pos n; rw [hd] at this; simp at this
  · rw [hd] at e
    have : a = 47 := by simpa using (List.cons.inj e).1
    have g := dec_all n a (by rw [hd]; simp)
    rw [this] at g
    exact absurd g (by decide)
theorem cy_dec (n : Nat) (r : List UInt8) (h0 : n ≠ 0) (h : n < 10000000) : cyE (82 :: (Lib.decDigits n ++ 47 :: r)) = cyR n r ∧
    (cyR n r = 0 → cyN (82 :: (Lib.decDigits n ++ 47 :: r)) = n ∧ cyV (82 :: (Lib.decDigits n ++ 47 :: r)) = pV r) := by
  obtain ⟨e1, e2⟩ := cut_mk (Lib.decDigits n) r (fun c hc => isD_noSl (dec_all n c hc))
  have e : cyE (82 :: (Lib.decDigits n ++ 47 :: r)) = cyR n r := by
    rw [cyE_R (dec_noSl n _), cyT_some e2, e1, if_pos (rnd_dec n h0 h), dec_val]
  refine ⟨e, fun h => ?_⟩
  have := cy_ok e2 (by rw [e]; exact h)
  rw [e1, dec_val] at this; exact this

def cycS (n x : Nat) : List UInt8 := 82 :: (Lib.decDigits n ++ 47 :: printS x)
theorem cyc_back (n x : Nat) (h1 : 1 ≤ n) (h2 : n ≤ 1000000) (h3 : 1 ≤ x) (h4 : x ≤ top) : cyE (cycS n x) = 0 ∧ cyN (cycS n x) = n ∧ cyV (cycS n x) = x := by
  obtain ⟨p1, p2⟩ := print_read x h4
  obtain ⟨e, g⟩ := cy_dec n (printS x) (by omega) (by omega)
  have r0 : cyR n (printS x) = 0 := by unfold cyR; rw [if_neg (by omega), p1, p2]; simp; omega
  obtain ⟨g1, g2⟩ := g r0
  exact ⟨by unfold cycS; rw [e]; exact r0, g1, by unfold cycS; rw [g2]; exact p1⟩
theorem cyR_ok {n : Nat} {r : List UInt8} (h : cyR n r = 0) : n ≤ 1000000 ∧ pE r = 0 ∧ 1 ≤ pV r ∧ pV r ≤ top := by
  unfold cyR at h
  split at h
  · cases h
  · split at h
    · rename_i g; exact absurd h g
    · rename_i g
      split at h
      · cases h
      · have g' : pE r = 0 := by simpa using g
        exact ⟨by omega, g', by omega, pV_le g'⟩
theorem nval_pos : ∀ (d : List UInt8), 1 ≤ d.length → d.head? ≠ some 48 → (∀ c ∈ d, isD c = true) → 1 ≤ nval d := by
  intro d h1 h2 h3
  rcases d with _ | ⟨c, t⟩
  · simp at h1
  · have hc := (isD_iff c).1 (h3 c (by simp))
    have hne : c ≠ 48 := by simpa using h2
    have hn : c.toNat ≠ 48 := fun e => hne (UInt8.toNat_inj.1 e)
    have key : ∀ (t : List UInt8) (a : Nat), 1 ≤ a → 1 ≤ t.foldl (fun n c => 10 * n + (c.toNat - 48)) a := by
      intro t
      induction t with
      | nil => intro a ha; simpa using ha
      | cons b t ih => intro a ha; simp only [List.foldl_cons]; exact ih _ (by omega)
    unfold nval
    simp only [List.foldl_cons]
    exact key t _ (by omega)
/-- what can be read may be. -/
theorem cy_good {l : List UInt8} (h : cyE l = 0) : 1 ≤ cyN l ∧ cyN l ≤ 1000000 ∧ 1 ≤ cyV l ∧ cyV l ≤ top := by
  by_cases hR : ∃ t, l = 82 :: t
  · obtain ⟨t, rfl⟩ := hR
    by_cases hS : ∃ r, t = 47 :: r
    · obtain ⟨r, rfl⟩ := hS; cases h
    · have h' := h
      rw [cyE_R hS] at h
      rcases ht : tl t with _ | ⟨u, r⟩
      · rw [cyT_none ht] at h; cases h
      · have := tl_head t u r ht; subst this
        rw [cyT_some ht] at h
        rcases hb : rndB (hd t) with _ | _
        · rw [hb] at h; cases h
        · rw [hb, if_pos rfl] at h
          obtain ⟨e1, e2⟩ := cy_ok ht h'
          obtain ⟨c1, c2, c3, c4⟩ := cyR_ok h
          obtain ⟨a1, a2, a3, a4⟩ := rndB_all hb
          rw [e1, e2]
          exact ⟨nval_pos _ a1 a3 a4, c1, c3, c4⟩
  · rw [cyE_noR hR] at h; cases h
theorem cycS_len (n x : Nat) (h2 : n ≤ 1000000) (h4 : x ≤ top) : (cycS n x).length ≤ 60 := by
  have := print_len x h4
  have := dec_le n 7 (by omega) (by omega)
  unfold cycS; simp; omega
end SM
end Go.Proofs.YtcdfjheklggfhaaDoor
