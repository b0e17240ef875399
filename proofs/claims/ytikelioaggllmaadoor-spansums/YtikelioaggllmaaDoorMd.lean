/- The bits of a small number, and the text that SpanSums puts together round by round. Nothing of the program is named here. -/
import Derived.Test.YtikelioaggllmaaDoorMc
import Derived.WalkKit
namespace Go.Proofs.YtikelioaggllmaaDoor
open Go.RowKit
namespace SM

def bb (n k : Nat) : Bool := decide (n / 2 ^ k % 2 = 1)
theorem and14 : ∀ n : Fin 256, (bits .and .u8 (n.val : Int) 14 != 0) = (bb n.val 1 || bb n.val 2 || bb n.val 3) := by decide +kernel
theorem and15 : ∀ n : Fin 256, ((n.val : Int) % 16 == 0) = !(bb n.val 0 || bb n.val 1 || bb n.val 2 || bb n.val 3) := by decide +kernel
theorem and1 : ∀ n : Fin 256, (bits .and .u8 (n.val : Int) 1 == 1) = bb n.val 0 := by decide +kernel
theorem and1_1 : ∀ n : Fin 256, (bits .and .u8 ((n.val : Int) / 2) 1 == 1) = bb n.val 1 := by decide +kernel
theorem and1_2 : ∀ n : Fin 256, (bits .and .u8 ((n.val : Int) / 4) 1 == 1) = bb n.val 2 := by decide +kernel
theorem and1_3 : ∀ n : Fin 256, (bits .and .u8 ((n.val : Int) / 8) 1 == 1) = bb n.val 3 := by decide +kernel

/-- the text behind so many rounds. -/
def ltr (j : Nat) : UInt8 := match j with | 0 => 68 | 1 => 72 | 2 => 77 | _ => 83
def unt (j : Nat) : Nat := match j with | 0 => 86400 | 1 => 3600 | 2 => 60 | _ => 1
def strK (n : Nat) (g : Nat → Nat) : Nat → List UInt8
  | 0 => [80]
  | j + 1 => strK n g j ++ (if j = 1 ∧ (bb n 1 || bb n 2 || bb n 3) = true then [84] else []) ++ opt (bb n j) (g j) (ltr j)
def sumK (n : Nat) (g : Nat → Nat) : Nat → Nat
  | 0 => 0
  | j + 1 => sumK n g j + lst (bb n j) (g j) (unt j)
theorem strK_no {n j : Nat} {g : Nat → Nat} (hb : bb n j = false) (h : ¬ (j = 1 ∧ (bb n 1 || bb n 2 || bb n 3) = true)) : strK n g (j + 1) = strK n g j := by
  simp only [strK]; rw [hb, if_neg h]; simp [opt]
theorem strK_noT {n : Nat} {g : Nat → Nat} (hb : bb n 1 = false) (h : (bb n 1 || bb n 2 || bb n 3) = true) : strK n g 2 = strK n g 1 ++ [84] := by
  show strK n g 1 ++ _ ++ _ = _
  rw [hb] at h ⊢; simp only [h]; simp [opt]
theorem strK_yes {n j : Nat} {g : Nat → Nat} (hb : bb n j = true) (h : ¬ (j = 1 ∧ (bb n 1 || bb n 2 || bb n 3) = true)) : strK n g (j + 1) = strK n g j ++ (Lib.decDigits (g j) ++ [ltr j]) := by
  simp only [strK]; rw [hb, if_neg h]; simp [opt]
theorem strK_yesT {n : Nat} {g : Nat → Nat} (hb : bb n 1 = true) (h : (bb n 1 || bb n 2 || bb n 3) = true) : strK n g 2 = strK n g 1 ++ [84] ++ (Lib.decDigits (g 1) ++ [72]) := by
  show strK n g 1 ++ _ ++ _ = _
  rw [hb] at h ⊢; simp only [h]; simp [opt, ltr]
theorem sumK_no {n j : Nat} {g : Nat → Nat} (hb : bb n j = false) : sumK n g (j + 1) = sumK n g j := by simp only [sumK]; rw [hb]; simp [lst]
theorem sumK_yes {n j : Nat} {g : Nat → Nat} (hb : bb n j = true) : sumK n g (j + 1) = sumK n g j + g j * unt j := by simp only [sumK]; rw [hb]; simp [lst]
theorem opt_len (b : Bool) (n : Nat) (c : UInt8) (h : n < 4294967296) : (opt b n c).length ≤ 16 := by
  have := dec_len15 n (by omega)
  unfold opt; split <;> simp; omega
theorem strK_len (n : Nat) (g : Nat → Nat) (hg : ∀ i, i < 4 → g i < 4294967296) : ∀ j, j ≤ 4 → (strK n g j).length ≤ 1 + 17 * j
  | 0, _ => by simp [strK]
  | j + 1, h => by
    have ih := strK_len n g hg j (by omega)
    have := opt_len (bb n j) (g j) (ltr j) (hg j (by omega))
    simp only [strK, List.length_append]
    split <;> simp <;> omega
theorem sumK_le (n : Nat) (g : Nat → Nat) (hg : ∀ i, i < 4 → g i < 4294967296) : sumK n g 4 ≤ 1125899906842624 ∧ sumK n g 3 ≤ sumK n g 4 ∧ sumK n g 2 ≤ sumK n g 3 ∧ sumK n g 1 ≤ sumK n g 2 := by
  have h0 := hg 0 (by omega); have h1 := hg 1 (by omega); have h2 := hg 2 (by omega); have h3 := hg 3 (by omega)
  have l : ∀ (b : Bool) (x u : Nat), lst b x u ≤ x * u := fun b x u => by unfold lst; split <;> simp
  have a0 := l (bb n 0) (g 0) (unt 0); have a1 := l (bb n 1) (g 1) (unt 1); have a2 := l (bb n 2) (g 2) (unt 2); have a3 := l (bb n 3) (g 3) (unt 3)
  simp only [unt] at a0 a1 a2 a3
  simp only [sumK, unt]
  omega
theorem strK_end (n : Nat) (g : Nat → Nat) : strK n g 4 = 80 :: (opt (bb n 0) (g 0) 68 ++ (if bb n 1 || bb n 2 || bb n 3 then 84 :: (opt (bb n 1) (g 1) 72 ++ (opt (bb n 2) (g 2) 77 ++ (opt (bb n 3) (g 3) 83 ++ []))) else [])) := by
  simp only [strK, ltr]
  rcases h1 : bb n 1 with _ | _ <;> rcases h2 : bb n 2 with _ | _ <;> rcases h3 : bb n 3 with _ | _ <;> simp [opt]
theorem sums_read (n : Nat) (g : Nat → Nat) (hg : ∀ i, i < 4 → g i < 4294967296) :
    ((bb n 0 || bb n 1 || bb n 2 || bb n 3) = true → pV (strK n g 4) = sumK n g 4 ∧ pE (strK n g 4) = 0) ∧
    ((bb n 0 || bb n 1 || bb n 2 || bb n 3) = false → pV (strK n g 4) = 0 ∧ pE (strK n g 4) = 2) := by
  have h0 := hg 0 (by omega); have h1 := hg 1 (by omega); have h2 := hg 2 (by omega); have h3 := hg 3 (by omega)
  have hs := (sumK_le n g hg).1
  have hb := body_opt (bb n 0) (bb n 1) (bb n 2) (bb n 3) (g 0) (g 1) (g 2) (g 3) (by omega) (by omega) (by omega) (by omega)
  have hc := cal_opt (bb n 0) (bb n 1 || bb n 2 || bb n 3) (g 0) (opt (bb n 1) (g 1) 72 ++ (opt (bb n 2) (g 2) 77 ++ (opt (bb n 3) (g 3) 83 ++ []))) (by omega)
  rw [strK_end]
  constructor
  · intro e
    rw [e, if_pos rfl] at hb
    have es : sumK n g 4 = lst (bb n 0) (g 0) 86400 + lst (bb n 1) (g 1) 3600 + lst (bb n 2) (g 2) 60 + lst (bb n 3) (g 3) 1 := by simp [sumK, unt]
    rw [es] at hs ⊢
    exact p_of hc hb (by unfold top; exact hs)
  · intro e
    rw [e] at hb
    exact p_form hc hb
end SM
end Go.Proofs.YtikelioaggllmaaDoor
