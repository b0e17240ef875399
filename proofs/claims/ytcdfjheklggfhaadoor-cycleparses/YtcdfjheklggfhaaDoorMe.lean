/- The clock's part of a duration, unit by unit, as the document's own answer reads it. Nothing of the program is named here. -/
import Derived.Test.YtcdfjheklggfhaaDoorMc
namespace Go.Proofs.YtcdfjheklggfhaaDoor
namespace SM
set_option linter.unusedSimpArgs false

/-- one unit: taken if it is the next. -/
def stepL (c : UInt8) (un : Nat) (st : List UInt8 × Nat × Bool) : List UInt8 × Nat × Bool :=
  match item st.1 with
  | some (n, u, r) => if u = c then (r, st.2.1 + n * un, true) else st
  | none => st
def finL (st : List UInt8 × Nat × Bool) : Option Nat := if st.2.2 = true ∧ st.1 = [] then some st.2.1 else none
theorem stepL_none {c : UInt8} {un : Nat} {r : List UInt8} {x : Nat} {b : Bool} (h : item r = none) : stepL c un (r, x, b) = (r, x, b) := by
  unfold stepL; simp only [h]
theorem stepL_hit {c : UInt8} {un n : Nat} {r r' : List UInt8} {x : Nat} {b : Bool} (h : item r = some (n, c, r')) : stepL c un (r, x, b) = (r', x + n * un, true) := by
  unfold stepL; simp only [h, if_true]
theorem stepL_miss {c u : UInt8} {un n : Nat} {r r' : List UInt8} {x : Nat} {b : Bool} (h : item r = some (n, u, r')) (hu : u ≠ c) : stepL c un (r, x, b) = (r, x, b) := by
  unfold stepL; simp only [h, if_neg hu]
theorem fin_true (r : List UInt8) (x : Nat) : finL (r, x, true) = if r = [] then some x else none := by unfold finL; simp
theorem fin_false (r : List UInt8) (x : Nat) : finL (r, x, false) = none := by unfold finL; simp
theorem item_ne {r : List UInt8} {v : Nat × UInt8 × List UInt8} (h : item r = some v) : r ≠ [] := by rintro rfl; cases h

theorem secs_steps (r : List UInt8) (x : Nat) (b : Bool) (hb : b = true → r ≠ []) : secs x (item r) = finL (stepL 83 1 (r, x, b)) := by
  have no : finL (r, x, b) = none := by
    rcases b with _ | _
    · exact fin_false r x
    · rw [fin_true, if_neg (hb rfl)]
  rcases hi : item r with _ | ⟨n, u, r'⟩
  · rw [stepL_none hi, no]; rfl
  · by_cases hu : u = 83
    · subst hu
      rw [stepL_hit hi, fin_true]
      simp only [secs]
      by_cases hr : r' = []
      · simp [hr]
      · simp [hr]
    · rw [stepL_miss hi hu, no]; simp [secs, hu]
theorem mins_steps (r : List UInt8) (x : Nat) (b : Bool) (hb : b = true → r ≠ []) : mins x (item r) = finL (stepL 83 1 (stepL 77 60 (r, x, b))) := by
  rcases hi : item r with _ | ⟨n, u, r'⟩
  · rw [stepL_none hi]
    have := secs_steps r x b hb
    rw [hi] at this
    rw [← this]; rfl
  · by_cases hu : u = 77
    · subst hu
      rw [stepL_hit hi]
      simp only [mins, if_true]
      by_cases hr : r' = []
      · subst hr; rw [stepL_none item_nil, fin_true]; rfl
      · rw [if_neg hr]; exact secs_steps r' _ true (fun _ => hr)
    · rw [stepL_miss hi hu]
      have := secs_steps r x b hb
      rw [hi] at this
      rw [← this]; simp only [mins, if_neg hu]
theorem clock_steps (r : List UInt8) (x : Nat) : clock x (item r) = finL (stepL 83 1 (stepL 77 60 (stepL 72 3600 (r, x, false)))) := by
  rcases hi : item r with _ | ⟨n, u, r'⟩
  · rw [stepL_none hi]
    have := mins_steps r x false (fun e => by cases e)
    rw [hi] at this
    rw [← this]; rfl
  · by_cases hu : u = 72
    · subst hu
      rw [stepL_hit hi]
      simp only [clock, if_true]
      by_cases hr : r' = []
      · subst hr; rw [stepL_none item_nil, stepL_none item_nil, fin_true]; rfl
      · rw [if_neg hr]; exact mins_steps r' _ true (fun _ => hr)
    · rw [stepL_miss hi hu]
      have := mins_steps r x false (fun e => by cases e)
      rw [hi] at this
      rw [← this]; simp only [clock, if_neg hu]
end SM
end Go.Proofs.YtcdfjheklggfhaaDoor
