/- The contracts of the document's Next and Round and of the laws' own wakes at this program. -/
import Derived.Test.YtlihcljjpalapaaWf
namespace Go.Proofs.Ytlihcljjpalapaa
open Go.RowKit MK
set_option linter.unusedSimpArgs false

/-- two cells that lie, and their block is there. -/
structure Kp (x : World) (b : Nat) (c0 c1 : Value) : Prop where
  t : Two x b c0 c1
  lt : b < x.heap.size
theorem Kp.new (w : World) (c0 c1 : Value) (T : TypeId) : Kp (w.alloc (.cells #[c0, c1] T)) w.heap.size c0 c1 := ⟨Two.new w c0 c1 T, by simp only [size_new]; omega⟩
theorem Kp.later {w x : World} {b : Nat} {c0 c1 : Value} (k : Kp w b c0 c1) (h : Grw w x) : Kp x b c0 c1 := ⟨k.t.later h k.lt, Nat.lt_of_lt_of_le k.lt (Below.size h)⟩
theorem Kp.grown {w x : World} {c0 c1 : Value} {T : TypeId} (h : Grw (w.alloc (.cells #[c0, c1] T)) x) : Kp x w.heap.size c0 c1 := (Kp.new w c0 c1 T).later h
theorem find_at {n : Nat} {f : Nat → Int} {p : Int → Bool} {k : Nat} (hk : k < n) (h : p (f k) = true) (hno : ∀ j, j < k → p (f j) = false) : (fl n f).find? p = some (f k) := by
  rw [List.find?_eq_some_iff_getElem]
  refine ⟨h, k, by rw [fl_len]; exact hk, fl_get _ _ _ _, fun j hj => ?_⟩
  rw [fl_get, hno j hj]; rfl
theorem find_no {n : Nat} {f : Nat → Int} {p : Int → Bool} (hno : ∀ j, j < n → p (f j) = false) : (fl n f).find? p = none := by
  rw [List.find?_eq_none]
  intro z hz
  unfold fl at hz
  rw [List.mem_map] at hz
  obtain ⟨j, hj, rfl⟩ := hz
  rw [hno j (List.mem_range.1 hj)]; decide

theorem two_row (w : World) (x y : Int) : RowF (w.alloc (.cells #[.int .i64 x, .int .i64 y] 3)) (some ⟨w.heap.size, 0, none⟩) 2 (fun j => if j = 0 then x else y) := by
  refine Or.inr ⟨w.heap.size, 0, rfl, by rw [size_new]; omega, fun j hj => ?_⟩
  rcases (by omega : j = 0 ∨ j = 1) with h | h
  · subst h; simp [go_sem]
  · subst h; simp [go_sem]
end Go.Proofs.Ytlihcljjpalapaa
