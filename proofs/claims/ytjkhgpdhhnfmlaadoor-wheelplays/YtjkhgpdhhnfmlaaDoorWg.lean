/- The contracts of mask.List and of the document's List at this program. -/
import Derived.Test.YtjkhgpdhhnfmlaaDoorWb
import Derived.Test.YtjkhgpdhhnfmlaaDoorRw
namespace Go.Proofs.YtjkhgpdhhnfmlaaDoor
open Go.RowKit MK
set_option linter.unusedSimpArgs false

theorem Tryd.info3 : (Tryd.prog.info? 3).map (fun i => (i.zero, i.size, i.bytes)) = some (some (.int .i64 0), 1, 8) := by kernel_rfl
theorem pre_yes {m k : Nat} (h : m.testBit k = true) : pre m (k + 1) = pre m k ++ [(k : Int)] := by rw [pre_succ, if_pos h]
theorem pre_no {m k : Nat} (h : m.testBit k = false) : pre m (k + 1) = pre m k := by rw [pre_succ, if_neg (by rw [h]; decide)]

theorem bit_yes {m k q : Nat} (e : m / 2 ^ k = q) (h : m.testBit k = true) : ((q : Int) % 2 == 1) = true := by
  rw [Nat.testBit_eq_decide_div_mod_eq, e, decide_eq_true_eq] at h
  simp; omega
theorem bit_no {m k q : Nat} (e : m / 2 ^ k = q) (h : m.testBit k = false) : ((q : Int) % 2 == 1) = false := by
  rw [Nat.testBit_eq_decide_div_mod_eq, e, decide_eq_false_iff_not] at h
  simp; omega
end Go.Proofs.YtjkhgpdhhnfmlaaDoor

/- The contracts of mask.Of, of the document's Has and Of, and of the laws' own Ints at this program. -/
namespace Go.Proofs.YtjkhgpdhhnfmlaaDoor
open Go.RowKit MK
set_option linter.unusedSimpArgs false

theorem with_is (m v : Nat) (i : Int) (w : World) (hm : m < 18446744073709551616) (h : wth m i = v) :
    Calls Tryd.prog 89 #[.int .u64 m, .int .i64 i] w fun e w' => e = .returned (.int .u64 (v : Nat)) ∧ w = w' := by rw [← h]; exact with_any m i w hm

/-- is it among the first k? -/
def inF (k : Nat) (f : Nat → Int) (i : Int) : Prop := ∃ j, j < k ∧ f j = i

end Go.Proofs.YtjkhgpdhhnfmlaaDoor

/- The contracts of the document's Of, With, Without at this program. -/
namespace Go.Proofs.YtjkhgpdhhnfmlaaDoor
open Go.RowKit MK
set_option linter.unusedSimpArgs false

theorem wth_out {m : Nat} {i : Int} (h : ¬ (0 ≤ i ∧ i < 64)) : wth m i = m := if_neg h
theorem wth_has {m : Nat} {i : Int} (hm : m < 2 ^ 64) (h : has m i = true) : wth m i = m := by
  refine ext64 (wth_lt hm i) hm fun k hk => ?_
  rw [wth_bit m i k hk]
  by_cases e : i = (k : Int)
  · subst e
    rw [has_nat m k hk] at h
    simp [h]
  · simp [e]
theorem wth_add {m q : Nat} (hq : q < 64) (h : has m (q : Int) = false) : wth m (q : Int) = m + 2 ^ q := by
  rw [has_nat m q hq] at h
  rw [add_bit h]
  unfold wth
  rw [if_pos (by omega)]; rfl

end Go.Proofs.YtjkhgpdhhnfmlaaDoor

/- The contracts of the document's With, Without, Next, Round at this program. -/
namespace Go.Proofs.YtjkhgpdhhnfmlaaDoor
open Go.RowKit MK
set_option linter.unusedSimpArgs false

/-- a slice that reads as a list. -/
def RowL (w : World) (v : Value) (l : List Int) : Prop := ∃ ao cap, v = .slice ao l.length cap ∧ RowF w ao l.length (fun j => l.getD j 0)
theorem RowL.later {w x : World} {v : Value} {l : List Int} (h : RowL w v l) (g : Grw w x) : RowL x v l :=
  let ⟨ao, cap, e, r⟩ := h; ⟨ao, cap, e, r.later g⟩
theorem ofL_els {m : Nat} (hm : m < 2 ^ 64) : ofL (els m) = m :=
  ofL_eq hm _ fun k hk => by rw [mem_els, has_nat m k hk]
theorem ofL_with {m : Nat} (hm : m < 2 ^ 64) (i : Int) : ofL (els m ++ [i]) = wth m i := by
  rw [ofL_snoc, ofL_els hm]; rfl
theorem ofL_without {m : Nat} (hm : m < 2 ^ 64) (i : Int) : ofL ((els m).filter (fun z => decide (z ≠ i))) = wot m i :=
  ofL_eq (wot_lt hm i) _ fun k hk => by
    rw [List.mem_filter, mem_els, has_nat m k hk, wot_bit m i k hk, Bool.and_eq_true]
    by_cases e : (k : Int) = i
    · simp [e]
    · simp [e, Ne.symm e]

end Go.Proofs.YtjkhgpdhhnfmlaaDoor

/- The contracts of the document's Next and Round and of the laws' own wakes at this program. -/
namespace Go.Proofs.YtjkhgpdhhnfmlaaDoor
open Go.RowKit MK
set_option linter.unusedSimpArgs false

/-- two cells that lie, and their block is there. -/
structure Kp (x : World) (b : Nat) (c0 c1 : Value) : Prop where
  t : Two x b c0 c1
  lt : b < x.heap.size
theorem Kp.new (w : World) (c0 c1 : Value) (T : TypeId) : Kp (w.alloc (.cells #[c0, c1] T)) w.heap.size c0 c1 := ⟨Two.new w c0 c1 T, by simp only [size_new]; omega⟩
theorem Kp.later {w x : World} {b : Nat} {c0 c1 : Value} (k : Kp w b c0 c1) (h : Grw w x) : Kp x b c0 c1 := ⟨k.t.later h k.lt, Nat.lt_of_lt_of_le k.lt (Below.size h)⟩
theorem Kp.grown {w x : World} {c0 c1 : Value} {T : TypeId} (h : Grw (w.alloc (.cells #[c0, c1] T)) x) : Kp x w.heap.size c0 c1 := (Kp.new w c0 c1 T).later h
theorem find_at {n : Nat} {f : Nat → Int} {p : Int → Bool} {k : Nat} (hk : k < n) (h : p (f k) = true) (hno : ∀ j, j < k → p (f j) = false) : (fl n f).find? p = some (f k) := by
  rw [List.find?_eq_some_iff_getElem]
  refine ⟨h, k, by rw [fl_len]; exact hk, fl_get _ _ _ _, fun j hj => ?_⟩
  rw [fl_get, hno j hj]; rfl
theorem find_no {n : Nat} {f : Nat → Int} {p : Int → Bool} (hno : ∀ j, j < n → p (f j) = false) : (fl n f).find? p = none := by
  rw [List.find?_eq_none]
  intro z hz
  unfold fl at hz
  rw [List.mem_map] at hz
  obtain ⟨j, hj, rfl⟩ := hz
  rw [hno j (List.mem_range.1 hj)]; decide

theorem next_is (m : Nat) (f : Int) (v : Int) (b : Bool) (w : World) (hm : m < 18446744073709551616) (t : Tab w) (h1 : ov (nxt m f) = v) (h2 : (nxt m f).isSome = b) :
    Calls Tryd.prog 88 #[.int .u64 m, .int .i64 f] w fun e w' => e = .returned (.tuple #[.int .i64 v, .bool b]) ∧ w = w' := by rw [← h1, ← h2]; exact next_any m f w hm t
theorem round_is (m : Nat) (f : Int) (v : Int) (b : Bool) (w : World) (hm : m < 18446744073709551616) (t : Tab w) (h1 : ov (rnd m f) = v) (h2 : (rnd m f).isSome = b) :
    Calls Tryd.prog 79 #[.int .u64 m, .int .i64 f] w fun e w' => e = .returned (.tuple #[.int .i64 v, .bool b]) ∧ w = w' := by rw [← h1, ← h2]; exact round_any m f w hm t
theorem two_row (w : World) (x y : Int) : RowF (w.alloc (.cells #[.int .i64 x, .int .i64 y] 3)) (some ⟨w.heap.size, 0, none⟩) 2 (fun j => if j = 0 then x else y) := by
  refine Or.inr ⟨w.heap.size, 0, rfl, by rw [size_new]; omega, fun j hj => ?_⟩
  rcases (by omega : j = 0 ∨ j = 1) with h | h
  · subst h; simp [go_sem]
  · subst h; simp [go_sem]
end Go.Proofs.YtjkhgpdhhnfmlaaDoor
