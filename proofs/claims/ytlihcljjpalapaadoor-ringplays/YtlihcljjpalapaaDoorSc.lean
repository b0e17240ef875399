/- The document's ring in memory; the contracts of its find, List, Mask at this program. -/
import Derived.Test.YtlihcljjpalapaaDoorSb
import Derived.Test.YtlihcljjpalapaaDoorRn
import Derived.Test.YtlihcljjpalapaaDoorWg
namespace Go.Proofs.YtlihcljjpalapaaDoor
open Go.RowKit MK
open RG (Du La listR putB putR dropR dropO takeR hasId inSlot)
set_option linter.unusedSimpArgs false

/-- timers in slots, cell by cell. -/
def cl : List La → List Value
  | [] => []
  | x :: l => .int .i64 x.s :: .int .i64 x.d.id :: .int .u64 (x.d.t : Nat) :: cl l
theorem cl_len (l : List La) : (cl l).length = l.length * 3 := by
  induction l with
  | nil => rfl
  | cons d l ih => simp only [cl, List.length_cons, ih]; omega
theorem cl_app (l k : List La) : cl (l ++ k) = cl l ++ cl k := by
  induction l with
  | nil => rfl
  | cons d l ih => simp only [cl, List.cons_append, ih]
theorem cl_at (l : List La) (j : Nat) (h : j < l.length) : (cl l)[j * 3]? = some (.int .i64 l[j].s) ∧ (cl l)[j * 3 + 1]? = some (.int .i64 l[j].d.id) ∧ (cl l)[j * 3 + 2]? = some (.int .u64 (l[j].d.t : Nat)) := by
  induction l generalizing j with
  | nil => simp at h
  | cons d l ih =>
    cases j with
    | zero => exact ⟨rfl, rfl, rfl⟩
    | succ j =>
      have := ih j (by simpa using h)
      rw [show (j + 1) * 3 = j * 3 + 1 + 1 + 1 by omega, show j * 3 + 1 + 1 + 1 + 1 = (j * 3 + 1) + 1 + 1 + 1 by omega, show j * 3 + 1 + 1 + 1 + 2 = (j * 3 + 2) + 1 + 1 + 1 by omega]
      simp only [cl, List.getElem?_cons_succ, List.getElem_cons_succ]
      exact this
theorem cl_take (l : List La) (k : Nat) : cl (l.take k) = (cl l).take (k * 3) := by
  induction l generalizing k with
  | nil => simp [cl]
  | cons d l ih =>
    cases k with
    | zero => simp [cl]
    | succ k => rw [show (k + 1) * 3 = k * 3 + 1 + 1 + 1 by omega]; simp only [cl, List.take_succ_cons, ih]
theorem cl_drop (l : List La) (k : Nat) : cl (l.drop k) = (cl l).drop (k * 3) := by
  induction l generalizing k with
  | nil => simp [cl]
  | cons d l ih =>
    cases k with
    | zero => simp [cl]
    | succ k => rw [show (k + 1) * 3 = k * 3 + 1 + 1 + 1 by omega]; simp only [cl, List.drop_succ_cons, ih]
theorem cl_one (l : List La) : ∀ u ∈ cl l, u.oneCell' = true := by
  induction l with
  | nil => intro u h; cases h
  | cons d l ih =>
    intro u h
    simp only [cl, List.mem_cons] at h
    rcases h with rfl | rfl | rfl | h
    · rfl
    · rfl
    · rfl
    · exact ih u h
/-- the three cells of element j. -/
theorem lies3 {w : World} {ao : Option Addr} {l : List La} (h : Lies w ao (cl l)) {j : Nat} (hj : j < l.length) :
    ∃ b off, ao = some ⟨b, off, none⟩ ∧ w.cell? ⟨b, off + j * 3, none⟩ = some (.int .i64 l[j].s) ∧ w.cell? ⟨b, off + j * 3 + 1, none⟩ = some (.int .i64 l[j].d.id) ∧ w.cell? ⟨b, off + j * 3 + 2, none⟩ = some (.int .u64 (l[j].d.t : Nat)) := by
  rcases h with h | ⟨b, off, e, _, hc⟩
  · have := cl_len l
    rw [h] at this
    simp at this
    omega
  · obtain ⟨h0, h1, h2⟩ := cl_at l j hj
    have e1 := hc _ _ h1
    have e2 := hc _ _ h2
    rw [← Nat.add_assoc] at e1 e2
    exact ⟨b, off, e, hc _ _ h0, e1, e2⟩
/-- block q holds a slice of its own that reads R. -/
structure RefL (w : World) (q : Nat) (v : Value) (R : List La) : Prop where
  blk : w.heap[q]? = some (.cells #[v] 28 (0, 0))
  own : w.ownsRow 0 62 3 v R.length (cl R)
  ne : v.ownBlock ≠ some q
  few : R.length ≤ 1000
/-- the blocks that the document's ring writes. -/
def rfoot (q : Nat) (v : Value) (g : Nat) : Prop := g = q ∨ v.ownBlock = some g
theorem RefL.lt {w : World} {q : Nat} {v : Value} {R : List La} (h : RefL w q v R) : q < w.heap.size := (Array.getElem?_eq_some_iff.1 h.blk).1
theorem RefL.foot_lt {w : World} {q : Nat} {v : Value} {R : List La} (h : RefL w q v R) {g : Nat} (hg : rfoot q v g) : g < w.heap.size := by
  rcases hg with rfl | hv
  · exact h.lt
  · exact (h.own.lt g hv).2
theorem RefL.frm {F : Nat → Prop} {w x : World} {q : Nat} {v : Value} {R : List La} (h : RefL w q v R) (g : Frm F w x) (hn : ∀ k, rfoot q v k → ¬ F k) : RefL x q v R :=
  ⟨by rw [g.block q h.lt (hn q (Or.inl rfl))]; exact h.blk, ownsRow_frm h.own g (fun k hk => hn k (Or.inr hk)), h.ne, h.few⟩
theorem RefL.later {w x : World} {q : Nat} {v : Value} {R : List La} (h : RefL w q v R) (g : Grw w x) : RefL x q v R := h.frm (g.frm (fun _ => False)) (fun _ _ e => e)
theorem RefL.cell {w : World} {q : Nat} {v : Value} {R : List La} (h : RefL w q v R) : w.cell? ⟨q, 0, none⟩ = some v := by simp [World.cell?, h.blk]
theorem RefL.free {w : World} {q : Nat} {v : Value} {R : List La} (h : RefL w q v R) : w.frozen? ⟨q, 0, none⟩ = false := by simp [World.frozen?, h.blk]
theorem RefL.row {w : World} {q : Nat} {v : Value} {R : List La} (h : RefL w q v R) : ∃ ao cap, v = .slice ao R.length cap ∧ Lies w ao (cl R) := ownsRow_lies h.own
theorem ref_new (w : World) : RefL (w.alloc (.cells #[.slice none 0 0] 28)) w.heap.size (.slice none 0 0) [] :=
  ⟨heap_alloc_new w _, World.ownsRow_nil _ _ _ _, (fun e => by cases e), Nat.zero_le _⟩

/-- the place of a number in the list. -/
def RfQ (R : List La) (id : Int) (p : Int) : Prop := (∃ (k : Nat) (h : k < R.length), p = k ∧ (R[k]).d.id = id ∧ ∀ j (hj : j < R.length), j < k → (R[j]).d.id ≠ id) ∨ (p = -1 ∧ ∀ j (hj : j < R.length), (R[j]).d.id ≠ id)
def RfindQ (R : List La) (id : Int) (w : World) (e : Ending) (w' : World) : Prop := ∃ p, e = .returned (.int .i64 p) ∧ RfQ R id p ∧ w = w'
set_option maxHeartbeats 1000000 in
set_option maxRecDepth 100000 in
theorem rfind_any (q : Nat) (v : Value) (R : List La) (id : Int) (w : World) (h : RefL w q v R) : Calls Tryd.prog 27 #[.pointer (some ⟨q, 0, none⟩), .int .i64 id] w (RfindQ R id w) := by
  have hf := h.few
  have hc := h.cell
  obtain ⟨ao, cap, rfl, hl⟩ := h.row
  have LI := Lib.hid hl
  obtain ⟨n, hn⟩ : ∃ n, R.length = n := ⟨_, rfl⟩
  rw [hn] at hf hc
  have HN := Lib.hid hn
  clear h hl hn
  go_enter Tryd.func27, Tryd.ntmps27
  go_wp2_with fail
  go_loopw [5] (fun i wr => ∃ k : Nat, k ≤ n ∧ i = .int .i64 k ∧ w = wr ∧ ∀ j (hj : j < R.length), j < k → (R[j]).d.id ≠ id) (fun i _ => n - (intOf i).toNat)
  case atStart => exact ⟨0, Nat.zero_le _, rfl, rfl, fun j _ hj => by omega⟩
  case round =>
    obtain ⟨k, hk, rfl, rfl, hno⟩ := hrel
    have NO := Lib.hid hno
    clear hno
    by_cases hk' : k < n
    · have hki : (k : Int) < (n : Int) := by omega
      have hkl : k < R.length := by rw [HN.out]; exact hk'
      obtain ⟨b, off, rfl, c0, c1, c2⟩ := lies3 LI.out hkl
      obtain ⟨x, hx⟩ : ∃ x, R[k] = x := ⟨_, rfl⟩
      have HX := Lib.hid hx
      rw [hx] at c0 c1 c2
      obtain ⟨xs, xi, xt⟩ := x
      simp only at c0 c1 c2
      clear hx
      by_cases he : xi = id
      · have ht : (xi == id) = true := by simp [he]
        have HE := Lib.hid he
        clear he
        go_wp2_with fail
        go_ret
        exact ⟨_, rfl, Or.inl ⟨k, hkl, rfl, by rw [HX.out]; exact HE.out, NO.out⟩, rfl⟩
      · have ht : (xi == id) = false := by simp [he]
        have HE := Lib.hid he
        clear he
        go_wp2_with fail
        go_roundw
        case rel => exact ⟨k + 1, by omega, by go_num, trivial, fun j h1 h2 => by
          rcases (by omega : j < k ∨ j = k) with h | h
          · exact NO.out j h1 h
          · subst h; rw [HX.out]; exact HE.out⟩
        case measure => simp [intOf]; omega
    · have hki : ¬ (k : Int) < (n : Int) := by omega
      obtain rfl : n = k := by omega
      go_wp2_with fail
      go_ret
      exact ⟨_, rfl, Or.inr ⟨rfl, fun j hj => NO.out j hj (by rw [HN.out] at hj; exact hj)⟩, rfl⟩
end Go.Proofs.YtlihcljjpalapaaDoor
