/- The table of the marks; the contracts of lex.isMark, beginsWithDigit, markOf and of the trimming at this program. -/
import Derived.Test.YtiocnagbcbhggaaDoorRows
import Derived.Test.YtiocnagbcbhggaaDoorShelf
import Derived.Test.YtiocnagbcbhggaaDoorLy
import Derived.Test.YtiocnagbcbhggaaDoorFt
import Derived.Test.YtiocnagbcbhggaaDoorScope
import Derived.WalkKit
import Derived.WalkSpells
import Derived.WalkLawsBesides
import Derived.Laws.IdiomStrings
import Derived.Laws.Strings
import Derived.Laws.Strings2
import Derived.Laws.Strings3
import Derived.Laws.Concat
import Derived.Deep.MidRow
import Derived.Deep.QuietTactic
import Derived.BigQuiet
import Derived.Lib.LaidTab
import Derived.Lib.Hide
namespace Go.Proofs.YtiocnagbcbhggaaDoor
open Go.RowKit SM
set_option linter.unusedSimpArgs false

theorem size_len (s : ByteArray) : s.size = s.data.toList.length := by rw [Array.length_toList]; rfl
theorem head_at (s : ByteArray) (h : 0 < s.size) : s.data.toList.head? = some s[0] := by
  rw [List.head?_eq_getElem?, List.getElem?_eq_getElem (by rw [← size_len]; exact h)]; rfl
theorem ba_of (l : List UInt8) : ∃ b : ByteArray, b.data.toList = l := ⟨⟨l.toArray⟩, by simp⟩
theorem ba_ext {a b : ByteArray} (h : a.data.toList = b.data.toList) : a = b := by
  cases a; cases b; simp at h; rw [h]
theorem ba_app (a b : ByteArray) : (a ++ b).data.toList = a.data.toList ++ b.data.toList := by simp [ByteArray.data_append]
theorem uni (u v : UInt8) : ((u.toNat : Int) = (v.toNat : Int)) ↔ u = v := by
  constructor
  · intro h; exact UInt8.toNat_inj.1 (by omega)
  · intro h; rw [h]

/-! ### the table of the marks -/
/-- the text of the kind k; nothing: it has none of its own. -/
def mk (k : Nat) : List UInt8 := if 3 ≤ k ∧ k ≤ 18 then tx ⟨k, 0⟩ else []
def mb (k : Nat) : ByteArray := ⟨(mk k).toArray⟩
theorem mb_list (k : Nat) : (mb k).data.toList = mk k := by simp [mb]
theorem mk_in {k : Nat} (h : 3 ≤ k ∧ k ≤ 18) : mk k = tx ⟨k, 0⟩ := by unfold mk; rw [if_pos h]
theorem mk_out {k : Nat} (h : ¬ (3 ≤ k ∧ k ≤ 18)) : mk k = [] := by unfold mk; rw [if_neg h]
theorem mk_len (k : Nat) : (mk k).length ≤ 2 ∧ ((mk k).length = 0 ↔ ¬ (3 ≤ k ∧ k ≤ 18)) := by
  by_cases h : 3 ≤ k ∧ k ≤ 18
  · have : ∀ k : Fin 16, (tx ⟨k.1 + 3, 0⟩).length ≤ 2 ∧ (tx ⟨k.1 + 3, 0⟩).length ≠ 0 := by decide
    have h3 := this ⟨k - 3, by omega⟩
    simp only [Nat.sub_add_cancel h.1] at h3
    rw [mk_in h]
    exact ⟨h3.1, by constructor; (· intro e; exact absurd e h3.2); (· intro e; exact absurd h e)⟩
  · rw [mk_out h]; simp [h]
theorem mb_size (k : Nat) : (mb k).size = (mk k).length := by rw [size_len, mb_list]
/-- the table as a row lists it. -/
def marksL : List (List UInt8) := (List.range 19).map mk
def marksV : List Value := (List.range 19).map fun k => Value.string (mb k)
/-- the table lies in block 0. -/
def Mks (w : World) : Prop := ∃ T m, w.heap[0]? = some (.cells marksV.toArray T m)
theorem mks_grw {w x : World} (h : Grw w x) (t : Mks w) : Mks x := by
  obtain ⟨T, m, e⟩ := t
  exact ⟨T, m, by rw [h.block (Array.getElem?_eq_some_iff.1 e).1]; exact e⟩
theorem marksV_at {k : Nat} (h : k < 19) : marksV[k]? = some (.string (mb k)) := by simp [marksV, h]
theorem mks_cell {w : World} (t : Mks w) {k : Nat} (h : k < 19) : w.cell? ⟨0, k, none⟩ = some (.string (mb k)) := by
  obtain ⟨T, m, e⟩ := t
  have := marksV_at h
  simp [World.cell?, e, this]
theorem mks_range {w : World} (t : Mks w) : w.rangeAt 0 0 marksV := fun j v hj => by
  have hl : j < 19 := by
    have := (List.getElem?_eq_some_iff.1 hj).1
    simpa [marksV] using this
  rw [marksV_at hl] at hj
  injection hj with e
  rw [← e, Nat.zero_add]
  exact mks_cell t hl

set_option maxHeartbeats 1000000 in
set_option maxRecDepth 100000 in
theorem isMark_in (k : Nat) (w : World) (t : Mks w) (h : 3 ≤ k ∧ k ≤ 18) :
    Calls Tryd.prog 22 #[.int .i64 k] w fun e w' => e = .returned (.bool true) ∧ Grw w w' := by
  have c := mks_cell t (show k < 19 by omega)
  have h0 : decide ((0 : Int) ≤ k) = true := decide_eq_true (by omega)
  have h1 : decide ((k : Int) < 19) = true := decide_eq_true (by omega)
  have h2 : ¬ (mb k).toList = [] := by
    rw [Lib.toList_data, mb_list]
    intro e
    exact (mk_len k).2.1 (by rw [e]; rfl) h
  have h3 : (mb k).toList.isEmpty = false := by rw [List.isEmpty_eq_false_iff]; exact h2
  have h4 : k < 19 := by omega
  clear t h
  generalize mb k = b at *
  go_enter Tryd.func22, Tryd.ntmps22
  go_wp2_with fail
  all_goals (go_ret; first | exact ⟨rfl, Grw.rfl' _⟩ | exact ⟨rfl, (Grw.rfl' _).drewN _⟩)

set_option maxHeartbeats 1000000 in
set_option maxRecDepth 100000 in
theorem isMark_out (k : Int) (w : World) (t : Mks w) (h : ¬ (3 ≤ k ∧ k ≤ 18)) :
    Calls Tryd.prog 22 #[.int .i64 k] w fun e w' => e = .returned (.bool false) ∧ Grw w w' := by
  by_cases c0 : k < 0
  · have h0 : decide ((0 : Int) ≤ k) = false := decide_eq_false (by omega)
    clear t h
    go_enter Tryd.func22, Tryd.ntmps22
    go_wp2_with fail
    all_goals (go_ret; first | exact ⟨rfl, Grw.rfl' _⟩ | exact ⟨rfl, (Grw.rfl' _).drewN _⟩)
  · by_cases c1 : k < 19
    · obtain ⟨n, rfl⟩ := Int.eq_ofNat_of_zero_le (show 0 ≤ k by omega)
      have c := mks_cell t (show n < 19 by omega)
      have h0 : decide ((0 : Int) ≤ n) = true := decide_eq_true (by omega)
      have h1 : decide ((n : Int) < 19) = true := decide_eq_true (by omega)
      have h2 : (mb n).toList = [] := by
        rw [Lib.toList_data, mb_list]
        exact mk_out (by omega)
      have h3 : (mb n).toList.isEmpty = true := by rw [h2]; rfl
      have h4 : n < 19 := by omega
      clear t h c0 c1
      generalize mb n = b at *
      go_enter Tryd.func22, Tryd.ntmps22
      go_wp2_with fail
      all_goals (go_ret; first | exact ⟨rfl, Grw.rfl' _⟩ | exact ⟨rfl, (Grw.rfl' _).drewN _⟩)
    · have h0 : decide ((0 : Int) ≤ k) = true := decide_eq_true (by omega)
      have h1 : decide (k < (19 : Int)) = false := decide_eq_false (by omega)
      clear t h c0 c1
      go_enter Tryd.func22, Tryd.ntmps22
      go_wp2_with fail
      all_goals (go_ret; first | exact ⟨rfl, Grw.rfl' _⟩ | exact ⟨rfl, (Grw.rfl' _).drewN _⟩)
end Go.Proofs.YtiocnagbcbhggaaDoor
