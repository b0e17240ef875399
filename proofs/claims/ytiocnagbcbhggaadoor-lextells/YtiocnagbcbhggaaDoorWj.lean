/- The contract of the document's Lex at this program. -/
import Derived.Test.YtiocnagbcbhggaaDoorWi
namespace Go.Proofs.YtiocnagbcbhggaaDoor
open Go.RowKit SM
set_option linter.unusedSimpArgs false
set_option linter.unusedVariables false

theorem drop_at {s : ByteArray} {p : Nat} (h : p < s.size) : s.data.toList.drop p = s[p] :: s.data.toList.drop (p + 1) := by
  rw [List.drop_eq_getElem_cons (by rw [← size_len]; exact h)]; rfl
theorem ds_le (l : List UInt8) : (ds l).length ≤ l.length := by
  have := congrArg List.length (ds_bh l)
  rw [List.length_append] at this
  omega
/-- behind the digits. -/
theorem bh_drop (l : List UInt8) : bh l = l.drop (ds l).length := by
  calc bh l = (ds l ++ bh l).drop (ds l).length := by simp
    _ = l.drop (ds l).length := by rw [ds_bh l]
theorem ds_at {s : ByteArray} {p j : Nat} (h : j < (ds (s.data.toList.drop p)).length) : ∃ h2 : p + j < s.size, (ds (s.data.toList.drop p))[j] = s[p + j] ∧ isD s[p + j] = true := by
  have h1 := ds_le (s.data.toList.drop p)
  rw [List.length_drop, ← size_len] at h1
  have h2 : p + j < s.size := by omega
  have e : (ds (s.data.toList.drop p))[j] = s[p + j] := by
    have e1 : (ds (s.data.toList.drop p))[j]? = (s.data.toList.drop p)[j]? := by
      calc (ds (s.data.toList.drop p))[j]? = (ds (s.data.toList.drop p) ++ bh (s.data.toList.drop p))[j]? := by rw [List.getElem?_append_left h]
        _ = (s.data.toList.drop p)[j]? := by rw [ds_bh]
    rw [List.getElem?_eq_getElem h, List.getElem?_drop, List.getElem?_eq_getElem (by rw [← size_len]; exact h2)] at e1
    exact Option.some.inj e1
  exact ⟨h2, e, by rw [← e]; exact ds_all _ _ (List.getElem_mem h)⟩
theorem ds_stop {s : ByteArray} {p : Nat} (hp : p ≤ s.size) (h2 : p + (ds (s.data.toList.drop p)).length < s.size) : isD s[p + (ds (s.data.toList.drop p)).length] = false := by
  have hb := bh_drop (s.data.toList.drop p)
  rw [List.drop_drop, drop_at h2] at hb
  exact bh_head _ _ _ hb
theorem sat_take (M : Nat) (d : List UInt8) (j : Nat) (h : j < d.length) : SM.sat M (d.take (j + 1)) = min (10 * SM.sat M (d.take j) + (d[j].toNat - 48)) M := by
  rw [List.take_succ_eq_append_getElem h, sat_snoc]
theorem sat_lim (M : Nat) (d : List UInt8) : SM.sat M d ≤ M := by rw [sat_is]; omega
/-- does the kind k stand at p? -/
theorem pk_cut {s x : ByteArray} {p k : Nat} (h3 : 3 ≤ k) (h18 : k ≤ 18) (hl : p + (mb k).size ≤ s.size) (hx : x.data.toList = (s.data.toList.drop p).take (mb k).size) : (x.toList == (mb k).toList) = pk (s.data.toList.drop p) k := by
  have hm : (mb k).data.toList = tx ⟨k, 0⟩ := by rw [mb_list, mk_in ⟨h3, h18⟩]
  have hs : (mb k).size = (tx ⟨k, 0⟩).length := by rw [size_len, hm]
  rw [Lib.toList_data, Lib.toList_data, hx, hm, hs]
  unfold pk
  rw [Bool.eq_iff_iff, beq_iff_eq, List.isPrefixOf_iff_prefix, List.prefix_iff_eq_take]
  exact eq_comm
theorem pk_short {s : ByteArray} {p k : Nat} (h3 : 3 ≤ k) (h18 : k ≤ 18) (hp : p ≤ s.size) (hl : ¬ p + (mb k).size ≤ s.size) : pk (s.data.toList.drop p) k = false := by
  have hm : (mb k).data.toList = tx ⟨k, 0⟩ := by rw [mb_list, mk_in ⟨h3, h18⟩]
  have hs : (mb k).size = (tx ⟨k, 0⟩).length := by rw [size_len, hm]
  unfold pk
  rw [Bool.eq_false_iff]
  intro e
  rw [List.isPrefixOf_iff_prefix] at e
  have := e.length_le
  rw [List.length_drop, ← size_len, ← hs] at this
  omega
theorem of_mb (k : Nat) (h3 : 3 ≤ k) (h18 : k ≤ 18) (w : World) : Calls Tryd.prog 23 #[.int .i64 k] w fun e w' => e = .returned (.string (mb k)) ∧ Grw w w' :=
  of_is k (mb k) w h3 h18 (by rw [mb_list, mk_in ⟨h3, h18⟩])
theorem f1_one (l : List UInt8) (f k : Nat) (h : pk l k = false) : f1 l f k = f := f1_no h
theorem f1_two (l : List UInt8) (k : Nat) (h : pk l k = true) : f1 l 0 k = k := f1_first h
theorem f1_gt (l : List UInt8) (f k : Nat) (hf : 3 ≤ f ∧ f ≤ 18) (hk : 3 ≤ k ∧ k ≤ 18) (h : pk l k = true) (hl : (mb f).size < (mb k).size) : f1 l f k = k := by
  refine f1_more h ?_
  rw [mb_size, mb_size, mk_in hf, mk_in hk] at hl
  exact hl
theorem f1_le (l : List UInt8) (f k : Nat) (hf : 3 ≤ f ∧ f ≤ 18) (hk : 3 ≤ k ∧ k ≤ 18) (hl : ¬ (mb f).size < (mb k).size) : f1 l f k = f := by
  rw [mb_size, mb_size, mk_in hf, mk_in hk] at hl
  unfold f1
  have h0 : (f == 0) = false := by simp; omega
  rw [h0, decide_eq_false hl]
  simp

/-- the loop over the kinds, found among the first m: one more. -/
def Fnd (s : ByteArray) (p m f : Nat) : Prop := f = fs (s.data.toList.drop p) m
theorem fnd_in {s : ByteArray} {p m f : Nat} (h : Fnd s p m f) (hm : m ≤ 16) : f = 0 ∨ (3 ≤ f ∧ f ≤ 18) := by
  have := fs_in (s.data.toList.drop p) m hm
  unfold Fnd at h
  rw [h]; exact this
theorem fnd_next {s : ByteArray} {p m f g : Nat} (h : Fnd s p m f) (hg : f1 (s.data.toList.drop p) f (m + 3) = g) : Fnd s p (m + 1) g := by
  unfold Fnd at h ⊢
  rw [fs, ← h, hg]
end Go.Proofs.YtiocnagbcbhggaaDoor
