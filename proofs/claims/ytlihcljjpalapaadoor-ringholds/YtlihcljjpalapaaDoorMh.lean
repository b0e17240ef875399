/- What RingHolds puts in and takes out, as mathematics. Nothing of the program's functions is named here. -/
import Derived.Test.YtlihcljjpalapaaDoorRn
import Derived.Test.YtlihcljjpalapaaDoorOa
namespace Go.Proofs.YtlihcljjpalapaaDoor
open Go.RowKit MK
open RG (Du La listR putB putR dropR dropO takeR hasId)

/-- the timer of act j, in its slot. -/
def hol (f : Nat → Ac) (j : Nat) : La := ⟨(f j).s % 64, ⟨(j : Int), (f j).d.t⟩⟩
/-- the first i, put in. -/
def hols (f : Nat → Ac) (i : Nat) : List La := (List.range i).map (hol f)
theorem hols_len (f : Nat → Ac) (i : Nat) : (hols f i).length = i := by unfold hols; simp
theorem hols_put (f : Nat → Ac) (i : Nat) : putB (hols f i) ((f i).s % 64) ⟨(i : Int), (f i).d.t⟩ = true ∧ putR (hols f i) ((f i).s % 64) ⟨(i : Int), (f i).d.t⟩ = hols f (i + 1) := by
  have hb : putB (hols f i) ((f i).s % 64) ⟨(i : Int), (f i).d.t⟩ = true := by
    unfold RG.putB RG.slotB
    rw [Bool.and_eq_true, decide_eq_true_eq, Bool.not_eq_true']
    refine ⟨by omega, RG.hasId_no fun j hj => ?_⟩
    have hj' : j < i := by rw [hols_len] at hj; exact hj
    have e : (hols f i)[j] = hol f j := by simp [hols]
    rw [e]
    show (j : Int) ≠ (i : Int)
    omega
  refine ⟨hb, ?_⟩
  unfold RG.putR
  rw [if_pos hb]
  unfold hols
  rw [List.range_succ, List.map_append]
  rfl
/-- all of it was put in. -/
def From (f : Nat → Ac) (n : Nat) (R : List La) : Prop := ∀ x ∈ R, ∃ j, j < n ∧ x = hol f j
theorem from_hols (f : Nat → Ac) (n : Nat) : From f n (hols f n) := by
  intro x hx
  unfold hols at hx
  obtain ⟨j, hj, rfl⟩ := List.mem_map.1 hx
  exact ⟨j, List.mem_range.1 hj, rfl⟩
theorem from_take {f : Nat → Ac} {n : Nat} {R : List La} (h : From f n R) (s : Int) : From f n (takeR R s) := fun x hx => h x (List.mem_filter.1 hx).1
theorem from_at {f : Nat → Ac} {n : Nat} {R : List La} (h : From f n R) {s : Int} {i : Nat} (hi : i < (listR R s).length) : ∃ j, j < n ∧ (listR R s)[i] = ⟨(j : Int), (f j).d.t⟩ ∧ (f j).s % 64 = s := by
  have hm : ⟨s, (listR R s)[i]⟩ ∈ R := (mem_listR R s _).1 (List.getElem_mem hi)
  obtain ⟨j, hj, e⟩ := h _ hm
  unfold hol at e
  injection e with e1 e2
  exact ⟨j, hj, e2, e1.symm⟩
/-- strictly in order. -/
theorem listR_less {R : List La} (g : RG.Good R) (s : Int) {i : Nat} (hi : i + 1 < (listR R s).length) : RG.less ((listR R s)[i]'(by omega)) (listR R s)[i + 1] = true := by
  refine RG.less_of_le (List.pairwise_iff_getElem.1 (listR_srt R s) i (i + 1) (by omega) hi (by omega)) fun e => ?_
  have hn := nodup_listR g s
  unfold List.Nodup at hn
  rw [List.pairwise_map, List.pairwise_iff_getElem] at hn
  exact hn i (i + 1) (by omega) hi (by omega) (by rw [e])
theorem take_len {R : List La} (s : Int) : (takeR R s).length + (listR R s).length = R.length := by
  unfold RG.takeR RG.listR RG.inSlot
  rw [RG.sort_len, List.length_map]
  induction R with
  | nil => rfl
  | cons x R ih =>
    simp only [List.filter_cons]
    by_cases h : x.s = s
    · rw [if_neg (by simpa using h), if_pos (by simpa using h), List.length_cons, List.length_cons, ← ih]; omega
    · rw [if_pos (by simpa using h), if_neg (by simpa using h), List.length_cons, List.length_cons, ← ih]; omega
/-- First finds a slot that is not empty. -/
theorem first_found {R : List La} (g : RG.Good R) (hR : 0 < R.length) (at_ : Nat) (ha : at_ < 64) : ∃ k : Nat, k < 64 ∧ rnd (ofL (R.map (·.s))) (at_ : Int) = some (k : Int) ∧ 0 < (listR R (k : Int)).length := by
  have hm : ofL (R.map (·.s)) < 2 ^ 64 := ofL_lt _
  obtain ⟨x, hx⟩ := List.exists_mem_of_length_pos hR
  have hs := g.slot x hx
  obtain ⟨q, hq⟩ := Int.eq_ofNat_of_zero_le hs.1
  have hq64 : q < 64 := by omega
  have hbit : (ofL (R.map (·.s))).testBit q = true := by
    rw [ofL_bit _ _ hq64, decide_eq_true_eq]
    exact List.mem_map.2 ⟨x, hx, hq⟩
  have hex : ∃ s, s < 64 ∧ (ofL (R.map (·.s))).testBit ((at_ + s) % 64) = true := ⟨(q + 64 - at_) % 64, Nat.mod_lt _ (by omega), by rw [show (at_ + (q + 64 - at_) % 64) % 64 = q by omega]; exact hbit⟩
  obtain ⟨h1, h2, _⟩ := far_some hex
  refine ⟨(at_ + far (ofL (R.map (·.s))) at_) % 64, Nat.mod_lt _ (by omega), rnd_far ha hex, ?_⟩
  rw [ofL_bit _ _ (Nat.mod_lt _ (by omega)), decide_eq_true_eq] at h2
  obtain ⟨⟨s, d⟩, hy, e⟩ := List.mem_map.1 h2
  simp only at e
  subst e
  exact List.length_pos_of_mem ((mem_listR R _ d).2 hy)
end Go.Proofs.YtlihcljjpalapaaDoor
