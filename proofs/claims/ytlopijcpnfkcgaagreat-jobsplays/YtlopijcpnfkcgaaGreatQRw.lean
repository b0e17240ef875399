/- Rows of waiting jobs in memory; nothing of the program is named here. -/
import Derived.Test.YtlopijcpnfkcgaaGreatFt
import Derived.Test.YtlopijcpnfkcgaaGreatQMa
namespace Go.Proofs.YtlopijcpnfkcgaaGreat
namespace QQ
open Go.RowKit

/-- jobs, cell by cell. -/
def cw : List Wt → List Value
  | [] => []
  | d :: l => .int .i64 d.id :: .int .i64 d.cl :: .int .i64 d.ca :: cw l
theorem cw_len (l : List Wt) : (cw l).length = l.length * 3 := by
  induction l with
  | nil => rfl
  | cons d l ih => simp only [cw, List.length_cons, ih]; omega
theorem cw_app (l k : List Wt) : cw (l ++ k) = cw l ++ cw k := by
  induction l with
  | nil => rfl
  | cons d l ih => simp only [cw, List.cons_append, ih]
theorem cw_id (l : List Wt) (j : Nat) (h : j < l.length) : (cw l)[j * 3]? = some (.int .i64 l[j].id) := by
  induction l generalizing j with
  | nil => simp at h
  | cons d l ih =>
    cases j with
    | zero => rfl
    | succ j => rw [show (j + 1) * 3 = j * 3 + 1 + 1 + 1 by omega]; simp only [cw, List.getElem?_cons_succ, List.getElem_cons_succ]; exact ih j (by simpa using h)
theorem cw_cl (l : List Wt) (j : Nat) (h : j < l.length) : (cw l)[j * 3 + 1]? = some (.int .i64 l[j].cl) := by
  induction l generalizing j with
  | nil => simp at h
  | cons d l ih =>
    cases j with
    | zero => rfl
    | succ j => rw [show (j + 1) * 3 + 1 = (j * 3 + 1) + 1 + 1 + 1 by omega]; simp only [cw, List.getElem?_cons_succ, List.getElem_cons_succ]; exact ih j (by simpa using h)
theorem cw_ca (l : List Wt) (j : Nat) (h : j < l.length) : (cw l)[j * 3 + 2]? = some (.int .i64 l[j].ca) := by
  induction l generalizing j with
  | nil => simp at h
  | cons d l ih =>
    cases j with
    | zero => rfl
    | succ j => rw [show (j + 1) * 3 + 2 = (j * 3 + 2) + 1 + 1 + 1 by omega]; simp only [cw, List.getElem?_cons_succ, List.getElem_cons_succ]; exact ih j (by simpa using h)
theorem cw_take (l : List Wt) (k : Nat) : cw (l.take k) = (cw l).take (k * 3) := by
  induction l generalizing k with
  | nil => simp [cw]
  | cons d l ih =>
    cases k with
    | zero => simp [cw]
    | succ k => rw [show (k + 1) * 3 = k * 3 + 1 + 1 + 1 by omega]; simp only [cw, List.take_succ_cons, ih]
theorem cw_drop (l : List Wt) (k : Nat) : cw (l.drop k) = (cw l).drop (k * 3) := by
  induction l generalizing k with
  | nil => simp [cw]
  | cons d l ih =>
    cases k with
    | zero => simp [cw]
    | succ k => rw [show (k + 1) * 3 = k * 3 + 1 + 1 + 1 by omega]; simp only [cw, List.drop_succ_cons, ih]
theorem cw_one (l : List Wt) : ∀ u ∈ cw l, u.oneCell' = true := by
  induction l with
  | nil => intro u h; cases h
  | cons d l ih =>
    intro u h
    simp only [cw, List.mem_cons] at h
    rcases h with rfl | rfl | rfl | h
    · rfl
    · rfl
    · rfl
    · exact ih u h
/-- the three cells of element j. -/
theorem wlies_at {w : World} {ao : Option Addr} {l : List Wt} (h : Lies w ao (cw l)) {j : Nat} (hj : j < l.length) :
    ∃ b off, ao = some ⟨b, off, none⟩ ∧ w.cell? ⟨b, off + j * 3, none⟩ = some (.int .i64 l[j].id) ∧ w.cell? ⟨b, off + j * 3 + 1, none⟩ = some (.int .i64 l[j].cl) ∧ w.cell? ⟨b, off + j * 3 + 2, none⟩ = some (.int .i64 l[j].ca) := by
  rcases h with h | ⟨b, off, e, _, hc⟩
  · have := cw_len l
    rw [h] at this
    simp at this
    omega
  · refine ⟨b, off, e, hc _ _ (cw_id l j hj), ?_, ?_⟩
    · have := hc _ _ (cw_cl l j hj)
      rwa [← Nat.add_assoc] at this
    · have := hc _ _ (cw_ca l j hj)
      rwa [← Nat.add_assoc] at this
theorem lies_take {w : World} {ao : Option Addr} {l : List Wt} (h : Lies w ao (cw l)) (k : Nat) : Lies w ao (cw (l.take k)) := by
  rcases h with h | ⟨b, off, e, hb, hc⟩
  · left; rw [cw_take, h]; simp
  · refine Or.inr ⟨b, off, e, hb, fun j u hj => hc j u ?_⟩
    rw [cw_take, List.getElem?_take] at hj
    split at hj
    · exact hj
    · cases hj
theorem lies_drop {w : World} {b off : Nat} {l : List Wt} (h : Lies w (some ⟨b, off, none⟩) (cw l)) (k : Nat) : Lies w (some ⟨b, off + k * 3, none⟩) (cw (l.drop k)) := by
  rcases h with h | ⟨b', off', e, hb, hc⟩
  · left; rw [cw_drop, h]; simp
  · injection e with e
    injection e with e1 e2
    subst e1 e2
    refine Or.inr ⟨b, off + k * 3, rfl, hb, fun j u hj => ?_⟩
    rw [cw_drop, List.getElem?_drop] at hj
    have := hc _ _ hj
    rwa [← Nat.add_assoc] at this
/-! ### the scan, step by step -/
theorem scan_one (a : Int) (l : List Wt) : scan a l 1 = 0 := by simp [scan]
theorem scan_range (a : Int) (l : List Wt) {k : Nat} (h0 : 0 < k) (hk : k ≤ l.length) : ∃ j : Nat, scan a l k = j ∧ j < k := by
  rcases scan_spec a l k hk with ⟨h, _⟩ | ⟨j, e, hj, _⟩
  · omega
  · exact ⟨j, e, hj⟩
theorem scan_t {a : Int} {l : List Wt} {k j : Nat} (e : scan a l k = j) (hj : j < l.length) (hk : k < l.length) (h : les a l[k] l[j] = true) : scan a l (k + 1) = k := by
  have e0 : ¬ scan a l k < 0 := by omega
  have ej : (scan a l k).toNat = j := by omega
  simp only [scan, e0, if_false, ej, getD_at hk, getD_at hj, h, if_true]
theorem scan_f {a : Int} {l : List Wt} {k j : Nat} (e : scan a l k = j) (hj : j < l.length) (hk : k < l.length) (h : les a l[k] l[j] = false) : scan a l (k + 1) = j := by
  have e0 : ¬ scan a l k < 0 := by omega
  have ej : (scan a l k).toNat = j := by omega
  simp only [scan, e0, if_false, ej, getD_at hk, getD_at hj, h]
  exact e
end QQ
end Go.Proofs.YtlopijcpnfkcgaaGreat
