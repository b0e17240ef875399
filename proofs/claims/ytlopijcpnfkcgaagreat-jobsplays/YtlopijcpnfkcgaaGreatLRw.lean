/- Rows of leases in memory; nothing of the program is named here. -/
import Derived.Test.YtlopijcpnfkcgaaGreatFt
import Derived.Test.YtlopijcpnfkcgaaGreatLLm
namespace Go.Proofs.YtlopijcpnfkcgaaGreat
namespace LE
open Go.RowKit

/-- leases, cell by cell. -/
def cg : List Gr → List Value
  | [] => []
  | d :: l => .int .i64 d.n :: .int .i64 d.j :: .int .u64 (d.u : Nat) :: cg l
theorem cg_len (l : List Gr) : (cg l).length = l.length * 3 := by
  induction l with
  | nil => rfl
  | cons d l ih => simp only [cg, List.length_cons, ih]; omega
theorem cg_app (l k : List Gr) : cg (l ++ k) = cg l ++ cg k := by
  induction l with
  | nil => rfl
  | cons d l ih => simp only [cg, List.cons_append, ih]
theorem cg_id (l : List Gr) (j : Nat) (h : j < l.length) : (cg l)[j * 3]? = some (.int .i64 l[j].n) := by
  induction l generalizing j with
  | nil => simp at h
  | cons d l ih =>
    cases j with
    | zero => rfl
    | succ j => rw [show (j + 1) * 3 = j * 3 + 1 + 1 + 1 by omega]; simp only [cg, List.getElem?_cons_succ, List.getElem_cons_succ]; exact ih j (by simpa using h)
theorem cg_cl (l : List Gr) (j : Nat) (h : j < l.length) : (cg l)[j * 3 + 1]? = some (.int .i64 l[j].j) := by
  induction l generalizing j with
  | nil => simp at h
  | cons d l ih =>
    cases j with
    | zero => rfl
    | succ j => rw [show (j + 1) * 3 + 1 = (j * 3 + 1) + 1 + 1 + 1 by omega]; simp only [cg, List.getElem?_cons_succ, List.getElem_cons_succ]; exact ih j (by simpa using h)
theorem cg_ca (l : List Gr) (j : Nat) (h : j < l.length) : (cg l)[j * 3 + 2]? = some (.int .u64 (l[j].u : Nat)) := by
  induction l generalizing j with
  | nil => simp at h
  | cons d l ih =>
    cases j with
    | zero => rfl
    | succ j => rw [show (j + 1) * 3 + 2 = (j * 3 + 2) + 1 + 1 + 1 by omega]; simp only [cg, List.getElem?_cons_succ, List.getElem_cons_succ]; exact ih j (by simpa using h)
theorem cg_take (l : List Gr) (k : Nat) : cg (l.take k) = (cg l).take (k * 3) := by
  induction l generalizing k with
  | nil => simp [cg]
  | cons d l ih =>
    cases k with
    | zero => simp [cg]
    | succ k => rw [show (k + 1) * 3 = k * 3 + 1 + 1 + 1 by omega]; simp only [cg, List.take_succ_cons, ih]
theorem cg_drop (l : List Gr) (k : Nat) : cg (l.drop k) = (cg l).drop (k * 3) := by
  induction l generalizing k with
  | nil => simp [cg]
  | cons d l ih =>
    cases k with
    | zero => simp [cg]
    | succ k => rw [show (k + 1) * 3 = k * 3 + 1 + 1 + 1 by omega]; simp only [cg, List.drop_succ_cons, ih]
theorem cg_one (l : List Gr) : ∀ u ∈ cg l, u.oneCell' = true := by
  induction l with
  | nil => intro u h; cases h
  | cons d l ih =>
    intro u h
    simp only [cg, List.mem_cons] at h
    rcases h with rfl | rfl | rfl | h
    · rfl
    · rfl
    · rfl
    · exact ih u h
/-- the three cells of element j. -/
theorem glies_at {w : World} {ao : Option Addr} {l : List Gr} (h : Lies w ao (cg l)) {j : Nat} (hj : j < l.length) :
    ∃ b off, ao = some ⟨b, off, none⟩ ∧ w.cell? ⟨b, off + j * 3, none⟩ = some (.int .i64 l[j].n) ∧ w.cell? ⟨b, off + j * 3 + 1, none⟩ = some (.int .i64 l[j].j) ∧ w.cell? ⟨b, off + j * 3 + 2, none⟩ = some (.int .u64 (l[j].u : Nat)) := by
  rcases h with h | ⟨b, off, e, _, hc⟩
  · have := cg_len l
    rw [h] at this
    simp at this
    omega
  · refine ⟨b, off, e, hc _ _ (cg_id l j hj), ?_, ?_⟩
    · have := hc _ _ (cg_cl l j hj)
      rwa [← Nat.add_assoc] at this
    · have := hc _ _ (cg_ca l j hj)
      rwa [← Nat.add_assoc] at this
theorem lies_take {w : World} {ao : Option Addr} {l : List Gr} (h : Lies w ao (cg l)) (k : Nat) : Lies w ao (cg (l.take k)) := by
  rcases h with h | ⟨b, off, e, hb, hc⟩
  · left; rw [cg_take, h]; simp
  · refine Or.inr ⟨b, off, e, hb, fun j u hj => hc j u ?_⟩
    rw [cg_take, List.getElem?_take] at hj
    split at hj
    · exact hj
    · cases hj
theorem lies_drop {w : World} {b off : Nat} {l : List Gr} (h : Lies w (some ⟨b, off, none⟩) (cg l)) (k : Nat) : Lies w (some ⟨b, off + k * 3, none⟩) (cg (l.drop k)) := by
  rcases h with h | ⟨b', off', e, hb, hc⟩
  · left; rw [cg_drop, h]; simp
  · injection e with e
    injection e with e1 e2
    subst e1 e2
    refine Or.inr ⟨b, off + k * 3, rfl, hb, fun j u hj => ?_⟩
    rw [cg_drop, List.getElem?_drop] at hj
    have := hc _ _ hj
    rwa [← Nat.add_assoc] at this
theorem cg_cases {l : List Gr} {j : Nat} {u : Value} (h : (cg l)[j]? = some u) : ∃ k, ∃ hk : k < l.length, (j = k * 3 ∧ u = .int .i64 l[k].n) ∨ (j = k * 3 + 1 ∧ u = .int .i64 l[k].j) ∨ (j = k * 3 + 2 ∧ u = .int .u64 (l[k].u : Nat)) := by
  have hj : j < (cg l).length := by
    rcases Nat.lt_or_ge j (cg l).length with g | g
    · exact g
    · rw [List.getElem?_eq_none g] at h; cases h
  rw [cg_len] at hj
  refine ⟨j / 3, by omega, ?_⟩
  rcases (by omega : j % 3 = 0 ∨ j % 3 = 1 ∨ j % 3 = 2) with e | e | e
  · left
    have h2 : j = j / 3 * 3 := by omega
    refine ⟨h2, ?_⟩
    have := cg_id l (j / 3) (by omega)
    rw [← h2, h] at this
    exact Option.some.inj this
  · right; left
    have h2 : j = j / 3 * 3 + 1 := by omega
    refine ⟨h2, ?_⟩
    have := cg_cl l (j / 3) (by omega)
    rw [← h2, h] at this
    exact Option.some.inj this
  · right; right
    have h2 : j = j / 3 * 3 + 2 := by omega
    refine ⟨h2, ?_⟩
    have := cg_ca l (j / 3) (by omega)
    rw [← h2, h] at this
    exact Option.some.inj this
theorem cg_cells (g : Gr) : cg [g] = [.int .i64 g.n, .int .i64 g.j, .int .u64 (g.u : Nat)] := rfl
end LE
end Go.Proofs.YtlopijcpnfkcgaaGreat
