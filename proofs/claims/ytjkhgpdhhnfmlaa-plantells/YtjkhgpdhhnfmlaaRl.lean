/- Rows of timers in memory; nothing of the program is named here. -/
import Derived.Test.YtjkhgpdhhnfmlaaFt
import Derived.Test.YtjkhgpdhhnfmlaaRg
namespace Go.Proofs.Ytjkhgpdhhnfmlaa
open Go.RowKit
open RG (Du)

/-- timers, cell by cell. -/
def cd : List Du → List Value
  | [] => []
  | d :: l => .int .i64 d.id :: .int .u64 (d.t : Nat) :: cd l
theorem cd_len (l : List Du) : (cd l).length = l.length * 2 := by
  induction l with
  | nil => rfl
  | cons d l ih => simp only [cd, List.length_cons, ih]; omega
theorem cd_app (l k : List Du) : cd (l ++ k) = cd l ++ cd k := by
  induction l with
  | nil => rfl
  | cons d l ih => simp only [cd, List.cons_append, ih]
theorem cd_id (l : List Du) (j : Nat) (h : j < l.length) : (cd l)[j * 2]? = some (.int .i64 l[j].id) := by
  induction l generalizing j with
  | nil => simp at h
  | cons d l ih =>
    cases j with
    | zero => rfl
    | succ j => rw [show (j + 1) * 2 = j * 2 + 1 + 1 by omega]; simp only [cd, List.getElem?_cons_succ, List.getElem_cons_succ]; exact ih j (by simpa using h)
theorem cd_t (l : List Du) (j : Nat) (h : j < l.length) : (cd l)[j * 2 + 1]? = some (.int .u64 (l[j].t : Nat)) := by
  induction l generalizing j with
  | nil => simp at h
  | cons d l ih =>
    cases j with
    | zero => rfl
    | succ j => rw [show (j + 1) * 2 + 1 = (j * 2 + 1) + 1 + 1 by omega]; simp only [cd, List.getElem?_cons_succ, List.getElem_cons_succ]; exact ih j (by simpa using h)
theorem cd_take (l : List Du) (k : Nat) : cd (l.take k) = (cd l).take (k * 2) := by
  induction l generalizing k with
  | nil => simp [cd]
  | cons d l ih =>
    cases k with
    | zero => simp [cd]
    | succ k => rw [show (k + 1) * 2 = k * 2 + 1 + 1 by omega]; simp only [cd, List.take_succ_cons, ih]
theorem cd_drop (l : List Du) (k : Nat) : cd (l.drop k) = (cd l).drop (k * 2) := by
  induction l generalizing k with
  | nil => simp [cd]
  | cons d l ih =>
    cases k with
    | zero => simp [cd]
    | succ k => rw [show (k + 1) * 2 = k * 2 + 1 + 1 by omega]; simp only [cd, List.drop_succ_cons, ih]
theorem cd_one (l : List Du) : ∀ u ∈ cd l, u.oneCell' = true := by
  induction l with
  | nil => intro u h; cases h
  | cons d l ih =>
    intro u h
    simp only [cd, List.mem_cons] at h
    rcases h with rfl | rfl | h
    · rfl
    · rfl
    · exact ih u h

/-- a slice that reads as timers. -/
def RowD (w : World) (v : Value) (l : List Du) : Prop := ∃ ao cap, v = .slice ao l.length cap ∧ Lies w ao (cd l)
theorem RowD.later {w x : World} {v : Value} {l : List Du} (h : RowD w v l) (g : Grw w x) : RowD x v l :=
  let ⟨ao, cap, e, r⟩ := h; ⟨ao, cap, e, r.later g⟩
theorem RowD.frm {F : Nat → Prop} {w x : World} {v : Value} {l : List Du} (h : RowD w v l) (g : Frm F w x) (hn : ∀ k, v.ownBlock = some k → ¬ F k) : RowD x v l := by
  obtain ⟨ao, cap, rfl, r⟩ := h
  refine ⟨ao, cap, rfl, r.frm g fun a e => ?_⟩
  subst e
  exact hn _ rfl
/-- the two cells of element j. -/
theorem lies_at {w : World} {ao : Option Addr} {l : List Du} (h : Lies w ao (cd l)) {j : Nat} (hj : j < l.length) :
    ∃ b off, ao = some ⟨b, off, none⟩ ∧ w.cell? ⟨b, off + j * 2, none⟩ = some (.int .i64 l[j].id) ∧ w.cell? ⟨b, off + j * 2 + 1, none⟩ = some (.int .u64 (l[j].t : Nat)) := by
  rcases h with h | ⟨b, off, e, _, hc⟩
  · have := cd_len l
    rw [h] at this
    simp at this
    omega
  · refine ⟨b, off, e, hc _ _ (cd_id l j hj), ?_⟩
    have := hc _ _ (cd_t l j hj)
    rwa [← Nat.add_assoc] at this

end Go.Proofs.Ytjkhgpdhhnfmlaa
