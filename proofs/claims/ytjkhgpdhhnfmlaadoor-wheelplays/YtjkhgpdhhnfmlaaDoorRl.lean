/- A ring in memory: a block of 64 slices, each slice a row of its own; nothing of the program is named here but the numbers of two types. -/
import Derived.Test.YtjkhgpdhhnfmlaaDoorFt
import Derived.Test.YtjkhgpdhhnfmlaaDoorRg
namespace Go.Proofs.YtjkhgpdhhnfmlaaDoor
open Go.RowKit
open RG (Du)

/-- timers, cell by cell. -/
def cd : List Du → List Value
  | [] => []
  | d :: l => .int .i64 d.id :: .int .u64 (d.t : Nat) :: cd l
theorem cd_len (l : List Du) : (cd l).length = l.length * 2 := by
  induction l with
  | nil => rfl
  | cons d l ih => simp only [cd, List.length_cons, ih]; omega
theorem cd_app (l k : List Du) : cd (l ++ k) = cd l ++ cd k := by
  induction l with
  | nil => rfl
  | cons d l ih => simp only [cd, List.cons_append, ih]
theorem cd_id (l : List Du) (j : Nat) (h : j < l.length) : (cd l)[j * 2]? = some (.int .i64 l[j].id) := by
  induction l generalizing j with
  | nil => simp at h
  | cons d l ih =>
    cases j with
    | zero => rfl
    | succ j => rw [show (j + 1) * 2 = j * 2 + 1 + 1 by omega]; simp only [cd, List.getElem?_cons_succ, List.getElem_cons_succ]; exact ih j (by simpa using h)
theorem cd_t (l : List Du) (j : Nat) (h : j < l.length) : (cd l)[j * 2 + 1]? = some (.int .u64 (l[j].t : Nat)) := by
  induction l generalizing j with
  | nil => simp at h
  | cons d l ih =>
    cases j with
    | zero => rfl
    | succ j => rw [show (j + 1) * 2 + 1 = (j * 2 + 1) + 1 + 1 by omega]; simp only [cd, List.getElem?_cons_succ, List.getElem_cons_succ]; exact ih j (by simpa using h)
theorem cd_take (l : List Du) (k : Nat) : cd (l.take k) = (cd l).take (k * 2) := by
  induction l generalizing k with
  | nil => simp [cd]
  | cons d l ih =>
    cases k with
    | zero => simp [cd]
    | succ k => rw [show (k + 1) * 2 = k * 2 + 1 + 1 by omega]; simp only [cd, List.take_succ_cons, ih]
theorem cd_drop (l : List Du) (k : Nat) : cd (l.drop k) = (cd l).drop (k * 2) := by
  induction l generalizing k with
  | nil => simp [cd]
  | cons d l ih =>
    cases k with
    | zero => simp [cd]
    | succ k => rw [show (k + 1) * 2 = k * 2 + 1 + 1 by omega]; simp only [cd, List.drop_succ_cons, ih]
theorem cd_one (l : List Du) : ∀ u ∈ cd l, u.oneCell' = true := by
  induction l with
  | nil => intro u h; cases h
  | cons d l ih =>
    intro u h
    simp only [cd, List.mem_cons] at h
    rcases h with rfl | rfl | h
    · rfl
    · rfl
    · exact ih u h

/-- a slice that reads as timers. -/
def RowD (w : World) (v : Value) (l : List Du) : Prop := ∃ ao cap, v = .slice ao l.length cap ∧ Lies w ao (cd l)
theorem RowD.later {w x : World} {v : Value} {l : List Du} (h : RowD w v l) (g : Grw w x) : RowD x v l :=
  let ⟨ao, cap, e, r⟩ := h; ⟨ao, cap, e, r.later g⟩
theorem RowD.frm {F : Nat → Prop} {w x : World} {v : Value} {l : List Du} (h : RowD w v l) (g : Frm F w x) (hn : ∀ k, v.ownBlock = some k → ¬ F k) : RowD x v l := by
  obtain ⟨ao, cap, rfl, r⟩ := h
  refine ⟨ao, cap, rfl, r.frm g fun a e => ?_⟩
  subst e
  exact hn _ rfl
/-- the two cells of element j. -/
theorem lies_at {w : World} {ao : Option Addr} {l : List Du} (h : Lies w ao (cd l)) {j : Nat} (hj : j < l.length) :
    ∃ b off, ao = some ⟨b, off, none⟩ ∧ w.cell? ⟨b, off + j * 2, none⟩ = some (.int .i64 l[j].id) ∧ w.cell? ⟨b, off + j * 2 + 1, none⟩ = some (.int .u64 (l[j].t : Nat)) := by
  rcases h with h | ⟨b, off, e, _, hc⟩
  · have := cd_len l
    rw [h] at this
    simp at this
    omega
  · refine ⟨b, off, e, hc _ _ (cd_id l j hj), ?_⟩
    have := hc _ _ (cd_t l j hj)
    rwa [← Nat.add_assoc] at this

/-- the blocks that a ring writes. -/
def foot (b : Nat) (A : Array Value) (g : Nat) : Prop := g = b ∨ ∃ (k : Nat) (v : Value), A[k]? = some v ∧ v.ownBlock = some g
/-- block b holds 64 slices, A; slice k is a row of its own that reads L k. -/
structure RingL (w : World) (b : Nat) (A : Array Value) (L : Nat → List Du) : Prop where
  blk : w.heap[b]? = some (.cells A 98 (0, 0))
  size : A.size = 64
  own : ∀ (k : Nat) (v : Value), A[k]? = some v → w.ownsRow 0 42 2 v (L k).length (cd (L k))
  ne : ∀ (k : Nat) (v : Value), A[k]? = some v → v.ownBlock ≠ some b
  apart : ∀ (j k : Nat) (u v : Value) (g : Nat), A[j]? = some u → A[k]? = some v → u.ownBlock = some g → v.ownBlock = some g → j = k
theorem RingL.lt {w : World} {b : Nat} {A : Array Value} {L : Nat → List Du} (h : RingL w b A L) : b < w.heap.size := (Array.getElem?_eq_some_iff.1 h.blk).1
theorem RingL.foot_lt {w : World} {b : Nat} {A : Array Value} {L : Nat → List Du} (h : RingL w b A L) {g : Nat} (hg : foot b A g) : g < w.heap.size := by
  rcases hg with rfl | ⟨k, v, hk, hv⟩
  · exact h.lt
  · exact ((h.own k v hk).lt g hv).2
theorem RingL.at {w : World} {b : Nat} {A : Array Value} {L : Nat → List Du} (h : RingL w b A L) {k : Nat} (hk : k < 64) : ∃ v, A[k]? = some v :=
  ⟨A[k]'(by rw [h.size]; exact hk), Array.getElem?_eq_getElem (by rw [h.size]; exact hk)⟩
theorem RingL.row {w : World} {b : Nat} {A : Array Value} {L : Nat → List Du} (h : RingL w b A L) {k : Nat} (hk : k < 64) : ∃ ao cap, A[k]? = some (.slice ao (L k).length cap) ∧ Lies w ao (cd (L k)) := by
  obtain ⟨v, hv⟩ := h.at hk
  obtain ⟨ao, cap, rfl, r⟩ := ownsRow_lies (h.own k v hv)
  exact ⟨ao, cap, hv, r⟩
theorem RingL.frm {F : Nat → Prop} {w x : World} {b : Nat} {A : Array Value} {L : Nat → List Du} (h : RingL w b A L) (g : Frm F w x) (hn : ∀ k, foot b A k → ¬ F k) : RingL x b A L :=
  ⟨by rw [g.block b h.lt (hn b (Or.inl rfl))]; exact h.blk, h.size, fun k v hv => ownsRow_frm (h.own k v hv) g (fun q hq => hn q (Or.inr ⟨k, v, hv, hq⟩)), h.ne, h.apart⟩
theorem RingL.later {w x : World} {b : Nat} {A : Array Value} {L : Nat → List Du} (h : RingL w b A L) (g : Grw w x) : RingL x b A L :=
  h.frm (g.frm (fun _ => False)) (fun _ _ e => e)
theorem RingL.congr {w : World} {b : Nat} {A : Array Value} {L M : Nat → List Du} (h : RingL w b A L) (e : ∀ k, k < 64 → L k = M k) : RingL w b A M :=
  ⟨h.blk, h.size, fun k v hv => by
    have hk : k < 64 := by have := (Array.getElem?_eq_some_iff.1 hv).1; rw [h.size] at this; exact this
    rw [← e k hk]; exact h.own k v hv, h.ne, h.apart⟩
theorem RingL.cells {w : World} {b : Nat} {A : Array Value} {L : Nat → List Du} (h : RingL w b A L) (k : Nat) (v : Value) (hv : A[k]? = some v) : w.cell? ⟨b, k, none⟩ = some v := by
  simp [World.cell?, h.blk, hv]
theorem RingL.free {w : World} {b : Nat} {A : Array Value} {L : Nat → List Du} (h : RingL w b A L) (k : Nat) : w.frozen? ⟨b, k, none⟩ = false := by
  simp [World.frozen?, h.blk]
/-- how many, and the set of the slots that are not empty, of the first k. -/
def tot (L : Nat → List Du) : Nat → Nat
  | 0 => 0
  | k + 1 => tot L k + (L k).length
theorem tot_mono (L : Nat → List Du) {j k : Nat} (h : j ≤ k) : tot L j ≤ tot L k := by
  induction h with
  | refl => exact Nat.le_refl _
  | step _ ih => exact Nat.le_trans ih (Nat.le_add_right _ _)
end Go.Proofs.YtjkhgpdhhnfmlaaDoor
