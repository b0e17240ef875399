/- One slot of a ring in memory is given another row; nothing of the program is named here but the numbers of two types. -/
import Derived.Test.YtjkhgpdhhnfmlaaDoorRl
namespace Go.Proofs.YtjkhgpdhhnfmlaaDoor
open Go.RowKit
open RG (Du)

def upd (L : Nat → List Du) (s : Nat) (l : List Du) : Nat → List Du := fun k => if k = s then l else L k
theorem upd_same (L : Nat → List Du) (s : Nat) (l : List Du) : upd L s l s = l := if_pos rfl
theorem upd_other (L : Nat → List Du) (s : Nat) (l : List Du) {k : Nat} (h : k ≠ s) : upd L s l k = L k := if_neg h
theorem set_at {A : Array Value} {s k : Nat} {v u : Value} (h : (A.setIfInBounds s v)[k]? = some u) : (k = s ∧ u = v) ∨ (k ≠ s ∧ A[k]? = some u) := by
  rw [Array.getElem?_setIfInBounds] at h
  by_cases e : k = s
  · subst e
    rw [if_pos rfl] at h
    split at h
    · left; exact ⟨rfl, (Option.some.inj h).symm⟩
    · cases h
  · rw [if_neg (fun q => e q.symm)] at h
    exact Or.inr ⟨e, h⟩
theorem ring_set {w x : World} {b : Nat} {A : Array Value} {L : Nat → List Du} (h : RingL w b A L) {s : Nat} {v v' : Value} {l : List Du} (hv : A[s]? = some v)
    (g : Frm (fun k => v.ownBlock = some k) w x) (ho : x.ownsRow 0 42 2 v' l.length (cd l)) (hb : v'.ownBlock = v.ownBlock ∨ v'.ownBlock = none ∨ ∃ q, v'.ownBlock = some q ∧ w.heap.size ≤ q) :
    RingL (x.setCell ⟨b, s, none⟩ v') b (A.setIfInBounds s v') (upd L s l) ∧ Frm (foot b A) w (x.setCell ⟨b, s, none⟩ v') ∧ (∀ q, foot b (A.setIfInBounds s v') q → foot b A q ∨ w.heap.size ≤ q) := by
  have hbx : x.heap[b]? = some (.cells A 98 (0, 0)) := by rw [g.block b h.lt (h.ne s v hv)]; exact h.blk
  have hnb : v'.ownBlock ≠ some b := by
    rcases hb with e | e | ⟨q, e, hq⟩
    · rw [e]; exact h.ne s v hv
    · rw [e]; intro c; cases c
    · rw [e]
      intro c
      injection c with c
      have := h.lt
      omega
  have hset : Frm (fun k => k = b) x (x.setCell ⟨b, s, none⟩ v') := frm_set x ⟨b, s, none⟩ v' rfl
  refine ⟨⟨?_, by simpa using h.size, fun k u hu => ?_, fun k u hu => ?_, fun j k u y q hu hy eu ey => ?_⟩, ?_, fun q hq => ?_⟩
  · simp [World.setCell, Array.getElem?_modify, hbx]
  · rcases set_at hu with ⟨rfl, rfl⟩ | ⟨hk, hu'⟩
    · rw [upd_same]
      exact ownsRow_frm ho hset (fun q e c => hnb (by rw [e, c]))
    · rw [upd_other L s l hk]
      refine ownsRow_frm (ownsRow_frm (h.own k u hu') g (fun q e c => hk (h.apart k s u v q hu' hv e c))) hset (fun q e c => h.ne k u hu' (by rw [e, c]))
  · rcases set_at hu with ⟨rfl, rfl⟩ | ⟨_, hu'⟩
    · exact hnb
    · exact h.ne k u hu'
  · have old : ∀ {k : Nat} {u : Value} {q : Nat}, A[k]? = some u → u.ownBlock = some q → k ≠ s → v'.ownBlock ≠ some q := by
      intro k u q hu eu hk c
      rcases hb with e | e | ⟨q', e, hq'⟩
      · exact hk (h.apart k s u v q hu hv eu (by rw [← e]; exact c))
      · rw [e] at c; cases c
      · rw [e] at c
        injection c with c
        have := ((h.own k u hu).lt q eu).2
        omega
    rcases set_at hu with ⟨rfl, rfl⟩ | ⟨hj, hu'⟩
    · rcases set_at hy with ⟨rfl, rfl⟩ | ⟨hk, hy'⟩
      · rfl
      · exact absurd eu (old hy' ey hk)
    · rcases set_at hy with ⟨rfl, rfl⟩ | ⟨hk, hy'⟩
      · exact absurd ey (old hu' eu hj)
      · exact h.apart j k u y q hu' hy' eu ey
  · exact (g.mono (fun k e => Or.inr ⟨s, v, hv, e⟩)).trans hset (fun k e => Or.inl (Or.inl e))
  · rcases hq with rfl | ⟨k, u, hu, eu⟩
    · exact Or.inl (Or.inl rfl)
    · rcases set_at hu with ⟨rfl, rfl⟩ | ⟨_, hu'⟩
      · rcases hb with e | e | ⟨q', e, hq'⟩
        · exact Or.inl (Or.inr ⟨k, v, hv, by rw [← e]; exact eu⟩)
        · rw [e] at eu; cases eu
        · rw [e] at eu
          injection eu with eu
          right; omega
      · exact Or.inl (Or.inr ⟨k, u, hu', eu⟩)
/-- what a call that writes a ring tells: the ring behind it; what is left alone; where it may write from then on. -/
def RingQ (b : Nat) (A : Array Value) (w : World) (M : Nat → List Du) (w' : World) : Prop :=
  ∃ A', RingL w' b A' M ∧ Frm (foot b A) w w' ∧ ∀ q, foot b A' q → foot b A q ∨ w.heap.size ≤ q
theorem ringQ_same {b : Nat} {A : Array Value} {w w' : World} {L : Nat → List Du} (h : RingL w b A L) (g : Grw w w') : RingQ b A w L w' :=
  ⟨A, h.later g, g.frm _, fun _ e => Or.inl e⟩
theorem ringQ_set {w u x : World} {b : Nat} {A : Array Value} {L : Nat → List Du} (h : RingL w b A L) (gu : Grw w u) {s : Nat} {v v' : Value} {l : List Du} (hv : A[s]? = some v)
    (g : Frm (fun k => v.ownBlock = some k) u x) (ho : x.ownsRow 0 42 2 v' l.length (cd l)) (hb : v'.ownBlock = v.ownBlock ∨ v'.ownBlock = none ∨ ∃ q, v'.ownBlock = some q ∧ w.heap.size ≤ q) : RingQ b A w (upd L s l) (x.setCell ⟨b, s, none⟩ v') :=
  ⟨_, ring_set h hv ((gu.frm _).trans g (fun _ e => Or.inl e)) ho hb⟩
theorem ringQ_congr {b : Nat} {A : Array Value} {w w' : World} {L M : Nat → List Du} (h : RingQ b A w L w') (e : ∀ k, k < 64 → L k = M k) : RingQ b A w M w' :=
  let ⟨A', h1, h2⟩ := h; ⟨A', h1.congr e, h2⟩
end Go.Proofs.YtjkhgpdhhnfmlaaDoor
