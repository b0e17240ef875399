/- A wheel in memory: its block, its map, its six rings, the row of those beyond; each in blocks of its own. -/
import Derived.Test.YtjkhgpdhhnfmlaaDoorTa
import Derived.Test.YtjkhgpdhhnfmlaaDoorVm
import Derived.Maps.OwnSet
namespace Go.Proofs.YtjkhgpdhhnfmlaaDoor
open Go.RowKit
open RG (Du La listR putB putR dropR dropO takeR hasId)

/-- where a wheel lies. -/
structure Sh where
  p : Nat
  mb : Nat
  rb : Nat → Nat
  A : Nat → Array Value
  bv : Value
/-- the blocks of its parts. -/
def part (S : Sh) : Nat → Nat → Prop
  | 0, g => g = S.p
  | 1, g => g = S.mb
  | 2, g => S.bv.ownBlock = some g
  | k + 3, g => k < 6 ∧ foot (S.rb k) (S.A k) g
def wfoot (S : Sh) (g : Nat) : Prop := ∃ i, part S i g
def ptrTo (b : Nat) : Value := .pointer (some ⟨b, 0, none⟩)
def wcells (S : Sh) (now : Nat) : Array Value := #[.int .u64 (now : Nat), .map (some S.mb), .pointer (some ⟨S.rb 0, 0, none⟩), .pointer (some ⟨S.rb 1, 0, none⟩), .pointer (some ⟨S.rb 2, 0, none⟩), .pointer (some ⟨S.rb 3, 0, none⟩), .pointer (some ⟨S.rb 4, 0, none⟩), .pointer (some ⟨S.rb 5, 0, none⟩), S.bv]
/-- a wheel: its time, its map, what lies in its rings and beyond. -/
structure WG (w : World) (S : Sh) (now : Nat) (D : DataW Unit) (R : Nat → List La) (B : List Du) : Prop where
  blk : w.heap[S.p]? = some (.cells (wcells S now) 74 (0, 0))
  mp : w.ownsMap Tryd.prog 3 (plainElem Tryd.prog 22) S.mb (Maps.size D) D
  ring : ∀ k, k < 6 → RingR w (S.rb k) (S.A k) (R k)
  own : w.ownsRow 0 42 2 S.bv B.length (cd B)
  apart : ∀ i j g, part S i g → part S j g → i = j
theorem ownsMap_tight {w : World} {b n : Nat} {D : DataW Unit} (h : w.ownsMap Tryd.prog 3 (plainElem Tryd.prog 22) b n D) : w.ownsMap Tryd.prog 3 (plainElem Tryd.prog 22) b (Maps.size D) D := by
  obtain ⟨es, clock, hb, F, _, rfl⟩ := h
  refine ⟨es, clock, hb, F, ?_, rfl⟩
  rw [Maps.size, length_read]; exact Nat.le_refl _
theorem ownsMap_block {w x : World} {b n : Nat} {D : DataW Unit} (h : w.ownsMap Tryd.prog 3 (plainElem Tryd.prog 22) b n D) (e : x.heap[b]? = w.heap[b]?) : x.ownsMap Tryd.prog 3 (plainElem Tryd.prog 22) b n D := by
  obtain ⟨es, clock, hb, r⟩ := h
  exact ⟨es, clock, by rw [e]; exact hb, r⟩
theorem ownsMap_lt {w : World} {b n : Nat} {D : DataW Unit} (h : w.ownsMap Tryd.prog 3 (plainElem Tryd.prog 22) b n D) : b < w.heap.size := by
  obtain ⟨es, clock, hb, _⟩ := h
  exact (Array.getElem?_eq_some_iff.1 hb).1
theorem WG.part_lt {w : World} {S : Sh} {now : Nat} {D : DataW Unit} {R : Nat → List La} {B : List Du} (h : WG w S now D R B) {i g : Nat} (hg : part S i g) : g < w.heap.size := by
  rcases i with _ | _ | _ | k
  · have : g = S.p := hg
    subst this
    exact (Array.getElem?_eq_some_iff.1 h.blk).1
  · have : g = S.mb := hg
    subst this
    exact ownsMap_lt h.mp
  · exact (h.own.lt g hg).2
  · exact (h.ring k hg.1).ring.foot_lt hg.2
theorem WG.lt {w : World} {S : Sh} {now : Nat} {D : DataW Unit} {R : Nat → List La} {B : List Du} (h : WG w S now D R B) {g : Nat} (hg : wfoot S g) : g < w.heap.size := let ⟨_, hi⟩ := hg; h.part_lt hi
theorem WG.frm {F : Nat → Prop} {w x : World} {S : Sh} {now : Nat} {D : DataW Unit} {R : Nat → List La} {B : List Du} (h : WG w S now D R B) (g : Frm F w x) (hn : ∀ k, wfoot S k → ¬ F k) : WG x S now D R B :=
  ⟨by rw [g.block S.p (h.part_lt (i := 0) rfl) (hn _ ⟨0, rfl⟩)]; exact h.blk,
   ownsMap_block h.mp (g.block S.mb (h.part_lt (i := 1) rfl) (hn _ ⟨1, rfl⟩)),
   fun k hk => (h.ring k hk).frm g (fun q hq => hn q ⟨k + 3, hk, hq⟩),
   ownsRow_frm h.own g (fun q hq => hn q ⟨2, hq⟩), h.apart⟩
theorem WG.later {w x : World} {S : Sh} {now : Nat} {D : DataW Unit} {R : Nat → List La} {B : List Du} (h : WG w S now D R B) (g : Grw w x) : WG x S now D R B :=
  h.frm (g.frm (fun _ => False)) (fun _ _ e => e)
/-- the cells of a wheel's block. -/
structure WC (w : World) (p now mb : Nat) (r0 r1 r2 r3 r4 r5 : Nat) (bv : Value) : Prop where
  c0 : w.cell? ⟨p, 0, none⟩ = some (.int .u64 (now : Nat))
  c1 : w.cell? ⟨p, 1, none⟩ = some (.map (some mb))
  c2 : w.cell? ⟨p, 2, none⟩ = some (.pointer (some ⟨r0, 0, none⟩))
  c3 : w.cell? ⟨p, 3, none⟩ = some (.pointer (some ⟨r1, 0, none⟩))
  c4 : w.cell? ⟨p, 4, none⟩ = some (.pointer (some ⟨r2, 0, none⟩))
  c5 : w.cell? ⟨p, 5, none⟩ = some (.pointer (some ⟨r3, 0, none⟩))
  c6 : w.cell? ⟨p, 6, none⟩ = some (.pointer (some ⟨r4, 0, none⟩))
  c7 : w.cell? ⟨p, 7, none⟩ = some (.pointer (some ⟨r5, 0, none⟩))
  c8 : w.cell? ⟨p, 8, none⟩ = some bv
  f : ∀ k, w.frozen? ⟨p, k, none⟩ = false
theorem WG.cells {w : World} {S : Sh} {now : Nat} {D : DataW Unit} {R : Nat → List La} {B : List Du} (h : WG w S now D R B) : WC w S.p now S.mb (S.rb 0) (S.rb 1) (S.rb 2) (S.rb 3) (S.rb 4) (S.rb 5) S.bv := by
  have hb := h.blk
  unfold wcells at hb
  constructor <;> (try intro k) <;> simp [World.cell?, World.frozen?, hb]
theorem WG.ptr {w : World} {S : Sh} {now : Nat} {D : DataW Unit} {R : Nat → List La} {B : List Du} (h : WG w S now D R B) {k : Nat} (hk : k < 6) : w.cell? ⟨S.p, 2 + k, none⟩ = some (.pointer (some ⟨S.rb k, 0, none⟩)) := by
  have c := h.cells
  rcases (by omega : k = 0 ∨ k = 1 ∨ k = 2 ∨ k = 3 ∨ k = 4 ∨ k = 5) with rfl | rfl | rfl | rfl | rfl | rfl
  · exact c.c2
  · exact c.c3
  · exact c.c4
  · exact c.c5
  · exact c.c6
  · exact c.c7
/-- behind a call that writes the wheel. -/
def WQ (S : Sh) (w : World) (now : Nat) (D : DataW Unit) (R : Nat → List La) (B : List Du) (w' : World) : Prop :=
  ∃ S', S'.p = S.p ∧ WG w' S' now D R B ∧ Frm (wfoot S) w w' ∧ ∀ q, wfoot S' q → wfoot S q ∨ w.heap.size ≤ q
theorem apart_step {w : World} {S S' : Sh} {now : Nat} {D : DataW Unit} {R : Nat → List La} {B : List Du} (h : WG w S now D R B) (i : Nat) (hs : ∀ j, j ≠ i → ∀ g, part S' j g → part S j g) (hi : ∀ g, part S' i g → part S i g ∨ w.heap.size ≤ g) : ∀ a b g, part S' a g → part S' b g → a = b := by
  intro a b g ha hb
  by_cases ea : a = i
  · by_cases eb : b = i
    · rw [ea, eb]
    · subst ea
      have h1 := hs b eb g hb
      rcases hi g ha with h2 | h2
      · exact h.apart _ _ g h2 h1
      · have := h.part_lt h1; omega
  · by_cases eb : b = i
    · subst eb
      have h1 := hs a ea g ha
      rcases hi g hb with h2 | h2
      · exact h.apart _ _ g h1 h2
      · have := h.part_lt h1; omega
    · exact h.apart _ _ g (hs a ea g ha) (hs b eb g hb)
theorem foot_step {w : World} {S S' : Sh} (i : Nat) (hs : ∀ j, j ≠ i → ∀ g, part S' j g → part S j g) (hi : ∀ g, part S' i g → part S i g ∨ w.heap.size ≤ g) : ∀ q, wfoot S' q → wfoot S q ∨ w.heap.size ≤ q := by
  rintro q ⟨j, hj⟩
  by_cases e : j = i
  · subst e
    exact (hi q hj).imp (fun h => ⟨_, h⟩) id
  · exact Or.inl ⟨j, hs j e q hj⟩
def updN {α : Type} (f : Nat → α) (k : Nat) (x : α) : Nat → α := fun j => if j = k then x else f j
theorem updN_same {α : Type} (f : Nat → α) (k : Nat) (x : α) : updN f k x k = x := if_pos rfl
theorem updN_other {α : Type} (f : Nat → α) {k j : Nat} (x : α) (h : j ≠ k) : updN f k x j = f j := if_neg h
theorem part_eq {S : Sh} {i j g : Nat} (h : part S i g) (e : i = j) : part S j g := e ▸ h
/-- a ring is written. -/
theorem WG.ringStep {w w' : World} {S : Sh} {now : Nat} {D : DataW Unit} {R : Nat → List La} {B : List Du} (h : WG w S now D R B) {k : Nat} (hk : k < 6) {R' : List La} (q : RQ (S.rb k) (S.A k) w R' w') : WQ S w now D (updN R k R') B w' := by
  obtain ⟨A', hr, hf, ht⟩ := q
  have hs : ∀ j, j ≠ k + 3 → ∀ g, part { S with A := updN S.A k A' } j g → part S j g := by
    intro j hj g hg
    rcases j with _ | _ | _ | m
    · exact hg
    · exact hg
    · exact hg
    · refine ⟨hg.1, ?_⟩
      have := hg.2
      simp only at this
      rwa [updN_other _ _ (by omega)] at this
  have hi : ∀ g, part { S with A := updN S.A k A' } (k + 3) g → part S (k + 3) g ∨ w.heap.size ≤ g := by
    intro g hg
    have := hg.2
    simp only at this
    rw [updN_same] at this
    exact (ht g this).imp (fun e => ⟨hk, e⟩) id
  have hnot : ∀ {i g : Nat}, part S i g → i ≠ k + 3 → ¬ foot (S.rb k) (S.A k) g := fun hp hne hq => hne (h.apart _ _ _ hp (⟨hk, hq⟩ : part S (k + 3) _))
  refine ⟨{ S with A := updN S.A k A' }, rfl, ⟨?_, ?_, ?_, ?_, apart_step h (k + 3) hs hi⟩, hf.mono (fun g hg => ⟨k + 3, hk, hg⟩), foot_step (k + 3) hs hi⟩
  · show w'.heap[S.p]? = _
    rw [hf.block S.p (h.part_lt (i := 0) rfl) (hnot (i := 0) rfl (by omega))]
    exact h.blk
  · exact ownsMap_block h.mp (hf.block S.mb (h.part_lt (i := 1) rfl) (hnot (i := 1) rfl (by omega)))
  · intro j hj
    by_cases e : j = k
    · subst e
      simp only [updN_same]
      exact hr
    · simp only [updN_other _ _ e]
      exact (h.ring j hj).frm hf (fun g hg => hnot (i := j + 3) ⟨hj, hg⟩ (by omega))
  · exact ownsRow_frm h.own hf (fun g hg => hnot (i := 2) hg (by omega))
/-- the row of those beyond is written. -/
theorem WG.beyondSh {w u x : World} {S : Sh} {now : Nat} {D : DataW Unit} {R : Nat → List La} {B B' : List Du} (h : WG w S now D R B) (gu : Grw w u) {v' : Value} (g : Frm (fun k => S.bv.ownBlock = some k) u x) (ho : x.ownsRow 0 42 2 v' B'.length (cd B'))
    (hb : v'.ownBlock = S.bv.ownBlock ∨ v'.ownBlock = none ∨ ∃ q, v'.ownBlock = some q ∧ w.heap.size ≤ q) : WG (x.setCell ⟨S.p, 8, none⟩ v') { S with bv := v' } now D R B' ∧ Frm (wfoot S) w (x.setCell ⟨S.p, 8, none⟩ v') ∧ ∀ q, wfoot { S with bv := v' } q → wfoot S q ∨ w.heap.size ≤ q := by
  have g' : Frm (fun k => S.bv.ownBlock = some k) w x := (gu.frm _).trans g (fun _ e => Or.inl e)
  have hp : S.bv.ownBlock ≠ some S.p := fun c => by have := h.apart 2 0 S.p c rfl; omega
  have hx : x.heap[S.p]? = some (.cells (wcells S now) 74 (0, 0)) := by rw [g'.block S.p (h.part_lt (i := 0) rfl) hp]; exact h.blk
  have hset : Frm (fun k => k = S.p) x (x.setCell ⟨S.p, 8, none⟩ v') := frm_set x ⟨S.p, 8, none⟩ v' rfl
  have hall : Frm (wfoot S) w (x.setCell ⟨S.p, 8, none⟩ v') := (g'.mono (fun k e => ⟨2, e⟩)).trans hset (fun k e => Or.inl ⟨0, e⟩)
  have hs : ∀ j, j ≠ 2 → ∀ g, part { S with bv := v' } j g → part S j g := by
    intro j hj g hg
    rcases j with _ | _ | _ | m
    · exact hg
    · exact hg
    · exact absurd rfl hj
    · exact hg
  have hi : ∀ g, part { S with bv := v' } 2 g → part S 2 g ∨ w.heap.size ≤ g := by
    intro g hg
    have hg' : v'.ownBlock = some g := hg
    rcases hb with e | e | ⟨q, e, hq⟩
    · left; show S.bv.ownBlock = some g; rw [← e]; exact hg'
    · rw [e] at hg'; cases hg'
    · rw [e] at hg'; injection hg' with hg'; right; omega
  have ap := apart_step h 2 hs hi
  have hnp : ∀ g, v'.ownBlock = some g → g ≠ S.p := fun g hg c => by have := ap 2 0 g hg c; omega
  have hnot : ∀ {i g : Nat}, part S i g → i ≠ 2 → i ≠ 0 → ¬ (S.bv.ownBlock = some g) ∧ g ≠ S.p := fun hp h2 h0 => ⟨fun c => h2 (h.apart _ _ _ hp (show part S 2 _ from c)), fun c => h0 (h.apart _ _ _ hp (show part S 0 _ from c))⟩
  refine ⟨⟨?_, ?_, ?_, ?_, ap⟩, hall, foot_step 2 hs hi⟩
  · show (x.setCell ⟨S.p, 8, none⟩ v').heap[S.p]? = _
    simp [World.setCell, Array.getElem?_modify, hx, wcells]
  · have n1 := hnot (i := 1) (g := S.mb) rfl (by omega) (by omega)
    exact ownsMap_block h.mp ((hset.block S.mb (Nat.lt_of_lt_of_le (h.part_lt (i := 1) rfl) g'.size) n1.2).trans (g'.block S.mb (h.part_lt (i := 1) rfl) n1.1))
  · intro j hj
    exact ((h.ring j hj).frm g' (fun q hq => (hnot (i := j + 3) ⟨hj, hq⟩ (by omega) (by omega)).1)).frm hset (fun q hq => (hnot (i := j + 3) ⟨hj, hq⟩ (by omega) (by omega)).2)
  · exact ownsRow_frm ho hset hnp
theorem WG.beyondStep {w u x : World} {S : Sh} {now : Nat} {D : DataW Unit} {R : Nat → List La} {B B' : List Du} (h : WG w S now D R B) (gu : Grw w u) {v' : Value} (g : Frm (fun k => S.bv.ownBlock = some k) u x) (ho : x.ownsRow 0 42 2 v' B'.length (cd B'))
    (hb : v'.ownBlock = S.bv.ownBlock ∨ v'.ownBlock = none ∨ ∃ q, v'.ownBlock = some q ∧ w.heap.size ≤ q) : WQ S w now D R B' (x.setCell ⟨S.p, 8, none⟩ v') :=
  ⟨{ S with bv := v' }, rfl, h.beyondSh gu g ho hb⟩
theorem wfoot_bv {S : Sh} {v' : Value} (hb : v'.ownBlock = S.bv.ownBlock) : ∀ q, wfoot { S with bv := v' } q → wfoot S q := by
  rintro q ⟨j, hj⟩
  rcases j with _ | _ | _ | m
  · exact ⟨0, hj⟩
  · exact ⟨1, hj⟩
  · exact ⟨2, by show S.bv.ownBlock = some q; rw [← hb]; exact hj⟩
  · exact ⟨m + 3, hj⟩
/-- the time is written. -/
theorem WG.nowStep {w : World} {S : Sh} {now : Nat} {D : DataW Unit} {R : Nat → List La} {B : List Du} (h : WG w S now D R B) (now' : Nat) : WG (w.setCell ⟨S.p, 0, none⟩ (.int .u64 (now' : Nat))) S now' D R B ∧ Frm (wfoot S) w (w.setCell ⟨S.p, 0, none⟩ (.int .u64 (now' : Nat))) := by
  have hset : Frm (fun k => k = S.p) w (w.setCell ⟨S.p, 0, none⟩ (.int .u64 (now' : Nat))) := frm_set w ⟨S.p, 0, none⟩ _ rfl
  have hb := h.blk
  have hnot : ∀ {i g : Nat}, part S i g → i ≠ 0 → g ≠ S.p := fun hp h0 c => h0 (h.apart _ _ _ hp (show part S 0 _ from c))
  refine ⟨⟨?_, ?_, ?_, ?_, h.apart⟩, hset.mono (fun k e => ⟨0, e⟩)⟩
  · simp [World.setCell, Array.getElem?_modify, hb, wcells]
  · exact ownsMap_block h.mp (hset.block S.mb (h.part_lt (i := 1) rfl) (hnot (i := 1) rfl (by omega)))
  · intro j hj
    exact (h.ring j hj).frm hset (fun q hq => hnot (i := j + 3) ⟨hj, hq⟩ (by omega))
  · exact ownsRow_frm h.own hset (fun q hq => hnot (i := 2) hq (by omega))
/-- the map is written. -/
theorem WG.mapStep {w w' : World} {S : Sh} {now : Nat} {D D' : DataW Unit} {R : Nat → List La} {B : List Du} {n : Nat} (h : WG w S now D R B) (hm : w'.ownsMap Tryd.prog 3 (plainElem Tryd.prog 22) S.mb n D') (ht : w.mapTurned w' S.mb) : WG w' S now D' R B ∧ Frm (wfoot S) w w' := by
  have hg := ht.grown
  have hset : Frm (fun k => k = S.mb) w w' := ⟨hg.os, hg.tape, hg.output, hg.size, fun k hk hn => hg.block k hk (fun e => hn (by injection e))⟩
  have hnot : ∀ {i g : Nat}, part S i g → i ≠ 1 → g ≠ S.mb := fun hp h0 c => h0 (h.apart _ _ _ hp (show part S 1 _ from c))
  refine ⟨⟨?_, ownsMap_tight hm, ?_, ?_, h.apart⟩, hset.mono (fun k e => ⟨1, e⟩)⟩
  · rw [hset.block S.p (h.part_lt (i := 0) rfl) (hnot (i := 0) rfl (by omega))]; exact h.blk
  · intro j hj
    exact (h.ring j hj).frm hset (fun q hq => hnot (i := j + 3) ⟨hj, hq⟩ (by omega))
  · exact ownsRow_frm h.own hset (fun q hq => hnot (i := 2) hq (by omega))
theorem WQ.start {w w' : World} {S : Sh} {now : Nat} {D : DataW Unit} {R : Nat → List La} {B : List Du} (h : WG w' S now D R B) (f : Frm (wfoot S) w w') : WQ S w now D R B w' := ⟨S, rfl, h, f, fun _ e => Or.inl e⟩
theorem WQ.same {w w' : World} {S : Sh} {now : Nat} {D : DataW Unit} {R : Nat → List La} {B : List Du} (h : WG w S now D R B) (g : Grw w w') : WQ S w now D R B w' := WQ.start (h.later g) (g.frm _)
/-- one step behind another. -/
theorem WQ.trans {w w1 w2 : World} {S : Sh} {now now2 : Nat} {D D2 : DataW Unit} {R R2 : Nat → List La} {B B2 : List Du} (h : WQ S w now D R B w1) (h2 : ∀ S1, S1.p = S.p → WG w1 S1 now D R B → WQ S1 w1 now2 D2 R2 B2 w2) : WQ S w now2 D2 R2 B2 w2 := by
  obtain ⟨S1, e1, g1, f1, t1⟩ := h
  obtain ⟨S2, e2, g2, f2, t2⟩ := h2 S1 e1 g1
  refine ⟨S2, e2.trans e1, g2, f1.trans f2 t1, fun q hq => ?_⟩
  rcases t2 q hq with e | e
  · exact t1 q e
  · exact Or.inr (Nat.le_trans f1.size e)
theorem WG.congr {w : World} {S : Sh} {now : Nat} {D : DataW Unit} {R R' : Nat → List La} {B : List Du} (h : WG w S now D R B) (e : ∀ k, k < 6 → RingR w (S.rb k) (S.A k) (R k) → RingR w (S.rb k) (S.A k) (R' k)) : WG w S now D R' B :=
  ⟨h.blk, h.mp, fun k hk => e k hk (h.ring k hk), h.own, h.apart⟩
theorem RingR.perm {w : World} {b : Nat} {A : Array Value} {R R' : List La} (h : RingR w b A R) (e : R.Perm R') : RingR w b A R' := by
  refine ⟨h.ring.congr fun k _ => ?_, ⟨?_, fun x hx => h.good.slot x (e.mem_iff.2 hx)⟩, by rw [← e.length_eq]; exact h.few⟩
  · show listR R k = listR R' k
    unfold RG.listR
    exact RG.sort_congr ((e.filter _).map _)
  · exact ((e.map _).nodup_iff).1 h.good.once
end Go.Proofs.YtjkhgpdhhnfmlaaDoor
