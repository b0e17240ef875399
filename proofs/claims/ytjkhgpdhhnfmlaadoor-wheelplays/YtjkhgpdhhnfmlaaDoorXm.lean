/- The contract of wheel.Advance at this program, told by the list of timers. -/
import Derived.Test.YtjkhgpdhhnfmlaaDoorXl
namespace Go.Proofs.YtjkhgpdhhnfmlaaDoor
open Go.RowKit TM MK
open RG (Du La listR putB putR dropR dropO takeR hasId Srt)
open VM (RK BK lvl idsD)
set_option linter.unusedSimpArgs false

/-- those that are due at a time, and the others. -/
def dueP (to : Nat) (d : Du) : Bool := decide (d.t ≤ to)
def twN (p : Du → Bool) (B : List Du) : Nat := (B.takeWhile p).length
theorem twN_le (p : Du → Bool) (B : List Du) : twN p B ≤ B.length := (List.takeWhile_sublist _).length_le
theorem twN_take (p : Du → Bool) (B : List Du) : B.take (twN p B) = B.takeWhile p := by
  unfold twN
  conv => lhs; arg 2; rw [← List.takeWhile_append_dropWhile (p := p) (l := B)]
  rw [List.take_left' rfl]
theorem twN_drop (p : Du → Bool) (B : List Du) : B.drop (twN p B) = B.dropWhile p := by
  unfold twN
  conv => lhs; arg 2; rw [← List.takeWhile_append_dropWhile (p := p) (l := B)]
  rw [List.drop_left' rfl]
theorem twN_yes {p : Du → Bool} {B : List Du} {i : Nat} (hi : i < twN p B) : ∃ h : i < B.length, p B[i] = true := by
  have hl := twN_le p B
  refine ⟨by omega, ?_⟩
  have hm : B[i]'(by omega) ∈ B.takeWhile p := by
    rw [← twN_take]
    exact List.mem_take_iff_getElem.2 ⟨i, by omega, rfl⟩
  exact List.all_eq_true.1 (List.all_takeWhile (p := p) (l := B)) _ hm
theorem twN_no {p : Du → Bool} {B : List Du} (hi : twN p B < B.length) : p (B[twN p B]) = false := by
  have h1 := twN_drop p B
  rw [List.drop_eq_getElem_cons hi] at h1
  have h2 : (B.dropWhile p).head? = some (B[twN p B]) := by rw [← h1]; rfl
  have := List.head?_dropWhile_not p B
  rw [h2] at this
  simpa using this
/-- of timers in order, all behind those that are due are not. -/
theorem due_rest {L : List Du} (hs : Srt L) (to : Nat) : ∀ d ∈ L.drop (twN (dueP to) L), to < d.t := by
  intro d hd
  obtain ⟨a, ha, rfl⟩ := List.mem_drop_iff_getElem.1 hd
  have h0 : to < (L[twN (dueP to) L]'(by omega)).t := by
    have := twN_no (p := dueP to) (B := L) (by omega)
    have h := of_decide_eq_false this
    omega
  have hp := List.pairwise_iff_getElem.1 (VM.srt_t hs)
  rcases Nat.eq_zero_or_pos a with rfl | hpos
  · exact h0
  · have := hp (twN (dueP to) L) (twN (dueP to) L + a) (by omega) (by omega) (by omega)
    omega
/-- while the timers that are due are gathered: the wheel, the row of those that were, the block of the last one. -/
structure Av (w wr : World) (S Si : Sh) (now : Nat) (L : List Du) (v : Value) (l : List Du) (X : Nat) : Prop where
  pos : 0 < w.heap.size
  p : Si.p = S.p
  g : WR wr Si now L
  f : Frm (wfoot S) w wr
  t : ∀ q, wfoot Si q → wfoot S q ∨ w.heap.size ≤ q
  row : wr.ownsRow 0 42 2 v l.length (cd l)
  off : ∀ g, v.ownBlock = some g → w.heap.size ≤ g ∧ ¬ wfoot Si g
  x : w.heap.size ≤ X ∧ X < wr.heap.size ∧ ¬ wfoot Si X ∧ v.ownBlock ≠ some X
theorem Av.newX {w wr : World} {S Si : Sh} {now : Nat} {L : List Du} {v : Value} {l : List Du} {X : Nat} (h : Av w wr S Si now L v l X) (o : Obj) : Av w (wr.alloc o) S Si now L v l wr.heap.size := by
  have g0 : Grw wr (wr.alloc o) := (Grw.rfl' wr).alloc o
  refine ⟨h.pos, h.p, h.g.later g0, h.f.alloc o, h.t, ownsRow_frm h.row (g0.frm (fun _ => False)) (fun _ _ e => e), h.off, h.f.size, by simp only [size_new]; omega, fun c => ?_, fun c => ?_⟩
  · have := h.g.lt c; omega
  · have := (h.row.lt _ c).2; omega
theorem Av.start {w w1 : World} {S : Sh} {now : Nat} {L : List Du} (hp : 0 < w.heap.size) (h : WRQ S w now L w1) (o : Obj) : ∃ Si, Av w (w1.alloc o) S Si now L (.slice none 0 0) [] w1.heap.size := by
  obtain ⟨Si, e, g, f, t⟩ := h
  refine ⟨Si, hp, e, g.later ((Grw.rfl' _).alloc o), f.alloc o, t, World.ownsRow_nil _ _ _ _, (fun g hg => by cases hg), f.size, by simp only [size_new]; omega, fun c => ?_, (fun c => by cases c)⟩
  have := g.lt c; omega
theorem Av.app {w wr w1 : World} {S Si : Sh} {now : Nat} {L : List Du} {v v' : Value} {l : List Du} {X : Nat} {o : Obj} {d : Du} (h : Av w wr S Si now L v l X) (ho : w1.ownsRow 0 42 2 v' (l.length + 1) (cd l ++ cd [d])) (hg : (wr.alloc o).grownBy w1 v.ownBlock) (hb : v'.ownBlock = v.ownBlock ∨ v'.ownBlock = some (wr.alloc o).heap.size) : Av w w1 S Si now L v' (l ++ [d]) X := by
  have f1 : Frm (fun k => v.ownBlock = some k) wr w1 := (((Grw.rfl' wr).alloc o).frm _).trans (grownBy_frm hg) (fun _ e => Or.inl e)
  have hs := f1.size
  have hs2 : wr.heap.size < (wr.alloc o).heap.size := by simp only [size_new]; omega
  have hsz : (wr.alloc o).heap.size ≤ w1.heap.size := hg.size
  refine ⟨h.pos, h.p, h.g.frm f1 (fun k hk c => (h.off k c).2 hk) (fun c => by have h1 := (h.off 0 c).1; have h2 := h.pos; omega), h.f.trans f1 (fun k e => Or.inr (h.off k e).1), h.t, ?_, fun g hg' => ?_, h.x.1, Nat.lt_of_lt_of_le h.x.2.1 hs, h.x.2.2.1, fun c => ?_⟩
  · rw [List.length_append, cd_app]; exact ho
  · rcases hb with e | e
    · rw [e] at hg'; exact h.off g hg'
    · rw [e] at hg'
      injection hg' with hg'
      refine ⟨by have := h.f.size; omega, fun c => ?_⟩
      have := h.g.lt c; omega
  · rcases hb with e | e
    · rw [e] at c; exact h.x.2.2.2 c
    · rw [e] at c
      injection c with c
      have := h.x.2.1
      omega
theorem Av.pop {w wr w3 : World} {S Si : Sh} {now now' : Nat} {L L' : List Du} {v : Value} {l : List Du} {X : Nat} (h : Av w wr S Si now L v l X) (q : WRQ Si wr now' L' w3) : ∃ S3, Av w w3 S S3 now' L' v l X := by
  obtain ⟨S3, e3, g3, f3, t3⟩ := q
  have hn : ∀ k, k < wr.heap.size → ¬ wfoot Si k → ¬ wfoot S3 k := fun k hk hn c => (t3 k c).elim hn (fun c => by omega)
  refine ⟨S3, h.pos, e3.trans h.p, g3, h.f.trans f3 h.t, fun q hq => ?_, ownsRow_frm h.row f3 (fun k hk => (h.off k hk).2), fun g hg => ⟨(h.off g hg).1, hn g (h.row.lt g hg).2 (h.off g hg).2⟩, h.x.1, Nat.lt_of_lt_of_le h.x.2.1 f3.size, hn X h.x.2.1 h.x.2.2.1, h.x.2.2.2⟩
  rcases t3 q hq with e | e
  · exact h.t q e
  · exact Or.inr (Nat.le_trans h.f.size e)
theorem Av.set {w wr : World} {S Si : Sh} {now : Nat} {L : List Du} {v : Value} {l : List Du} {X : Nat} (h : Av w wr S Si now L v l X) (i : Nat) (u : Value) : Av w (wr.setCell ⟨X, i, none⟩ u) S Si now L v l X := by
  have f1 : Frm (fun k => k = X) wr (wr.setCell ⟨X, i, none⟩ u) := frm_set wr ⟨X, i, none⟩ u rfl
  refine ⟨h.pos, h.p, h.g.frm f1 (fun k hk c => h.x.2.2.1 (c ▸ hk)) (fun c => by have := h.x.1; have := h.pos; omega), h.f.trans f1 (fun k e => Or.inr (e ▸ h.x.1)), h.t, ownsRow_frm h.row f1 (fun k hk c => h.x.2.2.2 (c ▸ hk)), h.off, h.x.1, Nat.lt_of_lt_of_le h.x.2.1 f1.size, h.x.2.2.1, h.x.2.2.2⟩
/-- behind Advance: the wheel, and the row of those that were due, in a block that is not the wheel's. -/
def AdvQ (S : Sh) (w : World) (now : Nat) (L l : List Du) (e : Ending) (w' : World) : Prop :=
  ∃ v S', e = .returned (.tuple #[v, .int .i64 0]) ∧ RowD w' v l ∧ S'.p = S.p ∧ WR w' S' now L ∧ Frm (wfoot S) w w' ∧ (∀ q, wfoot S' q → wfoot S q ∨ w.heap.size ≤ q) ∧ ∀ g, v.ownBlock = some g → w.heap.size ≤ g ∧ g < w'.heap.size ∧ ¬ wfoot S' g
theorem Av.done {w wr : World} {S Si : Sh} {now : Nat} {L : List Du} {v : Value} {l : List Du} {X : Nat} (h : Av w wr S Si now L v l X) : AdvQ S w now L l (.returned (.tuple #[v, .int .i64 0])) wr :=
  ⟨v, Si, rfl, ownsRow_lies h.row, h.p, h.g, h.f, h.t, fun g hg => ⟨(h.off g hg).1, (h.row.lt g hg).2, (h.off g hg).2⟩⟩
/-- Pop up to a time, of what is left of the list behind k of them. -/
theorem pop_at (S : Sh) (now to k : Nat) (L : List Du) (u : World) (h : WR u S now (L.drop k)) (hs : Srt L) (hk : k ≤ twN (dueP to) L) (hto : to < 2 ^ 64) (hn : now ≤ to) :
    (∃ hk' : k < L.length, k < twN (dueP to) L ∧ Calls Tryd.prog 13 #[.pointer (some ⟨S.p, 0, none⟩), .int .u64 to] u (PopQ S u L[k] true L[k].t (L.drop (k + 1)))) ∨
    (k = twN (dueP to) L ∧ Calls Tryd.prog 13 #[.pointer (some ⟨S.p, 0, none⟩), .int .u64 to] u (PopQ S u ⟨0, 0⟩ false to (L.drop k))) := by
  rcases Nat.lt_or_ge k (twN (dueP to) L) with g | g
  · left
    obtain ⟨h1, h2⟩ := twN_yes g
    refine ⟨h1, g, ?_⟩
    rw [List.drop_eq_getElem_cons h1] at h
    exact pop_hit S now L[k] (L.drop (k + 1)) to u h (of_decide_eq_true h2)
  · right
    have e : k = twN (dueP to) L := by omega
    refine ⟨e, ?_⟩
    have := pop_miss S now (L.drop k) to u h hto (by rw [e]; exact due_rest hs to)
    rw [Nat.max_eq_right hn] at this
    exact this
end Go.Proofs.YtjkhgpdhhnfmlaaDoor
