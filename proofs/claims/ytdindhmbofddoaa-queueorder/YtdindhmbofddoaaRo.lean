/- The law QueueOrder: what the rounds keep. -/
import Derived.Test.YtdindhmbofddoaaSk
import Derived.Test.YtdindhmbofddoaaFa
import Derived.Deep.DeepAppendRoom
import Derived.Laws.MakeOwn
namespace Go.Proofs.Ytdindhmbofddoaa
open Go.RowKit
set_option linter.unusedSimpArgs false

/-- a round of QueueOrder's first loop: who waits, and with which number each came. -/
structure QO (w0 w : World) (p : Nat) (a : Int) (g i : Nat) (count : Int) (v : Value) (L : List Wt) (cs : List Value) (acts : List Wt) : Prop where
  m : QM w0 w p a 60 count v L
  row : w.ownsRow w0.heap.size 3 1 (.slice (some ⟨g, 0, none⟩) i 60) i cs
  off : ¬ qf p v g
  c0 : 0 ≤ count
  c1 : count ≤ (i : Int)
  len : L.length ≤ i
  told : ∀ x ∈ L, ∃ d : Nat, x.id = (d : Int) ∧ d < i ∧ d < acts.length ∧ x.cl = (gt acts d).ca % 8 ∧ cs[d]? = some (.int .i64 x.ca)
theorem QM.frm {w0 w x : World} {p g : Nat} {a room count : Int} {v : Value} {L : List Wt} (h : QM w0 w p a room count v L) (f : Frm (fun k => k = g) w x) (ho : ¬ qf p v g) (hg : w0.heap.size ≤ g) : QM w0 x p a room count v L :=
  ⟨h.q.keep f (fun _ hk e => ho (e ▸ hk)), f.grw h.g (fun _ e => e ▸ hg), h.pn, h.vn⟩
theorem QO.gb {w0 w : World} {p g i : Nat} {a count : Int} {v : Value} {L acts : List Wt} {cs : List Value} (h : QO w0 w p a g i count v L cs acts) : w0.heap.size ≤ g ∧ g < w.heap.size := h.row.lt g rfl
theorem QO.later {w0 w x : World} {p g i : Nat} {a count : Int} {v : Value} {L acts : List Wt} {cs : List Value} (h : QO w0 w p a g i count v L cs acts) (k : Grw w x) : QO w0 x p a g i count v L cs acts :=
  ⟨h.m.later k, ownsRow_frm h.row (k.frm (fun _ => False)) (fun _ _ e => e), h.off, h.c0, h.c1, h.len, h.told⟩
theorem one_int (w : World) (x : Int) (T : TypeId) : ∀ j u, [(Value.int .i64 x)][j]? = some u → (w.alloc (.cells #[.int .i64 x] T)).cell? ((⟨w.heap.size, 0, none⟩ : Addr).add j) = some u :=
  blk_cells (xs := [.int .i64 x]) (heap_alloc_new w _)
theorem QO.add {w0 w w1 w2 : World} {p g i : Nat} {a count : Int} {v v2 : Value} {L acts : List Wt} {cs : List Value} (h : QO w0 w p a g i count v L cs acts)
    (row1 : w1.ownsRow w0.heap.size 3 1 (.slice (some ⟨g, 0, none⟩) (i + 1) 60) (i + 1) (cs ++ [.int .i64 count])) (hcs : cs.length = i) (hi : i < acts.length)
    {x : Wt} (hx : x = ⟨(i : Int), (gt acts i).ca % 8, count⟩) (m2 : QM w0 w2 p a 60 count v2 (L ++ [x])) (f : Frm (qf p v) w1 w2) (nr : Near w1 v v2) : QO w0 w2 p a g (i + 1) count v2 (L ++ [x]) (cs ++ [.int .i64 count]) acts := by
  refine ⟨m2, ownsRow_frm row1 f (fun k hk => by injection hk with hk; rw [← hk]; exact h.off), ?_, h.c0, by have := h.c1; omega, by have := h.len; simp; omega, ?_⟩
  · rintro (e | e)
    · exact h.off (Or.inl e)
    · rcases nr with e' | ⟨k, hk, hw⟩
      · exact h.off (Or.inr (e' ▸ e))
      · rw [e] at hk; injection hk with hk
        have := (row1.lt g rfl).2
        omega
  · intro y hy
    rcases List.mem_append.1 hy with hy | hy
    · obtain ⟨d, h1, h2, h3, h4, h5⟩ := h.told y hy
      exact ⟨d, h1, by omega, h3, h4, by rw [List.getElem?_append_left (by omega)]; exact h5⟩
    · rw [List.mem_singleton.1 hy, hx]
      exact ⟨i, rfl, by omega, hi, rfl, by rw [List.getElem?_append_right (by omega), hcs]; simp⟩
theorem QO.took {w0 w w2 : World} {p g i : Nat} {a count : Int} {v v2 : Value} {L acts : List Wt} {cs : List Value} (h : QO w0 w p a g i count v L cs acts) {k : Nat} (hk : k < L.length)
    (hc : count + 1 ≤ (i : Int)) (m2 : QM w0 w2 p a 60 (count + 1) v2 (rem L k)) (f : Frm (qf p v) w w2) (nr : Near w v v2) : QO w0 w2 p a g i (count + 1) v2 (rem L k) cs acts := by
  refine ⟨m2, ownsRow_frm h.row f (fun k hk => by injection hk with hk; rw [← hk]; exact h.off), ?_, by have := h.c0; omega, hc, by have := h.len; have := rem_len hk; omega, fun y hy => h.told y (rem_mem hy)⟩
  rintro (e | e)
  · exact h.off (Or.inl e)
  · rcases nr with e' | ⟨k, hk, hw⟩
    · exact h.off (Or.inr (e' ▸ e))
    · rw [e] at hk; injection hk with hk
      have := h.gb.2
      omega
theorem QO.cl {w0 w : World} {p g i : Nat} {a count : Int} {v : Value} {L acts : List Wt} {cs : List Value} (h : QO w0 w p a g i count v L cs acts) : cs.length = i := by have := h.row.1; omega
theorem QO.new {w0 w : World} {p g i : Nat} {a count : Int} {v : Value} {L acts : List Wt} {cs : List Value} (h : QO w0 w p a g i count v L cs acts) : ∀ j, j < L.length → (gt L j).id ≠ (i : Int) := fun j hj c => by
  obtain ⟨d, h1, h2, _⟩ := h.told _ (gt_mem hj)
  rw [c] at h1
  omega
theorem ownsRow_lies_at {w : World} {B n n' cap : Nat} {e : TypeId} {size : Nat} {ao : Option Addr} {xs : List Value} (h : w.ownsRow B e size (.slice ao n' cap) n xs) : Lies w ao xs := by
  obtain ⟨a, c, e1, h⟩ := ownsRow_lies h
  injection e1 with e1
  rw [e1]; exact h
/-- a round of QueueOrder's second loop: who waits is what the list has from j on. -/
structure QT (w0 w : World) (p : Nat) (a : Int) (g k : Nat) (u : Value) (s : List Wt) (cs : List Value) (j : Nat) (count : Int) (v : Value) (L : List Wt) : Prop where
  m : QM w0 w p a 60 count v L
  rowc : w.ownsRow w0.heap.size 3 1 (.slice (some ⟨g, 0, none⟩) k 60) k cs
  offc : ¬ qf p v g
  rows : w.ownsRow w0.heap.size 37 3 u s.length (cw s)
  offs : ∀ b, u.ownBlock = some b → ¬ qf p v b
  perm : L.Perm (s.drop j)
theorem QT.later {w0 w x : World} {p g k j : Nat} {a count : Int} {u v : Value} {s L : List Wt} {cs : List Value} (h : QT w0 w p a g k u s cs j count v L) (q : Grw w x) : QT w0 x p a g k u s cs j count v L :=
  ⟨h.m.later q, ownsRow_frm h.rowc (q.frm (fun _ => False)) (fun _ _ e => e), h.offc, ownsRow_frm h.rows (q.frm (fun _ => False)) (fun _ _ e => e), h.offs, h.perm⟩
theorem QT.start {w0 w w1 : World} {p g k : Nat} {a count : Int} {u v : Value} {s L acts : List Wt} {cs : List Value} (h : QO w0 w p a g k count v L cs acts) (q : LQ a L w u s w1) : QT w0 w1 p a g k u s cs 0 count v L := by
  refine ⟨h.m.later q.gw, ownsRow_frm h.row (q.gw.frm (fun _ => False)) (fun _ _ e => e), h.off, row_base q.row (fun b hb => Nat.le_trans (Below.size h.m.g) (q.row.lt b hb).1), fun b hb => ?_, q.perm.symm⟩
  have hlt := (q.row.lt b hb).1
  rintro (e | e)
  · have := World.block_lt_of_cell? _ _ h.m.q.c0
    simp only at this
    omega
  · obtain ⟨l, hl, _⟩ := h.m.q.line
    have := (hl.row.lt b e).2
    omega
theorem near_off {w : World} {p b : Nat} {v v2 : Value} (h : ¬ qf p v b) (nr : Near w v v2) (hb : b < w.heap.size) : ¬ qf p v2 b := by
  rintro (e | e)
  · exact h (Or.inl e)
  · rcases nr with e' | ⟨k, hk, hw⟩
    · exact h (Or.inr (e' ▸ e))
    · rw [e] at hk; injection hk with hk
      omega
theorem QT.first {w0 w : World} {p g k j : Nat} {a count : Int} {u v : Value} {s L : List Wt} {cs : List Value} (h : QT w0 w p a g k u s cs j count v L) (hs : Srtd a 0 s.length s) (hj : j < s.length) {f : Nat} (hf : Fst a L f) : gt L f = gt s j := by
  refine (least_is h.m.q.ids hf ?_ fun y hy => ?_).symm
  · rw [h.perm.mem_iff, gt_at hj]
    exact List.mem_drop_iff_getElem.2 ⟨0, by omega, by simp⟩
  · obtain ⟨i, hi, e⟩ := List.mem_drop_iff_getElem.1 (h.perm.mem_iff.1 hy)
    rw [← e]
    by_cases c : i = 0
    · subst c
      rw [gt_at hj]
      simp only [Nat.add_zero]
      exact les_irr _ _
    · have hi' : j + i < s.length := by omega
      have := hs j (j + i) (Nat.zero_le _) (by omega) hi'
      rw [gt_at hi', gt_at hj] at this
      rw [gt_at hj]
      exact this
theorem QT.took {w0 w w2 : World} {p g k j : Nat} {a count : Int} {u v v2 : Value} {s L : List Wt} {cs : List Value} (h : QT w0 w p a g k u s cs j count v L) (hj : j < s.length) {f : Nat} (hf : f < L.length) (he : gt L f = gt s j)
    (m2 : QM w0 w2 p a 60 (count + 1) v2 (rem L f)) (fr : Frm (qf p v) w w2) (nr : Near w v v2) : QT w0 w2 p a g k u s cs (j + 1) (count + 1) v2 (rem L f) := by
  refine ⟨m2, ownsRow_frm h.rowc fr (fun b hb => by injection hb with hb; rw [← hb]; exact h.offc), near_off h.offc nr (h.rowc.lt g rfl).2, ownsRow_frm h.rows fr h.offs, fun b hb => near_off (h.offs b hb) nr (h.rows.lt b hb).2, ?_⟩
  have p1 := (rem_perm hf).symm.trans h.perm
  rw [he, gt_at hj, List.drop_eq_getElem_cons hj] at p1
  exact (List.perm_cons _).1 ((List.perm_append_singleton _ _).symm.trans p1)
end Go.Proofs.Ytdindhmbofddoaa
