/- Cells of a block that was made ahead of a call, behind it: they are as they were, and may be written. Nothing of the program is named here. -/
import Derived.Test.YtjkhgpdhhnfmlaaDoorGrow
namespace Go.Proofs.YtjkhgpdhhnfmlaaDoor
open Go.RowKit

theorem Grw.set {w x : World} (h : Grw w x) {p : Addr} (hp : w.heap.size ≤ p.block) (v : Value) : Grw w (x.setCell p v) := Below.setCell h hp v
theorem Grw.block {w x : World} (h : Grw w x) {k : Nat} (hk : k < w.heap.size) : x.heap[k]? = w.heap[k]? := Below.block h k hk
theorem size_new (w : World) (o : Obj) : (w.alloc o).heap.size = w.heap.size + 1 := by simp [go_sem]
theorem heap_old (w : World) (o : Obj) (k : Nat) (h : k < w.heap.size) : (w.alloc o).heap[k]? = w.heap[k]? := ((Grw.rfl' w).alloc o).block h

/-- two cells in block b, as they lie, and to be written. -/
structure Two (w : World) (b : Nat) (c0 c1 : Value) : Prop where
  c0 : w.cell? ⟨b, 0, none⟩ = some c0
  c1 : w.cell? ⟨b, 1, none⟩ = some c1
  f0 : w.frozen? ⟨b, 0, none⟩ = false
  f1 : w.frozen? ⟨b, 1, none⟩ = false

theorem Two.new (w : World) (c0 c1 : Value) (T : TypeId) : Two (w.alloc (.cells #[c0, c1] T)) w.heap.size c0 c1 :=
  ⟨by simp [go_sem], by simp [go_sem], by simp [go_sem], by simp [go_sem]⟩
theorem Two.later {w x : World} {b : Nat} {c0 c1 : Value} (t : Two w b c0 c1) (h : Grw w x) (hb : b < w.heap.size) : Two x b c0 c1 :=
  ⟨h.cell t.c0, h.cell t.c1, by rw [Below.frozen h hb]; exact t.f0, by rw [Below.frozen h hb]; exact t.f1⟩
theorem Two.grown {w x : World} {c0 c1 : Value} {T : TypeId} (h : Grw (w.alloc (.cells #[c0, c1] T)) x) : Two x w.heap.size c0 c1 :=
  (Two.new w c0 c1 T).later h (by rw [size_new]; omega)
theorem Grw.two {w x : World} {o : Obj} (h : Grw (w.alloc o) x) : Grw w x := ((Grw.rfl' w).alloc o).trans h
theorem Grw.set2 {w x : World} (h : Grw w x) {b : Nat} (hb : w.heap.size ≤ b) (u v : Value) : Grw w ((x.setCell ⟨b, 0, none⟩ u).setCell ⟨b, 1, none⟩ v) := (h.set hb u).set hb v
end Go.Proofs.YtjkhgpdhhnfmlaaDoor
