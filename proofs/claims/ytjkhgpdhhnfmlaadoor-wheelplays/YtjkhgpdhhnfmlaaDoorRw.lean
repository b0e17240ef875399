/- Rows of integers in memory: read, and made by append. Nothing of the program is named here. -/
import Derived.Test.YtjkhgpdhhnfmlaaDoorCells
import Derived.Test.YtjkhgpdhhnfmlaaDoorMm
namespace Go.Proofs.YtjkhgpdhhnfmlaaDoor
open Go.RowKit MK

/-- n integers lie where a slice begins. -/
def RowF (w : World) (ao : Option Addr) (n : Nat) (f : Nat → Int) : Prop :=
  n = 0 ∨ ∃ b off, ao = some ⟨b, off, none⟩ ∧ b < w.heap.size ∧ ∀ j, j < n → w.cell? ⟨b, off + j, none⟩ = some (.int .i64 (f j))
theorem RowF.later {w x : World} {ao : Option Addr} {n : Nat} {f : Nat → Int} (h : RowF w ao n f) (g : Grw w x) : RowF x ao n f := by
  rcases h with h | ⟨b, off, e, hb, hc⟩
  · exact Or.inl h
  · exact Or.inr ⟨b, off, e, Nat.lt_of_lt_of_le hb (Below.size g), fun j hj => g.cell (hc j hj)⟩
theorem RowF.at {w : World} {ao : Option Addr} {n : Nat} {f : Nat → Int} (h : RowF w ao n f) (hn : 0 < n) : ∃ b off, ao = some ⟨b, off, none⟩ ∧ ∀ j, j < n → w.cell? ⟨b, off + j, none⟩ = some (.int .i64 (f j)) := by
  rcases h with h | ⟨b, off, e, _, hc⟩
  · omega
  · exact ⟨b, off, e, hc⟩

/-- a slice of a row of one's own: its integers. -/
def Own (w : World) (B : Nat) (v : Value) (l : List Int) : Prop := w.ownsRow B 3 1 v l.length (l.map (Value.int .i64))
theorem Own.row {w : World} {B : Nat} {v : Value} {l : List Int} (h : Own w B v l) : ∃ ao cap, v = .slice ao l.length cap ∧ RowF w ao l.length (fun j => l.getD j 0) := by
  unfold Own at h
  rcases h.2 with ⟨h1, h2⟩ | ⟨g, cap, cur, h1, _, h3, _⟩
  · exact ⟨none, 0, by rw [h1, h2], Or.inl h2⟩
  · subst h1
    refine ⟨some ⟨g, 0, none⟩, cap, rfl, Or.inr ⟨g, 0, rfl, (Array.getElem?_eq_some_iff.1 h3).1, fun j hj => ?_⟩⟩
    rw [Nat.zero_add, h.cellAt j (by omega)]
    simp [hj]
theorem Own.nil (w : World) (B : Nat) : Own w B (.slice none 0 0) [] := World.ownsRow_nil _ _ _ _
theorem Own.later {w x : World} {B : Nat} {v : Value} {l : List Int} (h : Own w B v l) (g : Grw w x) : Own x B v l := by
  unfold Own at *
  refine ⟨h.1, ?_⟩
  rcases h.2 with hn | ⟨b, cap, cur, rfl, hb, hg, r⟩
  · exact Or.inl hn
  · exact Or.inr ⟨b, cap, cur, rfl, hb, by rw [g.block (Array.getElem?_eq_some_iff.1 hg).1]; exact hg, r⟩
/-- behind an append: w the world when the call began (of B blocks), x the world ahead of the statement, with a block for what is appended. -/
theorem own_append {w x y : World} {o : Obj} {v v' : Value} {l news : List Int} (g : Grw w x) (h : Own x w.heap.size v l)
    (h1 : y.ownsRow w.heap.size 3 1 v' (l.length + news.length) (l.map (Value.int .i64) ++ news.map (Value.int .i64))) (h2 : (x.alloc o).grownBy y v.ownBlock) : Grw w y ∧ Own y w.heap.size v' (l ++ news) := by
  have hs := Below.size g
  refine ⟨Below.grown (g.alloc o) h2 (by rw [size_new]; omega) (fun k hk => (h.lt k hk).1), ?_⟩
  unfold Own
  rw [List.length_append, List.map_append]
  exact h1
theorem one_cell (w : World) (z : Int) : ∀ (j : Nat) (u : Value), [Value.int .i64 z][j]? = some u → (w.alloc (.cells #[.int .i64 z] 3)).cell? ((⟨w.heap.size, 0, none⟩ : Addr).add j) = some u := by
  intro j u hj
  match j, hj with
  | 0, hj => simp at hj; subst hj; simp [Addr.add]
theorem int_cells (l : List Int) : ∀ u ∈ l.map (Value.int .i64), u.oneCell' = true := by
  intro u hu
  rw [List.mem_map] at hu
  obtain ⟨z, _, rfl⟩ := hu
  rfl
end Go.Proofs.YtjkhgpdhhnfmlaaDoor
