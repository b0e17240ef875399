/- Opening a slice of acts that came in: four integers each. -/
import Derived.Test.YtlihcljjpalapaaDoorRc
import Derived.Test.YtlihcljjpalapaaDoorPost
import Derived.Deep.SlicePairs
import Derived.Deep.Strs
namespace Go.Proofs.YtlihcljjpalapaaDoor
open Go.RowKit Go.WideShapes Go.ChangeShapes Go.Deep
open RG (Du)

/-- something that is done to a ring. -/
structure Ac where
  dd : Int
  s : Int
  d : Du
instance acInhabited : Inhabited Ac := ⟨⟨0, 0, ⟨0, 0⟩⟩⟩
/-- n acts lie where a slice begins. -/
def RowA (w : World) (ao : Option Addr) (n : Nat) (f : Nat → Ac) : Prop :=
  n = 0 ∨ ∃ b off, ao = some ⟨b, off, none⟩ ∧ b < w.heap.size ∧ ∀ j, j < n → w.cell? ⟨b, off + j * 4, none⟩ = some (.int .i64 (f j).dd) ∧ w.cell? ⟨b, off + j * 4 + 1, none⟩ = some (.int .i64 (f j).s) ∧
    w.cell? ⟨b, off + j * 4 + 2, none⟩ = some (.int .i64 (f j).d.id) ∧ w.cell? ⟨b, off + j * 4 + 3, none⟩ = some (.int .u64 ((f j).d.t : Nat))
theorem RowA.later {w x : World} {ao : Option Addr} {n : Nat} {f : Nat → Ac} (h : RowA w ao n f) (g : Grw w x) : RowA x ao n f := by
  rcases h with h | ⟨b, off, e, hb, hc⟩
  · exact Or.inl h
  · exact Or.inr ⟨b, off, e, Nat.lt_of_lt_of_le hb (Below.size g), fun j hj => ⟨g.cell (hc j hj).1, g.cell (hc j hj).2.1, g.cell (hc j hj).2.2.1, g.cell (hc j hj).2.2.2⟩⟩
theorem RowA.at {w : World} {ao : Option Addr} {n : Nat} {f : Nat → Ac} (h : RowA w ao n f) (hn : 0 < n) : ∃ b off, ao = some ⟨b, off, none⟩ ∧ ∀ j, j < n → w.cell? ⟨b, off + j * 4, none⟩ = some (.int .i64 (f j).dd) ∧ w.cell? ⟨b, off + j * 4 + 1, none⟩ = some (.int .i64 (f j).s) ∧
    w.cell? ⟨b, off + j * 4 + 2, none⟩ = some (.int .i64 (f j).d.id) ∧ w.cell? ⟨b, off + j * 4 + 3, none⟩ = some (.int .u64 ((f j).d.t : Nat)) := by
  rcases h with h | ⟨b, off, e, _, hc⟩
  · omega
  · exact ⟨b, off, e, hc⟩
theorem open_acts {H : Type} {enc : TypeId × Value → H} {w : World} {r : Reach} {b0 : Nat} {v : Value} {d : DataW H} {p : List MemPlace}
    (hv : Value.okWide Tryd.prog w r b0 22 v) (h : DataW.Trod enc Tryd.prog w 0 (fun _ => true) true 22 v d p) :
    ∃ ao n cap f, v = .slice ao n cap ∧ n ≤ 9223372036854775807 ∧ RowA w ao n f := by
  obtain ⟨a0, len, cap, rfl⟩ := okWide_slice Tryd.underlying22 hv
  obtain ⟨fuel, hf⟩ := h
  rcases open_slice Tryd.underlying22 hf with ⟨hcs, _⟩ | ⟨a, len', cap', m, n, D, Pl, hcs, _, hl, hm, hmm, _, hx⟩
  · simp [Value.cells] at hcs
    obtain ⟨rfl, rfl, rfl⟩ := hcs
    exact ⟨none, 0, 0, fun _ => ⟨0, 0, ⟨0, 0⟩⟩, rfl, by omega, Or.inl rfl⟩
  · simp [Value.cells] at hcs
    obtain ⟨rfl, rfl, rfl⟩ := hcs
    simp only [if_true] at hmm
    subst hmm
    have hc4 : Tryd.prog.cellsOf 33 = 4 := by kernel_rfl
    have each : ∀ i, i < len → ∃ q : Ac, w.cell? (a.add (i * 4)) = some (.int .i64 q.dd) ∧ w.cell? (a.add (i * 4 + 1)) = some (.int .i64 q.s) ∧ w.cell? (a.add (i * 4 + 2)) = some (.int .i64 q.d.id) ∧ w.cell? (a.add (i * 4 + 3)) = some (.int .u64 (q.d.t : Nat)) := by
      intro i hi
      obtain ⟨cs', h1, h2⟩ := hx i (by omega)
      rw [hc4] at h1
      obtain ⟨_, hlen, hcell⟩ := World.cells?_some h1
      obtain ⟨y0, y1, y2, k, _, _, g0, g1, g2⟩ := trod_struct3 Tryd.underlying33 h2
      match cs', hlen with
      | [v0, v1, v2, v3], _ =>
        have c1 : Tryd.prog.cellsOf 3 = 1 := by kernel_rfl
        have c2 : Tryd.prog.cellsOf 31 = 2 := by kernel_rfl
        simp [c1, c2] at g0 g1 g2
        obtain ⟨z0, z1, k2, _, _, g3, g4⟩ := trod_struct2 Tryd.underlying31 g2
        have c3 : Tryd.prog.cellsOf 29 = 1 := by kernel_rfl
        simp [c1, c3] at g3 g4
        obtain ⟨e0, q0, _, _⟩ := DataW.trod_int Tryd.underlying3 g0
        obtain ⟨e1, q1, _, _⟩ := DataW.trod_int Tryd.underlying3 g1
        obtain ⟨e2, q2, _, _⟩ := DataW.trod_int Tryd.underlying3 g3
        obtain ⟨e3, q3, _, w3⟩ := DataW.trod_int Tryd.underlying29 g4
        have b3 := bounds_of w3
        obtain ⟨t3, rfl⟩ := Int.eq_ofNat_of_zero_le b3.1
        have q0 : v0 = .int .i64 e0 := by simpa using q0
        have q1 : v1 = .int .i64 e1 := by simpa using q1
        have q2 : v2 = .int .i64 e2 := by simpa using q2
        have q3 : v3 = .int .u64 (t3 : Int) := by simpa using q3
        subst q0 q1 q2 q3
        have r0 := hcell 0 (by omega)
        have r1 := hcell 1 (by omega)
        have r2 := hcell 2 (by omega)
        have r3 := hcell 3 (by omega)
        rw [add_add] at r0 r1 r2 r3
        exact ⟨⟨e0, e1, ⟨e2, t3⟩⟩, by simpa using r0, by simpa using r1, by simpa using r2, by simpa using r3⟩
    obtain ⟨q, hq⟩ := choose_lt each
    by_cases h0 : len = 0
    · exact ⟨some a, len, _, q, rfl, by unfold maxLen at hm; omega, Or.inl h0⟩
    · obtain ⟨b, off, spot⟩ := a
      have hspot : spot = none := by
        have := World.cell?_spot (hq 0 (by omega)).1
        simpa [Addr.add] using this
      subst hspot
      refine ⟨_, len, _, q, rfl, by unfold maxLen at hm; omega, Or.inr ⟨b, off, rfl, ?_, fun j hj => ?_⟩⟩
      · have := World.block_lt_of_cell? w _ (hq 0 (by omega)).1
        simpa [Addr.add] using this
      · have := hq j hj
        simp only [Addr.add_lit] at this
        simpa [Nat.add_assoc] using this
end Go.Proofs.YtlihcljjpalapaaDoor
