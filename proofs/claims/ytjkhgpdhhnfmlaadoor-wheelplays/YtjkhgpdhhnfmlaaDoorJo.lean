/- Opening a slice of acts that came in: two integers and a time each. -/
import Derived.Test.YtjkhgpdhhnfmlaaDoorXb
import Derived.Test.YtjkhgpdhhnfmlaaDoorPost
import Derived.Deep.SlicePairs
import Derived.Deep.Strs
namespace Go.Proofs.YtjkhgpdhhnfmlaaDoor
open Go.RowKit Go.WideShapes Go.ChangeShapes Go.Deep

/-- something that is done to a wheel. -/
structure Ac where
  dd : Int
  i : Int
  t : Nat
instance acInhabited : Inhabited Ac := ⟨⟨0, 0, 0⟩⟩
/-- n acts lie where a slice begins. -/
def RowA (w : World) (ao : Option Addr) (n : Nat) (f : Nat → Ac) : Prop :=
  n = 0 ∨ ∃ b off, ao = some ⟨b, off, none⟩ ∧ b < w.heap.size ∧ ∀ j, j < n → w.cell? ⟨b, off + j * 3, none⟩ = some (.int .i64 (f j).dd) ∧ w.cell? ⟨b, off + j * 3 + 1, none⟩ = some (.int .i64 (f j).i) ∧ w.cell? ⟨b, off + j * 3 + 2, none⟩ = some (.int .u64 ((f j).t : Nat))
theorem RowA.later {w x : World} {ao : Option Addr} {n : Nat} {f : Nat → Ac} (h : RowA w ao n f) (g : Grw w x) : RowA x ao n f := by
  rcases h with h | ⟨b, off, e, hb, hc⟩
  · exact Or.inl h
  · exact Or.inr ⟨b, off, e, Nat.lt_of_lt_of_le hb (Below.size g), fun j hj => ⟨g.cell (hc j hj).1, g.cell (hc j hj).2.1, g.cell (hc j hj).2.2⟩⟩
theorem RowA.at {w : World} {ao : Option Addr} {n : Nat} {f : Nat → Ac} (h : RowA w ao n f) (hn : 0 < n) : ∃ b off, ao = some ⟨b, off, none⟩ ∧ ∀ j, j < n → w.cell? ⟨b, off + j * 3, none⟩ = some (.int .i64 (f j).dd) ∧ w.cell? ⟨b, off + j * 3 + 1, none⟩ = some (.int .i64 (f j).i) ∧ w.cell? ⟨b, off + j * 3 + 2, none⟩ = some (.int .u64 ((f j).t : Nat)) := by
  rcases h with h | ⟨b, off, e, _, hc⟩
  · omega
  · exact ⟨b, off, e, hc⟩
set_option maxRecDepth 100000 in
theorem open_acts {H : Type} {enc : TypeId × Value → H} {w : World} {r : Reach} {b0 : Nat} {v : Value} {d : DataW H} {p : List MemPlace}
    (hv : Value.okWide Tryd.prog w r b0 23 v) (h : DataW.Trod enc Tryd.prog w 0 (fun _ => true) true 23 v d p) :
    ∃ ao n cap f, v = .slice ao n cap ∧ n ≤ 9223372036854775807 ∧ RowA w ao n f ∧ ∀ j, j < n → Wi (f j).i ∧ (f j).t < 2 ^ 64 := by
  obtain ⟨a0, len, cap, rfl⟩ := okWide_slice Tryd.underlying23 hv
  obtain ⟨fuel, hf⟩ := h
  rcases open_slice Tryd.underlying23 hf with ⟨hcs, _⟩ | ⟨a, len', cap', m, n, D, Pl, hcs, _, hl, hm, hmm, _, hx⟩
  · simp [Value.cells] at hcs
    obtain ⟨rfl, rfl, rfl⟩ := hcs
    exact ⟨none, 0, 0, fun _ => ⟨0, 0, 0⟩, rfl, by omega, Or.inl rfl, fun j hj => by omega⟩
  · simp [Value.cells] at hcs
    obtain ⟨rfl, rfl, rfl⟩ := hcs
    simp only [if_true] at hmm
    subst hmm
    have hc3 : Tryd.prog.cellsOf 31 = 3 := by kernel_rfl
    have each : ∀ i, i < len → ∃ q : Ac, w.cell? (a.add (i * 3)) = some (.int .i64 q.dd) ∧ w.cell? (a.add (i * 3 + 1)) = some (.int .i64 q.i) ∧ w.cell? (a.add (i * 3 + 2)) = some (.int .u64 (q.t : Nat)) ∧ Wi q.i ∧ q.t < 2 ^ 64 := by
      intro i hi
      obtain ⟨cs', h1, h2⟩ := hx i (by omega)
      rw [hc3] at h1
      obtain ⟨_, hlen, hcell⟩ := World.cells?_some h1
      obtain ⟨y0, y1, y2, k, _, _, g0, g1, g2⟩ := trod_struct3 Tryd.underlying31 h2
      match cs', hlen with
      | [v0, v1, v2], _ =>
        have c1 : Tryd.prog.cellsOf 3 = 1 := by kernel_rfl
        have c2 : Tryd.prog.cellsOf 22 = 1 := by kernel_rfl
        simp [c1, c2] at g0 g1 g2
        obtain ⟨e0, q0, _, w0⟩ := DataW.trod_int Tryd.underlying3 g0
        obtain ⟨e1, q1, _, w1⟩ := DataW.trod_int Tryd.underlying3 g1
        obtain ⟨e2, q2, _, w2⟩ := DataW.trod_int Tryd.underlying22 g2
        have b1 := bounds_of w1
        have b2 := bounds_of w2
        have d1 : Wi e1 := b1
        have d2 : e2 ≤ 18446744073709551615 := b2.2
        obtain ⟨t2, rfl⟩ := Int.eq_ofNat_of_zero_le b2.1
        have q0 : v0 = .int .i64 e0 := by simpa using q0
        have q1 : v1 = .int .i64 e1 := by simpa using q1
        have q2 : v2 = .int .u64 (t2 : Int) := by simpa using q2
        subst q0 q1 q2
        have r0 := hcell 0 (by omega)
        have r1 := hcell 1 (by omega)
        have r2 := hcell 2 (by omega)
        rw [add_add] at r0 r1 r2
        exact ⟨⟨e0, e1, t2⟩, by simpa using r0, by simpa using r1, by simpa using r2, d1, (by omega : t2 < 2 ^ 64)⟩
    obtain ⟨q, hq⟩ := choose_lt each
    have wb : ∀ j, j < len → Wi (q j).i ∧ (q j).t < 2 ^ 64 := fun j hj => (hq j hj).2.2.2
    by_cases h0 : len = 0
    · exact ⟨some a, len, _, q, rfl, by unfold maxLen at hm; omega, Or.inl h0, wb⟩
    · obtain ⟨b, off, spot⟩ := a
      have hspot : spot = none := by
        have := World.cell?_spot (hq 0 (by omega)).1
        simpa [Addr.add] using this
      subst hspot
      refine ⟨_, len, _, q, rfl, by unfold maxLen at hm; omega, Or.inr ⟨b, off, rfl, ?_, fun j hj => ?_⟩, wb⟩
      · have := World.block_lt_of_cell? w _ (hq 0 (by omega)).1
        simpa [Addr.add] using this
      · obtain ⟨h1, h2, h3, _⟩ := hq j hj
        simp only [Addr.add_lit] at h1 h2 h3
        exact ⟨by simpa [Nat.add_assoc] using h1, by simpa [Nat.add_assoc] using h2, by simpa [Nat.add_assoc] using h3⟩
end Go.Proofs.YtjkhgpdhhnfmlaaDoor
