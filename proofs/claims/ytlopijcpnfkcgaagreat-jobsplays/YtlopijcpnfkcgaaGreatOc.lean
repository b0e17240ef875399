/- Opening what came in: a slice of acts, three numbers. -/
import Derived.Test.YtlopijcpnfkcgaaGreatLLm
import Derived.Test.YtlopijcpnfkcgaaGreatProg
import Derived.Test.YtlopijcpnfkcgaaGreatFt
import Derived.Test.YtlopijcpnfkcgaaGreatPair
import Derived.Deep.SlicePairs
import Derived.Deep.Strs
import Derived.Lib.SmallJoins
namespace Go.Proofs.YtlopijcpnfkcgaaGreat
open Go.RowKit Go.WideShapes Go.ChangeShapes Go.Deep

/-- a list told by a function. -/
def mk {α : Type} (n : Nat) (f : Nat → α) : List α := (List.range n).map f
theorem mk_len {α : Type} (n : Nat) (f : Nat → α) : (mk n f).length = n := by unfold mk; simp
theorem mk_at {α : Type} (n : Nat) (f : Nat → α) (j : Nat) (h : j < (mk n f).length) : (mk n f)[j] = f j := by simp [mk]
/-- an act that is done to a book. -/
structure Ac where
  d : Int
  i : Int
  c : Int
  t : Nat
  deriving Inhabited
/-- acts lie, four cells each. -/
def ALies (w : World) (ao : Option Addr) (l : List Ac) : Prop :=
  l = [] ∨ ∃ b off, ao = some ⟨b, off, none⟩ ∧ b < w.heap.size ∧ ∀ j (hj : j < l.length), w.cell? ⟨b, off + j * 4, none⟩ = some (.int .i64 l[j].d) ∧ w.cell? ⟨b, off + (j * 4 + 1), none⟩ = some (.int .i64 l[j].i) ∧ w.cell? ⟨b, off + (j * 4 + 2), none⟩ = some (.int .i64 l[j].c) ∧ w.cell? ⟨b, off + (j * 4 + 3), none⟩ = some (.int .u64 (l[j].t : Nat))
theorem ALies.at {w : World} {ao : Option Addr} {l : List Ac} (h : ALies w ao l) {j : Nat} (hj : j < l.length) : ∃ b off, ao = some ⟨b, off, none⟩ ∧ b < w.heap.size ∧ w.cell? ⟨b, off + j * 4, none⟩ = some (.int .i64 l[j].d) ∧ w.cell? ⟨b, off + j * 4 + 1, none⟩ = some (.int .i64 l[j].i) ∧ w.cell? ⟨b, off + j * 4 + 2, none⟩ = some (.int .i64 l[j].c) ∧ w.cell? ⟨b, off + j * 4 + 3, none⟩ = some (.int .u64 (l[j].t : Nat)) := by
  rcases h with h | ⟨b, off, e, hb, hc⟩
  · subst h; cases hj
  · exact ⟨b, off, e, hb, hc j hj⟩
theorem ALies.later {w x : World} {ao : Option Addr} {l : List Ac} (h : ALies w ao l) (g : Grw w x) : ALies x ao l := by
  rcases h with h | ⟨b, off, e, hb, hc⟩
  · exact Or.inl h
  · exact Or.inr ⟨b, off, e, Nat.lt_of_lt_of_le hb (Below.size g), fun j hj => ⟨g.cell (hc j hj).1, g.cell (hc j hj).2.1, g.cell (hc j hj).2.2.1, g.cell (hc j hj).2.2.2⟩⟩
set_option maxRecDepth 100000 in
theorem open_acts {H : Type} {enc : TypeId × Value → H} {w : World} {r : Reach} {b0 : Nat} {v : Value} {d : DataW H} {p : List MemPlace}
    (hv : Value.okWide Tryz.prog w r b0 24 v) (h : DataW.Trod enc Tryz.prog w 0 (fun _ => true) true 24 v d p) :
    ∃ ao cap l, v = .slice ao l.length cap ∧ l.length ≤ 9223372036854775807 ∧ ALies w ao l ∧ ∀ x ∈ l, LE.Wi x.i ∧ x.t < 18446744073709551616 := by
  obtain ⟨a0, len, cap, rfl⟩ := okWide_slice Tryz.underlying24 hv
  obtain ⟨fuel, hf⟩ := h
  rcases open_slice Tryz.underlying24 hf with ⟨hcs, _⟩ | ⟨a, len', cap', m, n, D, Pl, hcs, _, hl, hm, hmm, _, hx⟩
  · simp [Value.cells] at hcs
    obtain ⟨rfl, rfl, rfl⟩ := hcs
    exact ⟨none, 0, [], rfl, by simp, Or.inl rfl, fun _ h => by cases h⟩
  · simp [Value.cells] at hcs
    obtain ⟨rfl, rfl, rfl⟩ := hcs
    simp only [if_true] at hmm
    subst hmm
    have hc2 : Tryz.prog.cellsOf 33 = 4 := by kernel_rfl
    have each : ∀ i, i < len → ∃ q : Ac, (w.cell? (a.add (i * 4)) = some (.int .i64 q.d) ∧ w.cell? (a.add (i * 4 + 1)) = some (.int .i64 q.i) ∧ w.cell? (a.add (i * 4 + 2)) = some (.int .i64 q.c) ∧ w.cell? (a.add (i * 4 + 3)) = some (.int .u64 (q.t : Nat))) ∧ LE.Wi q.i ∧ q.t < 18446744073709551616 := by
      intro i hi
      obtain ⟨cs', h1, h2⟩ := hx i (by omega)
      rw [hc2] at h1
      obtain ⟨_, hlen, hcell⟩ := World.cells?_some h1
      obtain ⟨z0, z1, z2, z3, k2, _, _, g3, g4, g5, g6⟩ := Joins.trod_struct4 Tryz.underlying33 h2
      match cs', hlen with
      | [v0, v1, v2, v3], _ =>
        have c1 : Tryz.prog.cellsOf 3 = 1 := by kernel_rfl
        have c2 : Tryz.prog.cellsOf 31 = 1 := by kernel_rfl
        simp [c1, c2] at g3 g4 g5 g6
        obtain ⟨e2, q2, _, w2⟩ := DataW.trod_int Tryz.underlying3 g3
        obtain ⟨e3, q3, _, w3⟩ := DataW.trod_int Tryz.underlying3 g4
        obtain ⟨e4, q4, _, w4⟩ := DataW.trod_int Tryz.underlying3 g5
        obtain ⟨e5, q5, _, w5⟩ := DataW.trod_int Tryz.underlying31 g6
        have b3 := bounds_of w3
        have b5 := bounds_of w5
        obtain ⟨t5, rfl⟩ := Int.eq_ofNat_of_zero_le b5.1
        have q2 : v0 = .int .i64 e2 := by simpa using q2
        have q3 : v1 = .int .i64 e3 := by simpa using q3
        have q4 : v2 = .int .i64 e4 := by simpa using q4
        have q5 : v3 = .int .u64 (t5 : Int) := by simpa using q5
        subst q2 q3 q4 q5
        have r0 := hcell 0 (by omega)
        have r1 := hcell 1 (by omega)
        have r2 := hcell 2 (by omega)
        have r3 := hcell 3 (by omega)
        rw [add_add] at r0 r1 r2 r3
        have b5' : (t5 : Int) ≤ 18446744073709551615 := b5.2
        exact ⟨⟨e2, e3, e4, t5⟩, ⟨by simpa using r0, by simpa using r1, by simpa using r2, by simpa using r3⟩, ⟨b3.1, b3.2⟩, by show t5 < _; omega⟩
    obtain ⟨q, hq⟩ := choose_lt each
    have hlen := mk_len len q
    refine ⟨some a, _, mk len q, by rw [hlen], by rw [hlen]; unfold maxLen at hm; omega, ?_, fun x hx => ?_⟩
    · by_cases h0 : len = 0
      · left; subst h0; rfl
      · obtain ⟨b, off, spot⟩ := a
        have hspot : spot = none := by
          have := World.cell?_spot (hq 0 (by omega)).1.1
          simpa [Addr.add] using this
        subst hspot
        refine Or.inr ⟨b, off, rfl, ?_, fun j hj => ?_⟩
        · have := World.block_lt_of_cell? w _ (hq 0 (by omega)).1.1
          simpa [Addr.add] using this
        · rw [mk_at]
          rw [hlen] at hj
          have := (hq j hj).1
          simp only [Addr.add_lit] at this
          exact this
    · unfold mk at hx
      obtain ⟨j, hj, rfl⟩ := List.mem_map.1 hx
      exact (hq j (List.mem_range.1 hj)).2
end Go.Proofs.YtlopijcpnfkcgaaGreat

/- Opening what came in: three numbers. -/
namespace Go.Proofs.YtlopijcpnfkcgaaGreat
open Go.RowKit Go.WideShapes Go.ChangeShapes Go.Deep
set_option maxRecDepth 100000 in
theorem open_asked {H : Type} {enc : TypeId × Value → H} {w : World} {base : Nat} {spare : Nat → Bool} {held : Bool} {r : Reach} {b0 : Nat} {v : Value} {d : DataW H} {p : List MemPlace}
    (hv : Value.okWide Tryz.prog w r b0 23 v) (h : DataW.Trod enc Tryz.prog w base spare held 23 v d p) :
    ∃ i c m : Int, v = .agg #[.int .i64 i, .int .i64 c, .int .i64 m] := by
  obtain ⟨v0, v1, v2, y0, y1, y2, n, rfl, _, _, g0, g1, g2⟩ := Joins.open_agg3 Tryz.underlying23 (by kernel_rfl) (by kernel_rfl) hv h
  obtain ⟨a, e0, _, _⟩ := DataW.trod_int Tryz.underlying3 g0
  obtain ⟨b, e1, _, _⟩ := DataW.trod_int Tryz.underlying3 g1
  obtain ⟨c, e2, _, _⟩ := DataW.trod_int Tryz.underlying3 g2
  have e0 : v0 = .int .i64 a := by simpa using e0
  have e1 : v1 = .int .i64 b := by simpa using e1
  have e2 : v2 = .int .i64 c := by simpa using e2
  subst e0 e1 e2
  exact ⟨a, b, c, rfl⟩
end Go.Proofs.YtlopijcpnfkcgaaGreat
