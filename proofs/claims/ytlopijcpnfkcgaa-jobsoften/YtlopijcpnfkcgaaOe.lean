/- Opening what came in: two numbers of type uint16, a slice of bytes, a slice of acts. -/
import Derived.Test.YtlopijcpnfkcgaaLLm
import Derived.Test.YtlopijcpnfkcgaaProg
import Derived.Test.YtlopijcpnfkcgaaFt
import Derived.Test.YtlopijcpnfkcgaaPair
import Derived.Test.YtlopijcpnfkcgaaPost
import Derived.Deep.SlicePairs
import Derived.Deep.Strs
import Derived.Lib.SmallJoins
namespace Go.Proofs.Ytlopijcpnfkcgaa
open Go.RowKit Go.WideShapes Go.ChangeShapes Go.Deep

/-- two numbers of a kind that has no sign. -/
theorem arr2u {k : IntKind} {M : Nat} (hk : k.min = 0) (hM : k.max = (M : Int)) (cs : Array Value) (f : Nat → Int) (hs : cs.size = 2) (hc : ∀ i, i < 2 → cs[i]? = some (.int k (f i)) ∧ (Lit.int k (f i)).wf = true) :
    ∃ a b : Nat, cs = #[.int k (a : Nat), .int k (b : Nat)] ∧ a ≤ M ∧ b ≤ M := by
  have hb : ∀ i, i < 2 → 0 ≤ f i ∧ f i ≤ M := fun i hi => by have := bounds_of (hc i hi).2; rw [hk, hM] at this; exact this
  have b0 := hb 0 (by omega)
  have b1 := hb 1 (by omega)
  refine ⟨(f 0).toNat, (f 1).toNat, ?_, by omega, by omega⟩
  apply Array.ext_getElem?
  intro i
  by_cases h : i < 2
  · rw [(hc i h).1]
    rcases i with _ | _ | i
    · simp; omega
    · simp; omega
    · omega
  · rw [Array.getElem?_eq_none (by omega), Array.getElem?_eq_none (by simp; omega)]
/-- a list told by a function. -/
def mk {α : Type} (n : Nat) (f : Nat → α) : List α := (List.range n).map f
theorem mk_len {α : Type} (n : Nat) (f : Nat → α) : (mk n f).length = n := by unfold mk; simp
theorem mk_at {α : Type} (n : Nat) (f : Nat → α) (j : Nat) (h : j < (mk n f).length) : (mk n f)[j] = f j := by simp [mk]
/-- bytes, cell by cell. -/
def cb (l : List Nat) : List Value := l.map (fun x => .int .u8 (x : Nat))
theorem cb_at (l : List Nat) (j : Nat) (h : j < l.length) : (cb l)[j]? = some (.int .u8 (l[j] : Nat)) := by unfold cb; simp [h]
theorem lies_map {α : Type} {w : World} {ao : Option Addr} {l : List α} {f : α → Value} (h : Lies w ao (l.map f)) {j : Nat} (hj : j < l.length) : ∃ b off, ao = some ⟨b, off, none⟩ ∧ w.cell? ⟨b, off + j, none⟩ = some (f l[j]) := by
  rcases h with h | ⟨b, off, e, _, hc⟩
  · have := List.map_eq_nil_iff.1 h
    subst this
    cases hj
  · exact ⟨b, off, e, hc j _ (by simp [hj])⟩
set_option maxRecDepth 100000 in
theorem open_bs {H : Type} {enc : TypeId × Value → H} {w : World} {r : Reach} {b0 : Nat} {v : Value} {d : DataW H} {p : List MemPlace}
    (hv : Value.okWide Try.prog w r b0 45 v) (h : DataW.Trod enc Try.prog w 0 (fun _ => true) true 45 v d p) :
    ∃ ao cap l, v = .slice ao l.length cap ∧ l.length ≤ 9223372036854775807 ∧ Lies w ao (cb l) ∧ ∀ x ∈ l, x < 256 := by
  obtain ⟨a0, len, cap, rfl⟩ := okWide_slice Try.underlying45 hv
  obtain ⟨fuel, hf⟩ := h
  rcases open_ints Try.underlying45 Try.underlying5 (by kernel_rfl) hf with ⟨hcs, _⟩ | ⟨a, len', cap', zs, hcs, _, hl, hm, hz, _, hcell, hwf⟩
  · simp [Value.cells] at hcs
    obtain ⟨rfl, rfl, rfl⟩ := hcs
    exact ⟨none, 0, [], rfl, by simp, Or.inl rfl, fun _ h => by cases h⟩
  · simp [Value.cells] at hcs
    obtain ⟨rfl, rfl, rfl⟩ := hcs
    simp only [if_true] at hz
    have hb : ∀ x ∈ zs, 0 ≤ x ∧ x ≤ 255 := fun x hx => bounds_of (hwf x hx)
    have hlen : ((zs.take len).map Int.toNat).length = len := by rw [List.length_map, List.length_take]; omega
    refine ⟨some a, cap, (zs.take len).map Int.toNat, by rw [hlen], by rw [hlen]; unfold maxLen at hm; omega, ?_, fun x hx => ?_⟩
    · by_cases h0 : len = 0
      · left; subst h0; rfl
      · obtain ⟨b, off, spot⟩ := a
        have hspot : spot = none := by simpa [Addr.add] using World.cell?_spot (hcell 0 (by omega))
        subst hspot
        refine Or.inr ⟨b, off, rfl, ?_, fun j u hj => ?_⟩
        · have := World.block_lt_of_cell? w _ (hcell 0 (by omega))
          simpa [Addr.add] using this
        · have hj2 : j < ((zs.take len).map Int.toNat).length := by
            rcases Nat.lt_or_ge j ((zs.take len).map Int.toNat).length with g | g
            · exact g
            · rw [List.getElem?_eq_none (by unfold cb; simpa using g)] at hj; cases hj
          rw [cb_at _ j hj2] at hj
          have hj3 : j < zs.length := by rw [hlen] at hj2; omega
          have := hcell j hj3
          rw [Addr.add_lit] at this
          rw [this, ← hj]
          have := hb zs[j] (List.getElem_mem _)
          simp [List.getD, hj3]
          omega
    · obtain ⟨y, hy, rfl⟩ := List.mem_map.1 hx
      have := hb y (List.mem_of_mem_take hy)
      omega
/-- an act that is done to a book. -/
structure Ac where
  d : Int
  i : Int
  c : Int
  t : Nat
  deriving Inhabited
/-- acts lie, four cells each. -/
def ALies (w : World) (ao : Option Addr) (l : List Ac) : Prop :=
  l = [] ∨ ∃ b off, ao = some ⟨b, off, none⟩ ∧ b < w.heap.size ∧ ∀ j (hj : j < l.length), w.cell? ⟨b, off + j * 4, none⟩ = some (.int .i64 l[j].d) ∧ w.cell? ⟨b, off + (j * 4 + 1), none⟩ = some (.int .i64 l[j].i) ∧ w.cell? ⟨b, off + (j * 4 + 2), none⟩ = some (.int .i64 l[j].c) ∧ w.cell? ⟨b, off + (j * 4 + 3), none⟩ = some (.int .u64 (l[j].t : Nat))
theorem ALies.at {w : World} {ao : Option Addr} {l : List Ac} (h : ALies w ao l) {j : Nat} (hj : j < l.length) : ∃ b off, ao = some ⟨b, off, none⟩ ∧ b < w.heap.size ∧ w.cell? ⟨b, off + j * 4, none⟩ = some (.int .i64 l[j].d) ∧ w.cell? ⟨b, off + j * 4 + 1, none⟩ = some (.int .i64 l[j].i) ∧ w.cell? ⟨b, off + j * 4 + 2, none⟩ = some (.int .i64 l[j].c) ∧ w.cell? ⟨b, off + j * 4 + 3, none⟩ = some (.int .u64 (l[j].t : Nat)) := by
  rcases h with h | ⟨b, off, e, hb, hc⟩
  · subst h; cases hj
  · exact ⟨b, off, e, hb, hc j hj⟩
theorem ALies.later {w x : World} {ao : Option Addr} {l : List Ac} (h : ALies w ao l) (g : Grw w x) : ALies x ao l := by
  rcases h with h | ⟨b, off, e, hb, hc⟩
  · exact Or.inl h
  · exact Or.inr ⟨b, off, e, Nat.lt_of_lt_of_le hb (Below.size g), fun j hj => ⟨g.cell (hc j hj).1, g.cell (hc j hj).2.1, g.cell (hc j hj).2.2.1, g.cell (hc j hj).2.2.2⟩⟩
set_option maxRecDepth 100000 in
theorem open_acts {H : Type} {enc : TypeId × Value → H} {w : World} {r : Reach} {b0 : Nat} {v : Value} {d : DataW H} {p : List MemPlace}
    (hv : Value.okWide Try.prog w r b0 22 v) (h : DataW.Trod enc Try.prog w 0 (fun _ => true) true 22 v d p) :
    ∃ ao cap l, v = .slice ao l.length cap ∧ l.length ≤ 9223372036854775807 ∧ ALies w ao l ∧ ∀ x ∈ l, LE.Wi x.i ∧ x.t < 18446744073709551616 := by
  obtain ⟨a0, len, cap, rfl⟩ := okWide_slice Try.underlying22 hv
  obtain ⟨fuel, hf⟩ := h
  rcases open_slice Try.underlying22 hf with ⟨hcs, _⟩ | ⟨a, len', cap', m, n, D, Pl, hcs, _, hl, hm, hmm, _, hx⟩
  · simp [Value.cells] at hcs
    obtain ⟨rfl, rfl, rfl⟩ := hcs
    exact ⟨none, 0, [], rfl, by simp, Or.inl rfl, fun _ h => by cases h⟩
  · simp [Value.cells] at hcs
    obtain ⟨rfl, rfl, rfl⟩ := hcs
    simp only [if_true] at hmm
    subst hmm
    have hc2 : Try.prog.cellsOf 28 = 4 := by kernel_rfl
    have each : ∀ i, i < len → ∃ q : Ac, (w.cell? (a.add (i * 4)) = some (.int .i64 q.d) ∧ w.cell? (a.add (i * 4 + 1)) = some (.int .i64 q.i) ∧ w.cell? (a.add (i * 4 + 2)) = some (.int .i64 q.c) ∧ w.cell? (a.add (i * 4 + 3)) = some (.int .u64 (q.t : Nat))) ∧ LE.Wi q.i ∧ q.t < 18446744073709551616 := by
      intro i hi
      obtain ⟨cs', h1, h2⟩ := hx i (by omega)
      rw [hc2] at h1
      obtain ⟨_, hlen, hcell⟩ := World.cells?_some h1
      obtain ⟨z0, z1, z2, z3, k2, _, _, g3, g4, g5, g6⟩ := Joins.trod_struct4 Try.underlying28 h2
      match cs', hlen with
      | [v0, v1, v2, v3], _ =>
        have c1 : Try.prog.cellsOf 3 = 1 := by kernel_rfl
        have c2 : Try.prog.cellsOf 26 = 1 := by kernel_rfl
        simp [c1, c2] at g3 g4 g5 g6
        obtain ⟨e2, q2, _, w2⟩ := DataW.trod_int Try.underlying3 g3
        obtain ⟨e3, q3, _, w3⟩ := DataW.trod_int Try.underlying3 g4
        obtain ⟨e4, q4, _, w4⟩ := DataW.trod_int Try.underlying3 g5
        obtain ⟨e5, q5, _, w5⟩ := DataW.trod_int Try.underlying26 g6
        have b3 := bounds_of w3
        have b5 := bounds_of w5
        obtain ⟨t5, rfl⟩ := Int.eq_ofNat_of_zero_le b5.1
        have q2 : v0 = .int .i64 e2 := by simpa using q2
        have q3 : v1 = .int .i64 e3 := by simpa using q3
        have q4 : v2 = .int .i64 e4 := by simpa using q4
        have q5 : v3 = .int .u64 (t5 : Int) := by simpa using q5
        subst q2 q3 q4 q5
        have r0 := hcell 0 (by omega)
        have r1 := hcell 1 (by omega)
        have r2 := hcell 2 (by omega)
        have r3 := hcell 3 (by omega)
        rw [add_add] at r0 r1 r2 r3
        have b5' : (t5 : Int) ≤ 18446744073709551615 := b5.2
        exact ⟨⟨e2, e3, e4, t5⟩, ⟨by simpa using r0, by simpa using r1, by simpa using r2, by simpa using r3⟩, ⟨b3.1, b3.2⟩, by show t5 < _; omega⟩
    obtain ⟨q, hq⟩ := choose_lt each
    have hlen := mk_len len q
    refine ⟨some a, _, mk len q, by rw [hlen], by rw [hlen]; unfold maxLen at hm; omega, ?_, fun x hx => ?_⟩
    · by_cases h0 : len = 0
      · left; subst h0; rfl
      · obtain ⟨b, off, spot⟩ := a
        have hspot : spot = none := by
          have := World.cell?_spot (hq 0 (by omega)).1.1
          simpa [Addr.add] using this
        subst hspot
        refine Or.inr ⟨b, off, rfl, ?_, fun j hj => ?_⟩
        · have := World.block_lt_of_cell? w _ (hq 0 (by omega)).1.1
          simpa [Addr.add] using this
        · rw [mk_at]
          rw [hlen] at hj
          have := (hq j hj).1
          simp only [Addr.add_lit] at this
          exact this
    · unfold mk at hx
      obtain ⟨j, hj, rfl⟩ := List.mem_map.1 hx
      exact (hq j (List.mem_range.1 hj)).2
end Go.Proofs.Ytlopijcpnfkcgaa
