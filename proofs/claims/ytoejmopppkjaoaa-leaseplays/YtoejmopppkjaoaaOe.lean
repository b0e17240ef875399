/- Opening what came in: slices of int and of uint64, a slice of acts (they lie as leases do). -/
import Derived.Test.YtoejmopppkjaoaaTa
import Derived.Test.YtoejmopppkjaoaaRw
import Derived.Test.YtoejmopppkjaoaaPair
import Derived.Test.YtoejmopppkjaoaaPost
import Derived.Deep.SlicePairs
import Derived.Deep.Strs
namespace Go.Proofs.Ytoejmopppkjaoaa
open Go.RowKit Go.WideShapes Go.ChangeShapes Go.Deep

def mk {α : Type} (n : Nat) (f : Nat → α) : List α := (List.range n).map f
theorem mk_len {α : Type} (n : Nat) (f : Nat → α) : (mk n f).length = n := by unfold mk; simp
theorem mk_at {α : Type} (n : Nat) (f : Nat → α) (j : Nat) (h : j < (mk n f).length) : (mk n f)[j] = f j := by simp [mk]
/-- numbers, cell by cell. -/
def ci (l : List Int) : List Value := l.map (fun x => .int .i64 x)
def cu (l : List Nat) : List Value := l.map (fun x => .int .u64 (x : Nat))
theorem ci_at (l : List Int) (j : Nat) (h : j < l.length) : (ci l)[j]? = some (.int .i64 l[j]) := by unfold ci; simp [h]
theorem cu_at (l : List Nat) (j : Nat) (h : j < l.length) : (cu l)[j]? = some (.int .u64 (l[j] : Nat)) := by unfold cu; simp [h]
theorem lies_map {α : Type} {w : World} {ao : Option Addr} {l : List α} {f : α → Value} (h : Lies w ao (l.map f)) {j : Nat} (hj : j < l.length) : ∃ b off, ao = some ⟨b, off, none⟩ ∧ w.cell? ⟨b, off + j, none⟩ = some (f l[j]) := by
  rcases h with h | ⟨b, off, e, _, hc⟩
  · have := List.map_eq_nil_iff.1 h
    subst this
    cases hj
  · exact ⟨b, off, e, hc j _ (by simp [hj])⟩
set_option maxRecDepth 100000 in
theorem open_js {H : Type} {enc : TypeId × Value → H} {w : World} {r : Reach} {b0 : Nat} {v : Value} {d : DataW H} {p : List MemPlace}
    (hv : Value.okWide Try.prog w r b0 51 v) (h : DataW.Trod enc Try.prog w 0 (fun _ => true) true 51 v d p) :
    ∃ ao cap l, v = .slice ao l.length cap ∧ l.length ≤ 9223372036854775807 ∧ Lies w ao (ci l) ∧ ∀ x ∈ l, Wi x := by
  obtain ⟨a0, len, cap, rfl⟩ := okWide_slice Try.underlying51 hv
  obtain ⟨fuel, hf⟩ := h
  rcases open_ints Try.underlying51 Try.underlying3 (by kernel_rfl) hf with ⟨hcs, _⟩ | ⟨a, len', cap', zs, hcs, _, hl, hm, hz, _, hcell, hwf⟩
  · simp [Value.cells] at hcs
    obtain ⟨rfl, rfl, rfl⟩ := hcs
    exact ⟨none, 0, [], rfl, by simp, Or.inl rfl, fun _ h => by cases h⟩
  · simp [Value.cells] at hcs
    obtain ⟨rfl, rfl, rfl⟩ := hcs
    simp only [if_true] at hz
    have hlen : (zs.take len).length = len := by rw [List.length_take]; omega
    refine ⟨some a, cap, zs.take len, by rw [hlen], by rw [hlen]; unfold maxLen at hm; omega, ?_, fun x hx => ?_⟩
    · by_cases h0 : len = 0
      · left; subst h0; rfl
      · obtain ⟨b, off, spot⟩ := a
        have hspot : spot = none := by simpa [Addr.add] using World.cell?_spot (hcell 0 (by omega))
        subst hspot
        refine Or.inr ⟨b, off, rfl, ?_, fun j u hj => ?_⟩
        · have := World.block_lt_of_cell? w _ (hcell 0 (by omega))
          simpa [Addr.add] using this
        · have hj2 : j < (zs.take len).length := by
            rcases Nat.lt_or_ge j (zs.take len).length with g | g
            · exact g
            · rw [List.getElem?_eq_none (by unfold ci; simpa using g)] at hj; cases hj
          rw [ci_at _ j hj2] at hj
          have hj3 : j < zs.length := by rw [hlen] at hj2; omega
          have := hcell j hj3
          rw [Addr.add_lit] at this
          rw [this, ← hj]
          simp [List.getD, hj3]
    · have b := bounds_of (hwf x (List.mem_of_mem_take hx))
      exact ⟨b.1, b.2⟩
set_option maxRecDepth 100000 in
theorem open_us {H : Type} {enc : TypeId × Value → H} {w : World} {r : Reach} {b0 : Nat} {v : Value} {d : DataW H} {p : List MemPlace}
    (hv : Value.okWide Try.prog w r b0 53 v) (h : DataW.Trod enc Try.prog w 0 (fun _ => true) true 53 v d p) :
    ∃ ao cap l, v = .slice ao l.length cap ∧ l.length ≤ 9223372036854775807 ∧ Lies w ao (cu l) ∧ ∀ x ∈ l, x < 18446744073709551616 := by
  obtain ⟨a0, len, cap, rfl⟩ := okWide_slice Try.underlying53 hv
  obtain ⟨fuel, hf⟩ := h
  rcases open_ints Try.underlying53 Try.underlying29 (by kernel_rfl) hf with ⟨hcs, _⟩ | ⟨a, len', cap', zs, hcs, _, hl, hm, hz, _, hcell, hwf⟩
  · simp [Value.cells] at hcs
    obtain ⟨rfl, rfl, rfl⟩ := hcs
    exact ⟨none, 0, [], rfl, by simp, Or.inl rfl, fun _ h => by cases h⟩
  · simp [Value.cells] at hcs
    obtain ⟨rfl, rfl, rfl⟩ := hcs
    simp only [if_true] at hz
    have hb : ∀ x ∈ zs, 0 ≤ x ∧ x ≤ 18446744073709551615 := fun x hx => bounds_of (hwf x hx)
    have hlen : ((zs.take len).map Int.toNat).length = len := by rw [List.length_map, List.length_take]; omega
    refine ⟨some a, cap, (zs.take len).map Int.toNat, by rw [hlen], by rw [hlen]; unfold maxLen at hm; omega, ?_, fun x hx => ?_⟩
    · by_cases h0 : len = 0
      · left; subst h0; rfl
      · obtain ⟨b, off, spot⟩ := a
        have hspot : spot = none := by simpa [Addr.add] using World.cell?_spot (hcell 0 (by omega))
        subst hspot
        refine Or.inr ⟨b, off, rfl, ?_, fun j u hj => ?_⟩
        · have := World.block_lt_of_cell? w _ (hcell 0 (by omega))
          simpa [Addr.add] using this
        · have hj2 : j < ((zs.take len).map Int.toNat).length := by
            rcases Nat.lt_or_ge j ((zs.take len).map Int.toNat).length with g | g
            · exact g
            · rw [List.getElem?_eq_none (by unfold cu; simpa using g)] at hj; cases hj
          rw [cu_at _ j hj2] at hj
          have hj3 : j < zs.length := by rw [hlen] at hj2; omega
          have := hcell j hj3
          rw [Addr.add_lit] at this
          rw [this, ← hj]
          have := hb zs[j] (List.getElem_mem _)
          simp [List.getD, hj3]
          omega
    · obtain ⟨y, hy, rfl⟩ := List.mem_map.1 hx
      have := hb y (List.mem_of_mem_take hy)
      omega
set_option maxRecDepth 100000 in
theorem open_acts {H : Type} {enc : TypeId × Value → H} {w : World} {r : Reach} {b0 : Nat} {v : Value} {d : DataW H} {p : List MemPlace}
    (hv : Value.okWide Try.prog w r b0 22 v) (h : DataW.Trod enc Try.prog w 0 (fun _ => true) true 22 v d p) :
    ∃ ao cap l, v = .slice ao l.length cap ∧ l.length ≤ 9223372036854775807 ∧ Lies w ao (cg l) ∧ ∀ x ∈ l, Wi x.n ∧ Wi x.j ∧ x.u < 18446744073709551616 := by
  obtain ⟨a0, len, cap, rfl⟩ := okWide_slice Try.underlying22 hv
  obtain ⟨fuel, hf⟩ := h
  rcases open_slice Try.underlying22 hf with ⟨hcs, _⟩ | ⟨a, len', cap', m, n, D, Pl, hcs, _, hl, hm, hmm, _, hx⟩
  · simp [Value.cells] at hcs
    obtain ⟨rfl, rfl, rfl⟩ := hcs
    exact ⟨none, 0, [], rfl, by simp, Or.inl rfl, fun _ h => by cases h⟩
  · simp [Value.cells] at hcs
    obtain ⟨rfl, rfl, rfl⟩ := hcs
    simp only [if_true] at hmm
    subst hmm
    have hc2 : Try.prog.cellsOf 31 = 3 := by kernel_rfl
    have each : ∀ i, i < len → ∃ q : Gr, (w.cell? (a.add (i * 3)) = some (.int .i64 q.n) ∧ w.cell? (a.add (i * 3 + 1)) = some (.int .i64 q.j) ∧ w.cell? (a.add (i * 3 + 2)) = some (.int .u64 (q.u : Nat))) ∧ Wi q.n ∧ Wi q.j ∧ q.u < 18446744073709551616 := by
      intro i hi
      obtain ⟨cs', h1, h2⟩ := hx i (by omega)
      rw [hc2] at h1
      obtain ⟨_, hlen, hcell⟩ := World.cells?_some h1
      obtain ⟨z0, z1, z2, k2, _, _, g3, g4, g5⟩ := trod_struct3 Try.underlying31 h2
      match cs', hlen with
      | [v0, v1, v2], _ =>
        have c1 : Try.prog.cellsOf 3 = 1 := by kernel_rfl
        have c2 : Try.prog.cellsOf 29 = 1 := by kernel_rfl
        simp [c1, c2] at g3 g4 g5
        obtain ⟨e2, q2, _, w2⟩ := DataW.trod_int Try.underlying3 g3
        obtain ⟨e3, q3, _, w3⟩ := DataW.trod_int Try.underlying3 g4
        obtain ⟨e4, q4, _, w4⟩ := DataW.trod_int Try.underlying29 g5
        have b2 := bounds_of w2
        have b3 := bounds_of w3
        have b4 := bounds_of w4
        obtain ⟨t4, rfl⟩ := Int.eq_ofNat_of_zero_le b4.1
        have q2 : v0 = .int .i64 e2 := by simpa using q2
        have q3 : v1 = .int .i64 e3 := by simpa using q3
        have q4 : v2 = .int .u64 (t4 : Int) := by simpa using q4
        subst q2 q3 q4
        have r0 := hcell 0 (by omega)
        have r1 := hcell 1 (by omega)
        have r2 := hcell 2 (by omega)
        rw [add_add] at r0 r1 r2
        have b4' : (t4 : Int) ≤ 18446744073709551615 := b4.2
        exact ⟨⟨e2, e3, t4⟩, ⟨by simpa using r0, by simpa using r1, by simpa using r2⟩, ⟨b2.1, b2.2⟩, ⟨b3.1, b3.2⟩, by show t4 < _; omega⟩
    obtain ⟨q, hq⟩ := choose_lt each
    have hlen := mk_len len q
    refine ⟨some a, _, mk len q, by rw [hlen], by rw [hlen]; unfold maxLen at hm; omega, ?_, fun x hx => ?_⟩
    · by_cases h0 : len = 0
      · left; subst h0; rfl
      · obtain ⟨b, off, spot⟩ := a
        have hspot : spot = none := by
          have := World.cell?_spot (hq 0 (by omega)).1.1
          simpa [Addr.add] using this
        subst hspot
        refine Or.inr ⟨b, off, rfl, ?_, fun j u hj => ?_⟩
        · have := World.block_lt_of_cell? w _ (hq 0 (by omega)).1.1
          simpa [Addr.add] using this
        · obtain ⟨k, hk, hor⟩ := cg_cases hj
          rw [mk_at] at hor
          rw [hlen] at hk
          have := (hq k hk).1
          simp only [Addr.add_lit] at this
          rcases hor with ⟨rfl, rfl⟩ | ⟨rfl, rfl⟩ | ⟨rfl, rfl⟩
          · exact this.1
          · exact this.2.1
          · exact this.2.2
    · unfold mk at hx
      obtain ⟨j, hj, rfl⟩ := List.mem_map.1 hx
      exact (hq j (List.mem_range.1 hj)).2
end Go.Proofs.Ytoejmopppkjaoaa
