/- Opening a slice of timers that came in. -/
import Derived.Test.YtjkhgpdhhnfmlaaPb
import Derived.Test.YtjkhgpdhhnfmlaaPost
import Derived.Deep.SlicePairs
import Derived.Deep.Strs
namespace Go.Proofs.Ytjkhgpdhhnfmlaa
open Go.RowKit Go.WideShapes Go.ChangeShapes Go.Deep
open RG (Du)
open PM

instance duInhabited : Inhabited Du := ⟨⟨0, 0⟩⟩
/-- timers told by a function, as a list. -/
def mk (n : Nat) (f : Nat → Du) : List Du := (List.range n).map f
theorem mk_len (n : Nat) (f : Nat → Du) : (mk n f).length = n := by unfold mk; simp
theorem mk_at (n : Nat) (f : Nat → Du) (j : Nat) (h : j < (mk n f).length) : (mk n f)[j] = f j := by simp [mk]
theorem cd_cases {l : List Du} {j : Nat} {u : Value} (h : (cd l)[j]? = some u) : ∃ k, ∃ hk : k < l.length, (j = k * 2 ∧ u = .int .i64 l[k].id) ∨ (j = k * 2 + 1 ∧ u = .int .u64 (l[k].t : Nat)) := by
  have hj : j < (cd l).length := by
    rcases Nat.lt_or_ge j (cd l).length with g | g
    · exact g
    · rw [List.getElem?_eq_none g] at h; cases h
  rw [cd_len] at hj
  refine ⟨j / 2, by omega, ?_⟩
  rcases Nat.mod_two_eq_zero_or_one j with e | e
  · left
    have h2 : j = j / 2 * 2 := by omega
    refine ⟨h2, ?_⟩
    have := cd_id l (j / 2) (by omega)
    rw [← h2, h] at this
    exact Option.some.inj this
  · right
    have h2 : j = j / 2 * 2 + 1 := by omega
    refine ⟨h2, ?_⟩
    have := cd_t l (j / 2) (by omega)
    rw [← h2, h] at this
    exact Option.some.inj this
theorem open_dues {H : Type} {enc : TypeId × Value → H} {w : World} {r : Reach} {b0 : Nat} {v : Value} {d : DataW H} {p : List MemPlace}
    (hv : Value.okWide Try.prog w r b0 22 v) (h : DataW.Trod enc Try.prog w 0 (fun _ => true) true 22 v d p) :
    ∃ ao cap l, v = .slice ao l.length cap ∧ l.length ≤ 9223372036854775807 ∧ l.length ≤ cap ∧ (ao = none → l.length = 0) ∧ Lies w ao (cd l) ∧ Wis l ∧ ∀ d ∈ l, d.t < 18446744073709551616 := by
  obtain ⟨a0, len, cap, rfl⟩ := okWide_slice Try.underlying22 hv
  obtain ⟨fuel, hf⟩ := h
  rcases open_slice Try.underlying22 hf with ⟨hcs, _⟩ | ⟨a, len', cap', m, n, D, Pl, hcs, _, hl, hm, hmm, _, hx⟩
  · simp [Value.cells] at hcs
    obtain ⟨rfl, rfl, rfl⟩ := hcs
    exact ⟨none, 0, [], rfl, by simp, by simp, fun _ => rfl, Or.inl rfl, fun d hd => (by cases hd), fun d hd => (by cases hd)⟩
  · simp [Value.cells] at hcs
    obtain ⟨rfl, rfl, rfl⟩ := hcs
    simp only [if_true] at hmm
    subst hmm
    have hc2 : Try.prog.cellsOf 25 = 2 := by kernel_rfl
    have each : ∀ i, i < len → ∃ q : Du, (w.cell? (a.add (i * 2)) = some (.int .i64 q.id) ∧ w.cell? (a.add (i * 2 + 1)) = some (.int .u64 (q.t : Nat))) ∧ Wi q.id ∧ q.t < 18446744073709551616 := by
      intro i hi
      obtain ⟨cs', h1, h2⟩ := hx i (by omega)
      rw [hc2] at h1
      obtain ⟨_, hlen, hcell⟩ := World.cells?_some h1
      obtain ⟨z0, z1, k2, _, _, g3, g4⟩ := trod_struct2 Try.underlying25 h2
      match cs', hlen with
      | [v0, v1], _ =>
        have c1 : Try.prog.cellsOf 3 = 1 := by kernel_rfl
        have c3 : Try.prog.cellsOf 23 = 1 := by kernel_rfl
        simp [c1, c3] at g3 g4
        obtain ⟨e2, q2, _, w2⟩ := DataW.trod_int Try.underlying3 g3
        obtain ⟨e3, q3, _, w3⟩ := DataW.trod_int Try.underlying23 g4
        have b2 := bounds_of w2
        have b3 := bounds_of w3
        obtain ⟨t3, rfl⟩ := Int.eq_ofNat_of_zero_le b3.1
        have q2 : v0 = .int .i64 e2 := by simpa using q2
        have q3 : v1 = .int .u64 (t3 : Int) := by simpa using q3
        subst q2 q3
        have r0 := hcell 0 (by omega)
        have r1 := hcell 1 (by omega)
        rw [add_add] at r0 r1
        have b3' : (t3 : Int) ≤ 18446744073709551615 := b3.2
        exact ⟨⟨e2, t3⟩, ⟨by simpa using r0, by simpa using r1⟩, ⟨b2.1, b2.2⟩, by show t3 < _; omega⟩
    obtain ⟨q, hq⟩ := choose_lt each
    have hlen := mk_len len q
    refine ⟨some a, _, mk len q, by rw [hlen], by rw [hlen]; unfold maxLen at hm; omega, by rw [hlen]; omega, fun e => (by cases e), ?_, fun d hd => ?_, fun d hd => ?_⟩
    · by_cases h0 : len = 0
      · left; subst h0; rfl
      · obtain ⟨b, off, spot⟩ := a
        have hspot : spot = none := by
          have := World.cell?_spot (hq 0 (by omega)).1.1
          simpa [Addr.add] using this
        subst hspot
        refine Or.inr ⟨b, off, rfl, ?_, fun j u hj => ?_⟩
        · have := World.block_lt_of_cell? w _ (hq 0 (by omega)).1.1
          simpa [Addr.add] using this
        · obtain ⟨k, hk, hor⟩ := cd_cases hj
          rw [mk_at] at hor
          rw [hlen] at hk
          have := (hq k hk).1
          simp only [Addr.add_lit] at this
          rcases hor with ⟨rfl, rfl⟩ | ⟨rfl, rfl⟩
          · exact this.1
          · exact this.2
    · unfold mk at hd
      obtain ⟨j, hj, rfl⟩ := List.mem_map.1 hd
      exact (hq j (List.mem_range.1 hj)).2.1
    · unfold mk at hd
      obtain ⟨j, hj, rfl⟩ := List.mem_map.1 hd
      exact (hq j (List.mem_range.1 hj)).2.2
end Go.Proofs.Ytjkhgpdhhnfmlaa
