/- Opening what came in: arrays of numbers, a waiting job, a slice of waiting jobs, a slice of pairs of numbers. -/
import Derived.Test.YtdindhmbofddoaaRw
import Derived.Test.YtdindhmbofddoaaWa
import Derived.Test.YtdindhmbofddoaaPair
import Derived.Deep.SlicePairs
import Derived.Deep.Strs
namespace Go.Proofs.Ytdindhmbofddoaa
open Go.RowKit Go.WideShapes Go.ChangeShapes Go.Deep

/-- two numbers of a kind that has no sign. -/
theorem arr2u {k : IntKind} {M : Nat} (hk : k.min = 0) (hM : k.max = (M : Int)) (cs : Array Value) (f : Nat → Int) (hs : cs.size = 2) (hc : ∀ i, i < 2 → cs[i]? = some (.int k (f i)) ∧ (Lit.int k (f i)).wf = true) :
    ∃ a b : Nat, cs = #[.int k (a : Nat), .int k (b : Nat)] ∧ a ≤ M ∧ b ≤ M := by
  have hb : ∀ i, i < 2 → 0 ≤ f i ∧ f i ≤ M := fun i hi => by have := bounds_of (hc i hi).2; rw [hk, hM] at this; exact this
  have b0 := hb 0 (by omega)
  have b1 := hb 1 (by omega)
  refine ⟨(f 0).toNat, (f 1).toNat, ?_, by omega, by omega⟩
  apply Array.ext_getElem?
  intro i
  by_cases h : i < 2
  · rw [(hc i h).1]
    rcases i with _ | _ | i
    · simp; omega
    · simp; omega
    · omega
  · rw [Array.getElem?_eq_none (by omega), Array.getElem?_eq_none (by simp; omega)]
/-- two numbers of type int. -/
theorem arr2i (cs : Array Value) (f : Nat → Int) (hs : cs.size = 2) (hc : ∀ i, i < 2 → cs[i]? = some (.int .i64 (f i)) ∧ (Lit.int .i64 (f i)).wf = true) :
    ∃ a b : Int, cs = #[.int .i64 a, .int .i64 b] := by
  refine ⟨f 0, f 1, ?_⟩
  apply Array.ext_getElem?
  intro i
  by_cases h : i < 2
  · rw [(hc i h).1]
    rcases i with _ | _ | i
    · simp
    · simp
    · omega
  · rw [Array.getElem?_eq_none (by omega), Array.getElem?_eq_none (by simp; omega)]
set_option maxRecDepth 100000 in
theorem open_wait {H : Type} {enc : TypeId × Value → H} {w : World} {base : Nat} {spare : Nat → Bool} {held : Bool} {r : Reach} {b0 : Nat} {v : Value} {d : DataW H} {p : List MemPlace}
    (hv : Value.okWide Try.prog w r b0 32 v) (h : DataW.Trod enc Try.prog w base spare held 32 v d p) :
    ∃ i c m : Int, v = .agg #[.int .i64 i, .int .i64 c, .int .i64 m] := by
  obtain ⟨v0, v1, v2, y0, y1, y2, n, rfl, _, _, g0, g1, g2⟩ := Joins.open_agg3 Try.underlying32 (by kernel_rfl) (by kernel_rfl) hv h
  obtain ⟨a, e0, _, _⟩ := DataW.trod_int Try.underlying3 g0
  obtain ⟨b, e1, _, _⟩ := DataW.trod_int Try.underlying3 g1
  obtain ⟨c, e2, _, _⟩ := DataW.trod_int Try.underlying3 g2
  have e0 : v0 = .int .i64 a := by simpa using e0
  have e1 : v1 = .int .i64 b := by simpa using e1
  have e2 : v2 = .int .i64 c := by simpa using e2
  subst e0 e1 e2
  exact ⟨a, b, c, rfl⟩
/-- a list told by a function. -/
def mk {α : Type} (n : Nat) (f : Nat → α) : List α := (List.range n).map f
theorem mk_len {α : Type} (n : Nat) (f : Nat → α) : (mk n f).length = n := by unfold mk; simp
theorem mk_at {α : Type} (n : Nat) (f : Nat → α) (j : Nat) (h : j < (mk n f).length) : (mk n f)[j] = f j := by simp [mk]
theorem cw_cases {l : List Wt} {j : Nat} {u : Value} (h : (cw l)[j]? = some u) : ∃ k, ∃ hk : k < l.length, (j = k * 3 ∧ u = .int .i64 l[k].id) ∨ (j = k * 3 + 1 ∧ u = .int .i64 l[k].cl) ∨ (j = k * 3 + 2 ∧ u = .int .i64 l[k].ca) := by
  have hj : j < (cw l).length := by
    rcases Nat.lt_or_ge j (cw l).length with g | g
    · exact g
    · rw [List.getElem?_eq_none g] at h; cases h
  rw [cw_len] at hj
  refine ⟨j / 3, by omega, ?_⟩
  rcases (by omega : j % 3 = 0 ∨ j % 3 = 1 ∨ j % 3 = 2) with e | e | e
  · left
    have h2 : j = j / 3 * 3 := by omega
    refine ⟨h2, ?_⟩
    have := cw_id l (j / 3) (by omega)
    rw [← h2, h] at this
    exact Option.some.inj this
  · right; left
    have h2 : j = j / 3 * 3 + 1 := by omega
    refine ⟨h2, ?_⟩
    have := cw_cl l (j / 3) (by omega)
    rw [← h2, h] at this
    exact Option.some.inj this
  · right; right
    have h2 : j = j / 3 * 3 + 2 := by omega
    refine ⟨h2, ?_⟩
    have := cw_ca l (j / 3) (by omega)
    rw [← h2, h] at this
    exact Option.some.inj this
set_option maxRecDepth 100000 in
theorem open_waits {H : Type} {enc : TypeId × Value → H} {w : World} {r : Reach} {b0 : Nat} {v : Value} {d : DataW H} {p : List MemPlace}
    (hv : Value.okWide Try.prog w r b0 22 v) (h : DataW.Trod enc Try.prog w 0 (fun _ => true) true 22 v d p) :
    ∃ ao cap l, v = .slice ao l.length cap ∧ l.length ≤ 9223372036854775807 ∧ Lies w ao (cw l) := by
  obtain ⟨a0, len, cap, rfl⟩ := okWide_slice Try.underlying22 hv
  obtain ⟨fuel, hf⟩ := h
  rcases open_slice Try.underlying22 hf with ⟨hcs, _⟩ | ⟨a, len', cap', m, n, D, Pl, hcs, _, hl, hm, hmm, _, hx⟩
  · simp [Value.cells] at hcs
    obtain ⟨rfl, rfl, rfl⟩ := hcs
    exact ⟨none, 0, [], rfl, by simp, Or.inl rfl⟩
  · simp [Value.cells] at hcs
    obtain ⟨rfl, rfl, rfl⟩ := hcs
    simp only [if_true] at hmm
    subst hmm
    have hc2 : Try.prog.cellsOf 32 = 3 := by kernel_rfl
    have each : ∀ i, i < len → ∃ q : Wt, w.cell? (a.add (i * 3)) = some (.int .i64 q.id) ∧ w.cell? (a.add (i * 3 + 1)) = some (.int .i64 q.cl) ∧ w.cell? (a.add (i * 3 + 2)) = some (.int .i64 q.ca) := by
      intro i hi
      obtain ⟨cs', h1, h2⟩ := hx i (by omega)
      rw [hc2] at h1
      obtain ⟨_, hlen, hcell⟩ := World.cells?_some h1
      obtain ⟨z0, z1, z2, k2, _, _, g3, g4, g5⟩ := trod_struct3 Try.underlying32 h2
      match cs', hlen with
      | [v0, v1, v2], _ =>
        have c1 : Try.prog.cellsOf 3 = 1 := by kernel_rfl
        simp [c1] at g3 g4 g5
        obtain ⟨e2, q2, _, _⟩ := DataW.trod_int Try.underlying3 g3
        obtain ⟨e3, q3, _, _⟩ := DataW.trod_int Try.underlying3 g4
        obtain ⟨e4, q4, _, _⟩ := DataW.trod_int Try.underlying3 g5
        have q2 : v0 = .int .i64 e2 := by simpa using q2
        have q3 : v1 = .int .i64 e3 := by simpa using q3
        have q4 : v2 = .int .i64 e4 := by simpa using q4
        subst q2 q3 q4
        have r0 := hcell 0 (by omega)
        have r1 := hcell 1 (by omega)
        have r2 := hcell 2 (by omega)
        rw [add_add] at r0 r1 r2
        exact ⟨⟨e2, e3, e4⟩, by simpa using r0, by simpa using r1, by simpa using r2⟩
    obtain ⟨q, hq⟩ := choose_lt each
    have hlen := mk_len len q
    refine ⟨some a, _, mk len q, by rw [hlen], by rw [hlen]; unfold maxLen at hm; omega, ?_⟩
    by_cases h0 : len = 0
    · left; subst h0; rfl
    · obtain ⟨b, off, spot⟩ := a
      have hspot : spot = none := by
        have := World.cell?_spot (hq 0 (by omega)).1
        simpa [Addr.add] using this
      subst hspot
      refine Or.inr ⟨b, off, rfl, ?_, fun j u hj => ?_⟩
      · have := World.block_lt_of_cell? w _ (hq 0 (by omega)).1
        simpa [Addr.add] using this
      · obtain ⟨k, hk, hor⟩ := cw_cases hj
        rw [mk_at] at hor
        rw [hlen] at hk
        have := hq k hk
        simp only [Addr.add_lit] at this
        rcases hor with ⟨rfl, rfl⟩ | ⟨rfl, rfl⟩ | ⟨rfl, rfl⟩
        · exact this.1
        · exact this.2.1
        · exact this.2.2
end Go.Proofs.Ytdindhmbofddoaa
