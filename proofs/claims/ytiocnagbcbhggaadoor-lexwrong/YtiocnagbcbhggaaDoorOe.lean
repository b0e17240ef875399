/- Opening a slice of signs that came in; a table of texts out of what is laid. -/
import Derived.Test.YtiocnagbcbhggaaDoorWf
import Derived.Test.YtiocnagbcbhggaaDoorPost
import Derived.Deep.SlicePairs
import Derived.Deep.Strs
namespace Go.Proofs.YtiocnagbcbhggaaDoor
open Go.RowKit Go.WideShapes Go.ChangeShapes Go.Deep
set_option linter.unusedSimpArgs false

instance zsInhabited : Inhabited Zs := ⟨⟨0, 0⟩⟩
def mkz (n : Nat) (f : Nat → Zs) : List Zs := (List.range n).map f
theorem mkz_len (n : Nat) (f : Nat → Zs) : (mkz n f).length = n := by unfold mkz; simp
theorem mkz_at (n : Nat) (f : Nat → Zs) (j : Nat) (h : j < (mkz n f).length) : (mkz n f)[j] = f j := by simp [mkz]
theorem cs_cases {l : List Zs} {j : Nat} {u : Value} (h : (cs l)[j]? = some u) : ∃ k, ∃ hk : k < l.length, (j = k * 2 ∧ u = .int .i64 l[k].k) ∨ (j = k * 2 + 1 ∧ u = .int .i64 l[k].n) := by
  have hj : j < (cs l).length := by
    rcases Nat.lt_or_ge j (cs l).length with g | g
    · exact g
    · rw [List.getElem?_eq_none g] at h; cases h
  rw [cs_len] at hj
  refine ⟨j / 2, by omega, ?_⟩
  rcases Nat.mod_two_eq_zero_or_one j with e | e
  · left
    have h2 : j = j / 2 * 2 := by omega
    refine ⟨h2, ?_⟩
    have := cs_0 l (j / 2) (by omega)
    rw [← h2, h] at this
    exact Option.some.inj this
  · right
    have h2 : j = j / 2 * 2 + 1 := by omega
    refine ⟨h2, ?_⟩
    have := cs_1 l (j / 2) (by omega)
    rw [← h2, h] at this
    exact Option.some.inj this
set_option maxRecDepth 100000 in
theorem open_signs {H : Type} {enc : TypeId × Value → H} {w : World} {r : Reach} {b0 : Nat} {v : Value} {d : DataW H} {p : List MemPlace}
    (hv : Value.okWide Tryd.prog w r b0 22 v) (h : DataW.Trod enc Tryd.prog w 0 (fun _ => true) true 22 v d p) :
    ∃ ao cap l, v = .slice ao (List.length l) cap ∧ Lies w ao (cs l) := by
  obtain ⟨a0, len, cap, rfl⟩ := okWide_slice Tryd.underlying22 hv
  obtain ⟨fuel, hf⟩ := h
  rcases open_slice Tryd.underlying22 hf with ⟨hcs, _⟩ | ⟨a, len', cap', m, n, D, Pl, hcs, _, hl, hm, hmm, _, hx⟩
  · simp [Value.cells] at hcs
    obtain ⟨rfl, rfl, rfl⟩ := hcs
    exact ⟨none, 0, [], rfl, Or.inl rfl⟩
  · simp [Value.cells] at hcs
    obtain ⟨rfl, rfl, rfl⟩ := hcs
    simp only [if_true] at hmm
    subst hmm
    have hc2 : Tryd.prog.cellsOf 35 = 2 := by kernel_rfl
    have each : ∀ i, i < len → ∃ q : Zs, (w.cell? (a.add (i * 2)) = some (.int .i64 q.k) ∧ w.cell? (a.add (i * 2 + 1)) = some (.int .i64 q.n)) := by
      intro i hi
      obtain ⟨cs', h1, h2⟩ := hx i (by omega)
      rw [hc2] at h1
      obtain ⟨_, hlen, hcell⟩ := World.cells?_some h1
      obtain ⟨z0, z1, k2, _, _, g3, g4⟩ := trod_struct2 Tryd.underlying35 h2
      match cs', hlen with
      | [v0, v1], _ =>
        have c1 : Tryd.prog.cellsOf 3 = 1 := by kernel_rfl
        simp [c1] at g3 g4
        obtain ⟨e2, q2, _, w2⟩ := DataW.trod_int Tryd.underlying3 g3
        obtain ⟨e3, q3, _, w3⟩ := DataW.trod_int Tryd.underlying3 g4
        have q2 : v0 = .int .i64 e2 := by simpa using q2
        have q3 : v1 = .int .i64 e3 := by simpa using q3
        subst q2 q3
        have r0 := hcell 0 (by omega)
        have r1 := hcell 1 (by omega)
        rw [add_add] at r0 r1
        exact ⟨⟨e2, e3⟩, by simpa using r0, by simpa using r1⟩
    obtain ⟨q, hq⟩ := choose_lt each
    have hlen := mkz_len len q
    refine ⟨some a, _, mkz len q, by rw [hlen], ?_⟩
    by_cases h0 : len = 0
    · left; subst h0; rfl
    · obtain ⟨b, off, spot⟩ := a
      have hspot : spot = none := by
        have := World.cell?_spot (hq 0 (by omega)).1
        simpa [Addr.add] using this
      subst hspot
      refine Or.inr ⟨b, off, rfl, ?_, fun j u hj => ?_⟩
      · have := World.block_lt_of_cell? w _ (hq 0 (by omega)).1
        simpa [Addr.add] using this
      · obtain ⟨k, hk, hor⟩ := cs_cases hj
        rw [mkz_at] at hor
        rw [hlen] at hk
        have := hq k hk
        simp only [Addr.add_lit] at this
        rcases hor with ⟨rfl, rfl⟩ | ⟨rfl, rfl⟩
        · exact this.1
        · exact this.2

/-! ### a table of texts -/
def strData {H : Type} (zs : List (List UInt8)) : DataW H := .agg (zs.map fun z => .lit (.string z))
theorem cells_of_str {H : Type} {enc : TypeId × Value → H} {P : Program} {w : World} {base : Nat} {sp : Nat → Bool} {held : Bool} {fuel : Nat} {t e : TypeId} {n : Nat} {ws : List Value} {zs : List (List UInt8)} {p : List MemPlace}
    (ht : P.underlying t = some (.array n e)) (he : P.underlying e = some .string) (hce : P.cellsOf e = 1) (hct : P.cellsOf t = n)
    (h : DataW.trod enc P w base sp held fuel t ws = some (strData zs, p)) : ws = zs.map fun z => Value.string ⟨z.toArray⟩ := by
  cases fuel with
  | zero => simp [DataW.trod] at h
  | succ fuel =>
    simp only [DataW.trod, ht, hce, hct, Nat.mul_one] at h
    split at h
    · rename_i hl
      obtain ⟨xs, hm, hx⟩ := Option.map_eq_some_iff.1 h
      have hxs : xs.map (·.1) = zs.map fun z => (DataW.lit (.string z) : DataW H) := by
        have := congrArg Prod.fst hx
        simpa [strData] using this
      have hxl : xs.length = n := by simpa using Lib.mapM_length hm
      have hzl : zs.length = n := by
        have := congrArg List.length hxs
        simp at this
        omega
      apply List.ext_getElem?
      intro i
      by_cases hi : i < n
      · obtain ⟨b, hb, hf⟩ := Lib.mapM_at hm i i (by simp [hi])
        obtain ⟨z, hc, rfl, _⟩ := DataW.trod_string he hf
        have h1 : ws[i]? = some (.string z) := by
          have := congrArg (·[0]?) hc
          simpa [List.getElem?_take, List.getElem?_drop] using this
        have h2 : (xs.map (·.1))[i]? = some (DataW.lit (.string z.data.toList) : DataW H) := by simp [hb]
        rw [hxs] at h2
        simp only [List.getElem?_map, Option.map_eq_some_iff, DataW.lit.injEq, Lit.string.injEq] at h2
        obtain ⟨z', hz', e⟩ := h2
        have : (⟨z'.toArray⟩ : ByteArray) = z := ba_ext (by rw [e])
        simp [h1, hz', this]
      · rw [List.getElem?_eq_none (by omega), List.getElem?_eq_none (by simp; omega)]
    · cases h
theorem strs_of_head {P : Program} {W : World} {name : String} {zs : List (List UInt8)} {rest : List (String × DataW Unit)} {g : Nat} {t e : TypeId} {n : Nat}
    (hg : P.globalNamed name = some g) (hty : (P.globals[g]?).map (·.type) = some t) (ht : P.underlying t = some (.array n e)) (he : P.underlying e = some .string) (hce : P.cellsOf e = 1) (hct : P.cellsOf t = n)
    (h : laidMet P ((name, strData zs) :: rest) W) : W.var? P name = some (zs.map fun z => Value.string ⟨z.toArray⟩).toArray := by
  obtain ⟨ps, ⟨g', t', cs, fuel, p, q, hg', ht', hvar, hd, _, _⟩, _⟩ := h
  obtain rfl := Option.some.inj (hg.symm.trans hg')
  obtain rfl := Option.some.inj (hty.symm.trans ht')
  rw [hvar, ← cells_of_str ht he hce hct hd]
theorem mks_of_var {W : World} (hg : Tryd.prog.globalNamed "remontoir/lex.marks" = some 0) (h : W.var? Tryd.prog "remontoir/lex.marks" = some (marksL.map fun z => Value.string ⟨z.toArray⟩).toArray) : Mks W := by
  unfold World.var? at h
  rw [hg] at h
  simp only [Option.bind_some] at h
  split at h
  · next c T m e =>
    injection h with h
    refine ⟨T, m, ?_⟩
    rw [e, h]
    have : (marksL.map fun z => Value.string ⟨z.toArray⟩) = marksV := by
      unfold marksL marksV mb
      rw [List.map_map]; rfl
    rw [this]
  · cases h
end Go.Proofs.YtiocnagbcbhggaaDoor
