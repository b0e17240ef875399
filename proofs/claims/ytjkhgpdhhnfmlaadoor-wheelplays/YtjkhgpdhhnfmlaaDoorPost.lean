/- The last step of a row whose call writes nothing that was there (Grw): the premises of the library's post_of_same, with Grw in the place of the frame and of the frozen marks. Nothing of the program is named here. -/
import Derived.Test.YtjkhgpdhhnfmlaaDoorGrow
import Derived.ProofKit
import Derived.ChangeSame
import Derived.OpenShut
namespace Go.Proofs.YtjkhgpdhhnfmlaaDoor
open Go.RowKit Go.WideShapes Go.ChangeShapes

theorem post_grw {H : Type} {enc : TypeId × Value → H} {P : Program} {f : Func} {s : ChangeSpec} {apart fresh handsOn again : Bool} {W W' : World} {args : Array Value} {v : Value}
    {ds gs : List (DataW H)} {before pa pv : List MemPlace} (hW : DataW.Whole enc P f.params.toList s.vars apart W args.toList ds gs before)
    (hr : ∀ (b : Nat) (sp : Nat → Bool) (hd : Bool), DataW.TrodAll enc P W' b sp hd f.resultTypes.toList (v.resultList f.resultTypes.size) (s.fn H (ds ++ gs)).results [])
    (ha : ∀ sp : Nat → Bool, (∀ p ∈ before, sp p.block = true) → DataW.TrodAll enc P W' 0 sp true f.params.toList args.toList (s.fn H (ds ++ gs)).args pa)
    (hv : ∀ sp : Nat → Bool, (∀ p ∈ before, sp p.block = true) → DataW.TrodVars enc P W' sp s.vars (s.fn H (ds ++ gs)).vars pv)
    (hp : before = pa ++ pv) (hg : Grw W W')
    (ho : ∀ (j : Nat) (t : TypeId) (r : Value), f.resultTypes[j]? = some t → (v.resultList f.resultTypes.size)[j]? = some r → Value.okWide P W' .any 0 t r) :
    s.post enc P f apart fresh handsOn again W args v W' := by
  have lt : ∀ p ∈ before, p.block < W.heap.size := fun p h => hW.lt p h
  have old : ∀ p ∈ before, (fun b => decide (b < W.heap.size)) p.block = true := fun p h => decide_eq_true (lt p h)
  refine ⟨ds, gs, before, [], pa, pv, hW, hr _ _ _, ha _ old, hv _ old, World.keptBut_mono (fun p h => ⟨h, ?_⟩) (Below.frame hg (· ∈ before)), fun _ => ?_⟩
  · rw [hp, List.mem_append] at h
    exact Or.inr h
  · obtain ⟨_, _, _, _, _, hz, hn⟩ := hW
    refine ⟨ho, _, _, ([] ++ pa) ++ pv, ⟨[] ++ pa, pv, trodAll_append (ha _ (fun _ _ => rfl)) (hr _ _ _), hv _ (fun _ _ => rfl), rfl, ?_, ?_⟩, ?_⟩
    · intro b off h
      have hin : MemPlace.cell b off ∈ before := by rw [hp]; simpa using h
      rw [Below.frozen hg (lt _ hin)]
      exact hz b off hin
    · intro h
      have g := hn h
      rw [hp] at g
      simpa using g
    · intro p h _
      rw [hp]
      simpa using h

/-- An array of integers by value: its cells are integers of that kind. -/
theorem open_int_array {H : Type} {enc : TypeId × Value → H} {P : Program} {w : World} {base : Nat} {spare : Nat → Bool} {held : Bool} {r : Reach} {b0 n : Nat} {t e : TypeId} {k : IntKind} {v : Value} {d : DataW H} {p : List MemPlace}
    (ht : P.underlying t = some (.array n e)) (he : P.underlying e = some (.int k)) (hce : P.cellsOf e = 1) (hC : P.cellsOf t = n)
    (hv : Value.okWide P w r b0 t v) (h : DataW.Trod enc P w base spare held t v d p) :
    ∃ (cs : Array Value) (f : Nat → Int), v = .agg cs ∧ cs.size = n ∧ ∀ i, i < n → cs[i]? = some (.int k (f i)) ∧ (Lit.int k (f i)).wf = true := by
  simp only [Value.okWide, ht] at hv
  obtain ⟨cs, rfl, hsz, _⟩ := hv
  obtain ⟨fuel, hf⟩ := h
  obtain ⟨xs, m, _, _, _, hl, hx⟩ := DataW.trod_array ht hf
  have key : ∀ i, i < n → ∃ z : Int, cs[i]? = some (.int k z) ∧ (Lit.int k z).wf = true := by
    intro i hi
    have g := hx i hi
    rw [hce, Nat.mul_one] at g
    have hxi : xs[i]? = some (xs[i]'(by omega)) := List.getElem?_eq_getElem (by omega)
    rw [hxi] at g
    obtain ⟨z, e1, _, wz⟩ := DataW.trod_int he g
    refine ⟨z, ?_, wz⟩
    have hci : i < cs.size := by omega
    have e2 : (cs.toList.drop i).take 1 = [cs[i]] := by
      rw [List.drop_eq_getElem_cons (by simpa using hci)]
      simp
    simp only [Value.cells] at e1
    rw [e2] at e1
    rw [Array.getElem?_eq_getElem hci]
    simpa using e1
  refine ⟨cs, fun i => if hi : i < n then (key i hi).choose else 0, rfl, hsz.trans hC, fun i hi => ?_⟩
  simp only [hi, dite_true]
  exact (key i hi).choose_spec


/-- the least and the greatest number of a kind. -/
theorem bounds_of {k : IntKind} {n : Int} (h : (Lit.int k n).wf = true) : k.min ≤ n ∧ n ≤ k.max := by
  simpa [Lit.wf] using h
/-- four numbers of type uint32. -/
theorem arr4_of (cs : Array Value) (f : Nat → Int) (hs : cs.size = 4) (hc : ∀ i, i < 4 → cs[i]? = some (.int .u32 (f i)) ∧ (Lit.int .u32 (f i)).wf = true) :
    ∃ g : Nat → Nat, cs = #[.int .u32 (g 0), .int .u32 (g 1), .int .u32 (g 2), .int .u32 (g 3)] ∧ ∀ i, i < 4 → g i < 4294967296 := by
  have hb : ∀ i, i < 4 → 0 ≤ f i ∧ f i ≤ 4294967295 := fun i hi => bounds_of (hc i hi).2
  refine ⟨fun i => (f i).toNat, ?_, fun i hi => by have := hb i hi; simp only []; omega⟩
  apply Array.ext_getElem?
  intro i
  by_cases h : i < 4
  · rw [(hc i h).1]
    have hh := (hb i h).1
    rcases i with _ | _ | _ | _ | i
    · simp at hh ⊢; omega
    · simp at hh ⊢; omega
    · simp at hh ⊢; omega
    · simp at hh ⊢; omega
    · omega
  · rw [Array.getElem?_eq_none (by omega), Array.getElem?_eq_none (by simp; omega)]
end Go.Proofs.YtjkhgpdhhnfmlaaDoor
