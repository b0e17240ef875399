/- slices.AppendSeq(nil, seq), slices.Collect at leases, against whatever iterator. -/
import Derived.Test.YtoejmopppkjaoaaUa
import Derived.RangeFuncBox
namespace Go.Proofs.Ytoejmopppkjaoaa
open Go.RowKit Go.Maps Go.Shelf
set_option linter.unusedSimpArgs false

attribute [local go_sem] Oper.semAt_some

/-- the loop's two pieces of code, read off the program. -/
noncomputable def apAssign : Code := match Try.f48.body with
  | some (.seq _ (.seq (.seq _ (.block _ (.rangeFunc _ _ a _))) _)) => a
  | _ => .ret
noncomputable def apBody : Code := match Try.f48.body with
  | some (.seq _ (.seq (.seq _ (.block _ (.rangeFunc _ _ _ c))) _)) => c
  | _ => .ret
/-- the loop's record. -/
noncomputable def apRec (fn : FuncId) (sv : Value) (Bs D : Nat) (st : LoopState) (pend : Option Code) : Loop :=
  { state := st, pending := pend, fn, tmps := #[.slice none 0 0, sv, .pointer (some ⟨Bs, 0, none⟩), undef, .slice none 0 0, undef, sv, undef, undef, undef, undef, undef, undef], params := #[7], assign := apAssign, body := apBody, defers := D }
/-- between two rounds. -/
structure ApAt (w0 : World) (fn : FuncId) (sv : Value) (Bs l D : Nat) (ss : List Gr) (W : World) : Prop where
  box : ∃ v, Boxed W Bs 26 v ∧ W.ownsRow w0.heap.size 39 3 v ss.length (cg ss)
  L : W.heap[l]? = some (.loop (apRec fn sv Bs D .ready none))
  K : W.heap[D]? = some (.deferred (some []))
  below : Below w0.heap.size w0 W
theorem own_walk {W W' : World} {row : Option Nat} {base : Nat} {e : TypeId} {size : Nat} {v : Value} {k : Nat} {xs : List Value} (h : W.ownsRow base e size v k xs) (hg : W.grownBy W' row)
    (hrow : ∀ r, row = some r → ∃ o : Obj, W.heap[r]? = some o ∧ o.isWalk = true) : W'.ownsRow base e size v k xs := by
  refine h.kept hg ?_
  rcases h.2 with ⟨rfl, _⟩ | ⟨g, cap, cur, rfl, _, hgb, _⟩
  · exact .inl rfl
  · refine .inr fun e' => ?_
    obtain ⟨o, ho, hw⟩ := hrow g (by simpa [Value.ownBlock] using e'.symm)
    rw [hgb] at ho; cases ho; cases hw
theorem ap_abides (w0 : World) (fn : FuncId) (sv : Value) (Bs l D B : Nat) (hB : w0.heap.size ≤ B) : AbidesFrom B (ApAt w0 fn sv Bs l D) := fun s W W' row h hg hrow => by
  have hrow' : ∀ r, row = some r → ∃ o : Obj, W.heap[r]? = some o ∧ o.isWalk = true := fun r e => (hrow r e).2
  obtain ⟨v, hv, hr⟩ := h.box
  exact ⟨⟨v, (grownBy_keeps hg hrow' hv rfl).trans hv, own_walk hr hg hrow'⟩, (grownBy_keeps hg hrow' h.L rfl).trans h.L, (grownBy_keeps hg hrow' h.K rfl).trans h.K,
    h.below.grown hg h.below.size (fun k e => Nat.le_trans hB (hrow k e).1)⟩
theorem own_nw {W : World} {base : Nat} {e : TypeId} {size : Nat} {v : Value} {k : Nat} {xs : List Value} (h : W.ownsRow base e size v k xs) : ∀ (j : Nat) (o : Obj), v.ownBlock = some j → W.heap[j]? = some o → o.isWalk = false := by
  intro j o hj ho
  rcases h.2 with ⟨rfl, _⟩ | ⟨g, cap, cur, rfl, _, hgb, _⟩
  · simp [Value.ownBlock] at hj
  · have : g = j := by simpa [Value.ownBlock] using hj
    subst this; rw [hgb] at ho; cases ho; rfl
/-- what is no cells is left alone. -/
theorem others_at {A B : World} (h : KeepsOthers A B) {k : Nat} {o : Obj} (hk : A.heap[k]? = some o) (ho : o.isCells = false) : B.heap[k]? = some o := h.same k o hk ho
set_option maxRecDepth 100000 in
set_option maxHeartbeats 2000000 in
theorem apYield (F : Fence) (m : Nat) (w0 : World) (fn : FuncId) (hfn : F.fn fn) (sv : Value) (Bs l D : Nat) (hBl : Bs ≠ l) (hDl : D ≠ l) (h0B : w0.heap.size ≤ Bs) (h0l : w0.heap.size ≤ l)
    (N : Nat) (hN : N ≤ 1000000) (ss : List Gr) (x : Gr) (W : World) (h : ApAt w0 fn sv Bs l D ss W) (hlen : ss.length < N) :
    YieldAt F m Try.prog l #[gv x] W fun e W' => e = .returned (.bool true) ∧ ApAt w0 fn sv Bs l D (ss ++ [x]) W' ∧ KeepsWalks W W' := by
  obtain ⟨i0, hi, hz0, hz1, hz2⟩ := info_parts Try.info39
  obtain ⟨v, hv, hrow⟩ := h.box
  refine ⟨fn, #[.slice none 0 0, sv, .pointer (some ⟨Bs, 0, none⟩), undef, .slice none 0 0, undef, sv, gv x, undef, undef, undef, undef, undef], apAssign, apBody, by simpa [apRec] using run_yield (P := Try.prog) (args := #[gv x]) h.L rfl, roundIn_of_wpIn hfn ?_⟩
  have hl : l < W.heap.size := (Array.getElem?_eq_some_iff.1 h.L).1
  obtain ⟨xn, xj, xu⟩ := x
  -- the element's box, laid by the assignment
  obtain ⟨W1, hW1⟩ : ∃ W1, W.alloc (.cells #[.int .i64 xn, .int .i64 xj, .int .u64 (xu : Nat)] 39) = W1 := ⟨_, rfl⟩
  have hg1 : W.grownBy W1 none := by rw [← hW1]; exact World.grownBy_alloc _ _ _
  have hL1 : W1.heap[l]? = some (.loop (apRec fn sv Bs D .ready none)) := (hg1.block l hl (by simp)).trans h.L
  have hK1 : W1.heap[D]? = some (.deferred (some [])) := (hg1.block D (Array.getElem?_eq_some_iff.1 h.K).1 (by simp)).trans h.K
  have hv1 : Boxed W1 Bs 26 v := hv.kept hg1 (by simp)
  have hk1 : KeepsWalks W W1 := by rw [← hW1]; exact KeepsWalks.alloc _ _
  have hb1 : Below w0.heap.size w0 W1 := by rw [← hW1]; exact h.below.alloc h.below.size _
  have hrow1 : W1.ownsRow w0.heap.size 39 3 v ss.length (cg ss) := by rw [← hW1]; exact hrow.alloc _
  have a0 : W1.cell? ⟨W.heap.size, 0, none⟩ = some (.int .i64 xn) := by rw [← hW1]; simp [go_sem]
  have a1 : W1.cell? ⟨W.heap.size, 1, none⟩ = some (.int .i64 xj) := by rw [← hW1]; simp [go_sem]
  have a2 : W1.cell? ⟨W.heap.size, 2, none⟩ = some (.int .u64 (xu : Nat)) := by rw [← hW1]; simp [go_sem]
  have hbr := run_beginRound (P := Try.prog) hL1 rfl
  obtain ⟨W2, hW2⟩ : ∃ W2, W1.putObj l (.loop { apRec fn sv Bs D .ready none with state := .busy }) = W2 := ⟨_, rfl⟩
  rw [hW2] at hbr
  have hg2 : W1.grownBy W2 (some l) := by rw [← hW2]; exact grownBy_putObj' _ _ _
  have hnl : W.heap.size ≠ l := by omega
  have hl1 : l < W1.heap.size := (Array.getElem?_eq_some_iff.1 hL1).1
  have hk2 : KeepsWalks W1 W2 := by rw [← hW2]; exact KeepsWalks.putObj _ hL1 rfl
  have hv2 : Boxed W2 Bs 26 v := hv1.kept hg2 (fun e => hBl (by injection e))
  have hK2 : W2.heap[D]? = some (.deferred (some [])) := (hg2.block D (Array.getElem?_eq_some_iff.1 hK1).1 (fun e => hDl (by injection e))).trans hK1
  have hL2 : W2.heap[l]? = some (.loop { apRec fn sv Bs D .ready none with state := .busy }) := by rw [← hW2]; exact World.putObj_heap_same hl1
  have hrow2 : W2.ownsRow w0.heap.size 39 3 v ss.length (cg ss) := by rw [← hW2]; exact ownsRow_putObj hrow1 _ hL1 rfl
  have hb2 : Below w0.heap.size w0 W2 := hb1.grown hg2 hb1.size (fun k e => by cases e; exact h0l)
  have f2 := grownBy_frm hg2
  have e0 : W2.cell? ⟨W.heap.size, 0, none⟩ = some (.int .i64 xn) := f2.cell a0 (fun e => by injection e with e; exact hnl e.symm)
  have e1 : W2.cell? ⟨W.heap.size, 1, none⟩ = some (.int .i64 xj) := f2.cell a1 (fun e => by injection e with e; exact hnl e.symm)
  have e2 : W2.cell? ⟨W.heap.size, 2, none⟩ = some (.int .u64 (xu : Nat)) := f2.cell a2 (fun e => by injection e with e; exact hnl e.symm)
  have c2 := hv2.cell
  have D1 : Hid (∀ j u, (cg [⟨xn, xj, xu⟩])[j]? = some u → (W2.alloc (.cells #[.int .i64 xn, .int .i64 xj, .int .u64 (xu : Nat)] 39)).cell? ((⟨W2.heap.size, 0, none⟩ : Addr).add j) = some u) := by
    refine (?_ : ∀ j u, (cg [⟨xn, xj, xu⟩])[j]? = some u → (W2.alloc (.cells #[.int .i64 xn, .int .i64 xj, .int .u64 (xu : Nat)] 39)).cell? ((⟨W2.heap.size, 0, none⟩ : Addr).add j) = some u)
    intro j u hj
    rw [cg_cells] at hj
    rcases j with _ | _ | _ | j
    · simp at hj; rw [← hj]; simp [go_sem]
    · simp at hj; rw [← hj]; simp [go_sem]
    · simp at hj; rw [← hj]; simp [go_sem]
    · simp at hj
  have D2 := Lib.hid (cg_one [⟨xn, xj, xu⟩])
  simp only [apAssign, Try.f48, gv]
  clear hW2 a0 a1 a2
  gi_wp2
  simp only [apBody, Try.f48]
  clear hW1
  gi_wp2_with (gi_at_builtin; refine wpListIn_append_own _ rfl _ _ 26 rfl w0.heap.size 39 i0 _ 3 24 Try.underlying26 hi hz0 hz1 hz2 rfl (by decide) _ _ _ rfl (hrow2.alloc _) ⟨W2.heap.size, 0, none⟩ 1 1 (cg [⟨xn, xj, xu⟩]) rfl rfl D1.out D2.out (by unfold maxLen; omega) (by omega) (by have := hb2.size; simp; omega) ?_; intro v' w3 hown' hgrow _; obtain ⟨g', cap', rfl⟩ := ownsRow_succ hown'; obtain ⟨hv3, hv4, hr4, hk4, hb4⟩ := hv2.appended (by decide) hrow2 hb2.size h0B hown' hgrow; have hc3 := hv3.cell; have hf3 := hv3.frozen)
  have hL4 := others_at hk4 hL2 rfl
  have hK4 := others_at hk4 hK2 rfl
  have hl4 := (Array.getElem?_eq_some_iff.1 hL4).1
  have hg5 := grownBy_putObj' (w3.setCell ⟨Bs, 0, none⟩ (.slice (some ⟨g', 0, none⟩) (ss.length + 1) cap')) l (.loop { { apRec fn sv Bs D .ready none with state := .busy } with state := if (none : Option Code).isNone then .ready else .done, pending := none })
  refine ⟨_, _, run_endRound none hL4, rfl, ⟨⟨_, hv4.kept hg5 (fun e => hBl (by injection e)), ?_⟩, World.putObj_heap_same hl4, (World.putObj_heap_other hDl).trans hK4, (hb2.trans hb4).grown hg5 (Nat.le_trans hb2.size hb4.size) (fun k e => by cases e; exact h0l)⟩, ((hk1.trans hk2).trans hk4.walks).trans (KeepsWalks.putObj _ hL4 rfl)⟩
  have := ownsRow_putObj hr4 (.loop { { apRec fn sv Bs D .ready none with state := .busy } with state := if (none : Option Code).isNone then .ready else .done, pending := none }) hL4 rfl
  rw [cg_app]
  simpa using this
end Go.Proofs.Ytoejmopppkjaoaa
