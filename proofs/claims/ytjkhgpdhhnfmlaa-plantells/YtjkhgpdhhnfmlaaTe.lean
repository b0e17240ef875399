/- What the region in which PlanTells draws its order yields, operation by operation. -/
import Derived.Test.YtjkhgpdhhnfmlaaTd
namespace Go.Proofs.Ytjkhgpdhhnfmlaa
open Go.RowKit
open RG (Du)
open PM
set_option linter.unusedVariables false
set_option linter.unusedSimpArgs false

theorem dep_on {l : Array Bool} {k : Nat} {o : Oper} (h : (o.after.all fun e => !Region.binds .any e || l.getD e.on false) = true) (h2 : (o.after.any fun e => Region.binds .any e && e.on == k) = true) : l.getD k false = true := by
  rw [Array.any_eq_true'] at h2
  obtain ⟨e, he, hw⟩ := h2
  rw [Array.all_eq_true'] at h
  have := h e he
  simp only [Bool.and_eq_true, beq_iff_eq] at hw
  rw [hw.1, hw.2] at this
  simpa using this

/-- a struct of a row and a bool. -/
def AggD (o : Bool) (K : List Du) (w : World) (v : Value) : Prop := ∃ a c, v = .agg #[.slice a K.length c, .bool o] ∧ RowD w (.slice a K.length c) K
/-- a struct of two rows. -/
def AggE (K M : List Du) (w : World) (v : Value) : Prop := ∃ a c a' c', v = .agg #[.slice a K.length c, .slice a' M.length c'] ∧ RowD w (.slice a K.length c) K ∧ RowD w (.slice a' M.length c') M
/-- a block of two cells, made since the world that had Z blocks. -/
def Blk (Z : Nat) (c1 : Value) (w : World) (v : Value) : Prop := ∃ b, v = .pointer (some ⟨b, 0, none⟩) ∧ Z ≤ b ∧ b < w.heap.size ∧ Two w b (.slice none 0 0) c1
theorem AggD.later {o : Bool} {K : List Du} {w x : World} {v : Value} (h : AggD o K w v) (g : Grw w x) : AggD o K x v :=
  let ⟨a, c, e, r⟩ := h; ⟨a, c, e, r.later g⟩
theorem AggE.later {K M : List Du} {w x : World} {v : Value} (h : AggE K M w v) (g : Grw w x) : AggE K M x v :=
  let ⟨a, c, a', c', e, r, r'⟩ := h; ⟨a, c, a', c', e, r.later g, r'.later g⟩
theorem Blk.later {Z : Nat} {c1 : Value} {w x : World} {v : Value} (h : Blk Z c1 w v) (g : Grw w x) : Blk Z c1 x v :=
  let ⟨b, e, hz, hb, t⟩ := h; ⟨b, e, hz, Nat.lt_of_lt_of_le hb (Below.size g), t.later g hb⟩
/-- what operation j of the region yields. -/
def FT (sl du tt pt id : Value) (o1 o2 : Bool) (K1 K2 K3 K4 : List Du) (Z : Nat) : Nat → World → Value → Prop
  | 0, _, v => v = sl
  | 1, _, v => v = du
  | 2, w, v => AggD o1 K1 w v
  | 3, _, v => v = sl
  | 4, _, v => v = pt
  | 5, _, v => v = id
  | 6, w, v => AggD o2 K2 w v
  | 7, _, v => v = sl
  | 8, _, v => v = tt
  | 9, w, v => AggE K3 K4 w v
  | 10, w, v => Blk Z (.bool false) w v
  | 11, w, v => Blk Z (.bool false) w v
  | 12, w, v => Blk Z (.slice none 0 0) w v
  | _, _, _ => True
theorem FT.mono {sl du tt pt id : Value} {o1 o2 : Bool} {K1 K2 K3 K4 : List Du} {Z : Nat} : ∀ j w w' v, FT sl du tt pt id o1 o2 K1 K2 K3 K4 Z j w v → Grw w w' → FT sl du tt pt id o1 o2 K1 K2 K3 K4 Z j w' v
  | 0, _, _, _, h, _ => h
  | 1, _, _, _, h, _ => h
  | 2, _, _, _, h, g => AggD.later h g
  | 3, _, _, _, h, _ => h
  | 4, _, _, _, h, _ => h
  | 5, _, _, _, h, _ => h
  | 6, _, _, _, h, g => AggD.later h g
  | 7, _, _, _, h, _ => h
  | 8, _, _, _, h, _ => h
  | 9, _, _, _, h, g => AggE.later h g
  | 10, _, _, _, h, g => Blk.later h g
  | 11, _, _, _, h, g => Blk.later h g
  | 12, _, _, _, h, g => Blk.later h g
  | _ + 13, _, _, _, _, _ => trivial
theorem FT.ptr {sl du tt pt id : Value} {o1 o2 : Bool} {K1 K2 K3 K4 : List Du} {Z : Nat} {j : Nat} {w : World} {v : Value} (h : FT sl du tt pt id o1 o2 K1 K2 K3 K4 Z j w v) (h1 : 10 ≤ j) (h2 : j < 13) : ∃ b, v = .pointer (some ⟨b, 0, none⟩) ∧ b < w.heap.size := by
  have : j = 10 ∨ j = 11 ∨ j = 12 := by omega
  rcases this with rfl | rfl | rfl <;> obtain ⟨b, e, _, hb, _⟩ := h <;> exact ⟨b, e, hb⟩
/-- the slots that the region fills. -/
def putS (a : Act) (s : Nat → Value) : Act :=
  (((((((((((((a.put (some 39) (s 0)).put (some 40) (s 1)).put (some 41) (s 2)).put (some 42) (s 3)).put (some 43) (s 4)).put (some 44) (s 5)).put (some 45) (s 6)).put (some 46) (s 7)).put (some 47) (s 8)).put (some 48) (s 9)).put (some 13) (s 10)).put (some 14) (s 11)).put (some 15) (s 12))
theorem put_comm (a : Act) (i j : Tmp) (h : i ≠ j) (u v : Value) : (a.put (some i) u).put (some j) v = (a.put (some j) v).put (some i) u := by
  unfold Act.put
  simp only [Act.mk.injEq, and_true]
  exact Array.setIfInBounds_comm u v h
theorem put_over (a : Act) (i : Tmp) (u v : Value) : (a.put (some i) u).put (some i) v = a.put (some i) v := by
  unfold Act.put
  simp only [Act.mk.injEq, and_true]
  simp
theorem putS_0 (a : Act) (s : Nat → Value) (v : Value) : (putS a s).put (some 39) v = putS a (fun j => if j = 0 then v else s j) := by
  unfold putS
  rw [put_comm _ 15 39 (by decide), put_comm _ 14 39 (by decide), put_comm _ 13 39 (by decide), put_comm _ 48 39 (by decide), put_comm _ 47 39 (by decide), put_comm _ 46 39 (by decide), put_comm _ 45 39 (by decide), put_comm _ 44 39 (by decide), put_comm _ 43 39 (by decide), put_comm _ 42 39 (by decide), put_comm _ 41 39 (by decide), put_comm _ 40 39 (by decide), put_over]
  rfl
theorem putS_1 (a : Act) (s : Nat → Value) (v : Value) : (putS a s).put (some 40) v = putS a (fun j => if j = 1 then v else s j) := by
  unfold putS
  rw [put_comm _ 15 40 (by decide), put_comm _ 14 40 (by decide), put_comm _ 13 40 (by decide), put_comm _ 48 40 (by decide), put_comm _ 47 40 (by decide), put_comm _ 46 40 (by decide), put_comm _ 45 40 (by decide), put_comm _ 44 40 (by decide), put_comm _ 43 40 (by decide), put_comm _ 42 40 (by decide), put_comm _ 41 40 (by decide), put_over]
  rfl
theorem putS_2 (a : Act) (s : Nat → Value) (v : Value) : (putS a s).put (some 41) v = putS a (fun j => if j = 2 then v else s j) := by
  unfold putS
  rw [put_comm _ 15 41 (by decide), put_comm _ 14 41 (by decide), put_comm _ 13 41 (by decide), put_comm _ 48 41 (by decide), put_comm _ 47 41 (by decide), put_comm _ 46 41 (by decide), put_comm _ 45 41 (by decide), put_comm _ 44 41 (by decide), put_comm _ 43 41 (by decide), put_comm _ 42 41 (by decide), put_over]
  rfl
theorem putS_3 (a : Act) (s : Nat → Value) (v : Value) : (putS a s).put (some 42) v = putS a (fun j => if j = 3 then v else s j) := by
  unfold putS
  rw [put_comm _ 15 42 (by decide), put_comm _ 14 42 (by decide), put_comm _ 13 42 (by decide), put_comm _ 48 42 (by decide), put_comm _ 47 42 (by decide), put_comm _ 46 42 (by decide), put_comm _ 45 42 (by decide), put_comm _ 44 42 (by decide), put_comm _ 43 42 (by decide), put_over]
  rfl
theorem putS_4 (a : Act) (s : Nat → Value) (v : Value) : (putS a s).put (some 43) v = putS a (fun j => if j = 4 then v else s j) := by
  unfold putS
  rw [put_comm _ 15 43 (by decide), put_comm _ 14 43 (by decide), put_comm _ 13 43 (by decide), put_comm _ 48 43 (by decide), put_comm _ 47 43 (by decide), put_comm _ 46 43 (by decide), put_comm _ 45 43 (by decide), put_comm _ 44 43 (by decide), put_over]
  rfl
theorem putS_5 (a : Act) (s : Nat → Value) (v : Value) : (putS a s).put (some 44) v = putS a (fun j => if j = 5 then v else s j) := by
  unfold putS
  rw [put_comm _ 15 44 (by decide), put_comm _ 14 44 (by decide), put_comm _ 13 44 (by decide), put_comm _ 48 44 (by decide), put_comm _ 47 44 (by decide), put_comm _ 46 44 (by decide), put_comm _ 45 44 (by decide), put_over]
  rfl
theorem putS_6 (a : Act) (s : Nat → Value) (v : Value) : (putS a s).put (some 45) v = putS a (fun j => if j = 6 then v else s j) := by
  unfold putS
  rw [put_comm _ 15 45 (by decide), put_comm _ 14 45 (by decide), put_comm _ 13 45 (by decide), put_comm _ 48 45 (by decide), put_comm _ 47 45 (by decide), put_comm _ 46 45 (by decide), put_over]
  rfl
theorem putS_7 (a : Act) (s : Nat → Value) (v : Value) : (putS a s).put (some 46) v = putS a (fun j => if j = 7 then v else s j) := by
  unfold putS
  rw [put_comm _ 15 46 (by decide), put_comm _ 14 46 (by decide), put_comm _ 13 46 (by decide), put_comm _ 48 46 (by decide), put_comm _ 47 46 (by decide), put_over]
  rfl
theorem putS_8 (a : Act) (s : Nat → Value) (v : Value) : (putS a s).put (some 47) v = putS a (fun j => if j = 8 then v else s j) := by
  unfold putS
  rw [put_comm _ 15 47 (by decide), put_comm _ 14 47 (by decide), put_comm _ 13 47 (by decide), put_comm _ 48 47 (by decide), put_over]
  rfl
theorem putS_9 (a : Act) (s : Nat → Value) (v : Value) : (putS a s).put (some 48) v = putS a (fun j => if j = 9 then v else s j) := by
  unfold putS
  rw [put_comm _ 15 48 (by decide), put_comm _ 14 48 (by decide), put_comm _ 13 48 (by decide), put_over]
  rfl
theorem putS_10 (a : Act) (s : Nat → Value) (v : Value) : (putS a s).put (some 13) v = putS a (fun j => if j = 10 then v else s j) := by
  unfold putS
  rw [put_comm _ 15 13 (by decide), put_comm _ 14 13 (by decide), put_over]
  rfl
theorem putS_11 (a : Act) (s : Nat → Value) (v : Value) : (putS a s).put (some 14) v = putS a (fun j => if j = 11 then v else s j) := by
  unfold putS
  rw [put_comm _ 15 14 (by decide), put_over]
  rfl
theorem putS_12 (a : Act) (s : Nat → Value) (v : Value) : (putS a s).put (some 15) v = putS a (fun j => if j = 12 then v else s j) := by
  unfold putS
  rw [put_over]
  rfl
/-- one operation, run: behind a name that nothing opens (whnf of the walk itself would run the operation). -/
structure StepIs (P : Program) (o : Oper) (A : Act) (w : World) (K : Act → World → Prop) (Q : Exit → Act → World → Prop) : Prop where
  guard : o.guard = none
  run : Oper.wp P o A w K Q
theorem StepIs.value {P : Program} {o : Oper} {A : Act} {w w' : World} {K : Act → World → Prop} {Q : Exit → Act → World → Prop} (v : Value) (hg : o.guard = none) (hr : (execOp A.eval o).run P w = .ok (.value v) w') (h : K (A.put o.dst v) w') : StepIs P o A w K Q := by
  refine ⟨hg, ?_⟩
  unfold Oper.wp
  rw [hr]
  exact h
theorem StepIs.enter {P : Program} {o : Oper} {A : Act} {w w' : World} {K : Act → World → Prop} {Q : Exit → Act → World → Prop} (f : FuncId) (args : Array Value) (hg : o.guard = none) (hr : (execOp A.eval o).run P w = .ok (.enter f args) w')
    (h : Calls P f args w' fun e w'' => ∃ v, e = .returned v ∧ K (A.put o.dst v) w'') : StepIs P o A w K Q := by
  refine ⟨hg, ?_⟩
  unfold Oper.wp
  rw [hr, Oper.upon_enter]
  refine h.mono fun e w2 ⟨v, he, hk⟩ => ?_
  subst he
  exact hk
theorem StepIs.wanted {P : Program} {o : Oper} {A : Act} {w : World} {K : Act → World → Prop} {Q : Exit → Act → World → Prop} (ys : Nat → Option Bool) (R : Prop) (h : StepIs P o A w K Q) : if Region.wanted o ys = true then Oper.wp P o A w K Q else R := by
  have : Region.wanted o ys = true := by unfold Region.wanted; rw [h.guard]
  rw [if_pos this]
  exact h.run
/-- wpAny_iv, its steps behind a name. -/
theorem wpAny_ivs {P : Program} {ops : Array Oper} {Q : Exit → Act → World → Prop} (mkf : Act → (Nat → Value) → Act) (F : Nat → World → Value → Prop) (w0 : World) (m stop : Nat) (ap : Nat → Bool) (s0 : Nat → Value) {a0 : Act} {w : World}
    (hlow : lowB .any ops = true) (hsz : ops.size = m + stop) (ha : a0 = mkf a0 s0) (hg : Grw w0 w) (hF : ∀ j w w' v, F j w v → Grw w w' → F j w' v)
    (hput : ∀ i o s v, i < m → ops[i]? = some o → (mkf a0 s).put o.dst v = mkf a0 (fun j => if j = i then v else s j))
    (late : ∀ l : Array Bool, (∀ j o, ops[j]? = some o → l.getD j false = true → (o.after.all fun e => !Region.binds .any e || l.getD e.on false) = true) → ∀ i o, m ≤ i → ops[i]? = some o → (o.after.all fun e => !Region.binds .any e || l.getD e.on false) = true → (∀ j, m ≤ j → j < ops.size → l.getD j false = false) → ∀ j, j < m → l.getD j false = true)
    (step : ∀ i o, i < m → ops[i]? = some o → ∀ (s : Nat → Value) w, Grw w0 w → (∀ j, j < m → (o.after.any fun e => Region.binds .any e && e.on == j) = true → F j w (s j)) →
      ∀ K : Act → World → Prop, (∀ v w', Grw w w' → F i w' v → (ap i = true → ∀ j x, j < m → ap j = true → F j w x → x ≠ v) → K ((mkf a0 s).put o.dst v) w') → StepIs P o (mkf a0 s) w K Q)
    (fin : ∀ (s : Nat → Value) w, Grw w0 w → (∀ j, j < m → F j w (s j)) → (∀ j k, j < m → k < m → ap j = true → ap k = true → j ≠ k → s j ≠ s k) → wpAny P .any ops Q stop (List.replicate m true ++ List.replicate stop false).toArray (mkf a0 s) w) :
    wpAny P .any ops Q ops.size (Array.replicate ops.size false) a0 w :=
  wpAny_iv mkf F w0 m stop ap s0 hlow hsz ha hg hF hput late (fun i o hi ho s w hg hf K hK => (step i o hi ho s w hg hf K hK).wanted _ _) fin
theorem ex_move (ρ : Operand → Value) (o : Oper) (w : World) (x : Operand) (P : Program) (ho : o.op = .move x) : (execOp ρ o).run P w = .ok (.value (ρ x)) w := by
  unfold execOp
  rw [ho]
  rfl
theorem ex_load25 (ρ : Operand → Value) (o : Oper) (w : World) (b : Nat) (x : Int) (y : Nat) (ho : o.op = .load 25 (.tmp 4)) (h : ρ (.tmp 4) = .pointer (some ⟨b, 0, none⟩)) (c0 : w.cell? ⟨b, 0, none⟩ = some (.int .i64 x)) (c1 : w.cell? ⟨b, 1, none⟩ = some (.int .u64 y)) :
    (execOp ρ o).run Try.prog w = .ok (.value (.agg #[.int .i64 x, .int .u64 y])) w := by
  unfold execOp
  rw [ho]
  clear ho
  go_simp
theorem ex_load3 (ρ : Operand → Value) (o : Oper) (w : World) (b : Nat) (x : Int) (ho : o.op = .load 3 (.tmp 43)) (h : ρ (.tmp 43) = .pointer (some ⟨b, 0, none⟩)) (c0 : w.cell? ⟨b, 0, none⟩ = some (.int .i64 x)) :
    (execOp ρ o).run Try.prog w = .ok (.value (.int .i64 x)) w := by
  unfold execOp
  rw [ho]
  clear ho
  go_simp
theorem ex_field (ρ : Operand → Value) (o : Oper) (w : World) (b : Nat) (ho : o.op = .fieldAddr 25 (.tmp 4) 0) (h : ρ (.tmp 4) = .pointer (some ⟨b, 0, none⟩)) :
    (execOp ρ o).run Try.prog w = .ok (.value (.pointer (some ⟨b, 0, none⟩))) w := by
  unfold execOp
  rw [ho]
  clear ho
  go_simp
theorem ex_call11 (ρ : Operand → Value) (o : Oper) (w : World) (t1 t2 : Nat) (T : Array TypeId) (u v : Value) (ho : o.op = .call { callee := .value (.func 11), args := #[.tmp t1, .tmp t2], argTypes := T }) (hf : ρ (.func 11) = .func (.func 11) #[] #[]) (h1 : ρ (.tmp t1) = u) (h2 : ρ (.tmp t2) = v) :
    (execOp ρ o).run Try.prog w = .ok (.enter 11 #[u, v]) w := by
  unfold execOp
  rw [ho]
  clear ho
  go_simp
theorem ex_call12 (ρ : Operand → Value) (o : Oper) (w : World) (t1 t2 : Nat) (T : Array TypeId) (u v : Value) (ho : o.op = .call { callee := .value (.func 12), args := #[.tmp t1, .tmp t2], argTypes := T }) (hf : ρ (.func 12) = .func (.func 12) #[] #[]) (h1 : ρ (.tmp t1) = u) (h2 : ρ (.tmp t2) = v) :
    (execOp ρ o).run Try.prog w = .ok (.enter 12 #[u, v]) w := by
  unfold execOp
  rw [ho]
  clear ho
  go_simp
theorem ex_call13 (ρ : Operand → Value) (o : Oper) (w : World) (t1 t2 : Nat) (T : Array TypeId) (u v : Value) (ho : o.op = .call { callee := .value (.func 13), args := #[.tmp t1, .tmp t2], argTypes := T }) (hf : ρ (.func 13) = .func (.func 13) #[] #[]) (h1 : ρ (.tmp t1) = u) (h2 : ρ (.tmp t2) = v) :
    (execOp ρ o).run Try.prog w = .ok (.enter 13 #[u, v]) w := by
  unfold execOp
  rw [ho]
  clear ho
  go_simp
/-- two cells that are no numbers, stored over. -/
theorem RowD.over {w : World} {v : Value} {l : List Du} (h : RowD w v l) {b : Nat} {c0 c1 : Value} (t : Two w b c0 c1) (h0 : ∀ k i, c0 ≠ .int k i) (h1 : ∀ k i, c1 ≠ .int k i) (x y : Value) : RowD ((w.setCell ⟨b, 0, none⟩ x).setCell ⟨b, 1, none⟩ y) v l :=
  (h.set _ _ x t.c0 h0).set _ c1 y ((World.cell?_setCell_other w ⟨b, 0, none⟩ ⟨b, 1, none⟩ _ (fun e => by injection e with _ e; cases e)).trans t.c1) h1
theorem Two.set2 {w : World} {b : Nat} {c0 c1 : Value} (t : Two w b c0 c1) (x y : Value) : Two ((w.setCell ⟨b, 0, none⟩ x).setCell ⟨b, 1, none⟩ y) b x y := by
  have n01 : (⟨b, 0, none⟩ : Addr) ≠ ⟨b, 1, none⟩ := fun e => by injection e with _ e; cases e
  refine ⟨?_, ?_, ?_, ?_⟩
  · rw [World.cell?_setCell_other _ _ _ _ n01.symm]
    exact World.cell?_setCell_same _ _ _ t.c0
  · refine World.cell?_setCell_same _ _ _ (u := c1) ?_
    rw [World.cell?_setCell_other _ _ _ _ n01]
    exact t.c1
  · rw [World.frozen?_setCell, World.frozen?_setCell]
    exact t.f0
  · rw [World.frozen?_setCell, World.frozen?_setCell]
    exact t.f1
theorem Two.off {w : World} {b d : Nat} {c0 c1 : Value} (t : Two w b c0 c1) (hn : b ≠ d) (x y : Value) : Two ((w.setCell ⟨d, 0, none⟩ x).setCell ⟨d, 1, none⟩ y) b c0 c1 := by
  have n : ∀ i j, (⟨d, i, none⟩ : Addr) ≠ ⟨b, j, none⟩ := fun i j e => by injection e with e; exact hn e.symm
  refine ⟨?_, ?_, ?_, ?_⟩
  · rw [World.cell?_setCell_other _ _ _ _ (n 1 0), World.cell?_setCell_other _ _ _ _ (n 0 0)]; exact t.c0
  · rw [World.cell?_setCell_other _ _ _ _ (n 1 1), World.cell?_setCell_other _ _ _ _ (n 0 1)]; exact t.c1
  · rw [World.frozen?_setCell, World.frozen?_setCell]; exact t.f0
  · rw [World.frozen?_setCell, World.frozen?_setCell]; exact t.f1
/-- what the region leaves behind: the document's three answers in blocks of their own. -/
def RR (w3 : World) (o1 o2 : Bool) (K1 K2 K3 K4 : List Du) (s13 s14 s15 : Value) (w : World) : Prop :=
  ∃ b1 b2 b3 a1 c1 a2 c2 a3 c3 a4 c4, s13 = .pointer (some ⟨b1, 0, none⟩) ∧ s14 = .pointer (some ⟨b2, 0, none⟩) ∧ s15 = .pointer (some ⟨b3, 0, none⟩) ∧
    Two w b1 (.slice a1 K1.length c1) (.bool o1) ∧ Two w b2 (.slice a2 K2.length c2) (.bool o2) ∧ Two w b3 (.slice a3 K3.length c3) (.slice a4 K4.length c4) ∧
    RowD w (.slice a1 K1.length c1) K1 ∧ RowD w (.slice a2 K2.length c2) K2 ∧ RowD w (.slice a3 K3.length c3) K3 ∧ RowD w (.slice a4 K4.length c4) K4 ∧ Grw w3 w
end Go.Proofs.Ytjkhgpdhhnfmlaa
