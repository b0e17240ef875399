/- A region that draws its order, by what holds of all that is listed so far: an invariant over the orders. -/
import Derived.Test.YtjkhgpdhhnfmlaaTb
import Derived.RegionTactic
namespace Go.Proofs.Ytjkhgpdhhnfmlaa
open Go.RowKit
set_option linter.unusedVariables false

theorem count_next {l : Array Bool} {i : Nat} (h : l.getD i true = false) : (l.setIfInBounds i true).toList.count false + 1 = l.toList.count false := by
  obtain ⟨l⟩ := l
  have hi : i < l.length := by
    rcases Nat.lt_or_ge i l.length with g | g
    · exact g
    · simp [Array.getD, Nat.not_lt.2 g] at h
  have he : l[i] = false := by simpa [Array.getD, hi] using h
  simp only [List.setIfInBounds_toArray]
  rw [List.count_set hi, he]
  have : 0 < l.count false := List.count_pos_iff.2 (he ▸ List.getElem_mem hi)
  simp
  omega
theorem ready_iff {md : Region.Mode} {ops : Array Oper} {l : Array Bool} {i : Nat} : i ∈ Region.ready md ops l ↔ i < ops.size ∧ l.getD i true = false ∧ ∃ o, ops[i]? = some o ∧ (o.after.all fun e => !Region.binds md e || l.getD e.on false) = true := by
  unfold Region.ready
  rw [List.mem_filter, List.mem_range]
  cases h : ops[i]? with
  | none => simp
  | some o => simp
theorem getD_false {l : Array Bool} {i : Nat} (hi : i < l.size) (h : l.getD i false = false) : l.getD i true = false := by
  simp [Array.getD, hi] at h ⊢
  exact h
/-- what each operation waits for stands ahead of it. -/
def lowB (md : Region.Mode) (ops : Array Oper) : Bool := (List.range ops.size).all fun i => ((ops[i]?).map fun o => o.after.all fun e => !Region.binds md e || decide (e.on < i)).getD true
theorem ready_of {md : Region.Mode} {ops : Array Oper} {l : Array Bool} (hlow : lowB md ops = true) (hs : l.size = ops.size) :
    ∀ k i, i < k → i < ops.size → l.getD i true = false → Region.ready md ops l ≠ []
  | 0, _, h, _, _ => absurd h (Nat.not_lt_zero _)
  | k + 1, i, hk, hi, h => by
    have ho : ops[i]? = some ops[i] := Array.getElem?_eq_getElem hi
    have hl := List.all_eq_true.1 hlow i (List.mem_range.2 hi)
    rw [ho] at hl
    simp only [Option.map_some, Option.getD_some] at hl
    cases hd : (ops[i].after.all fun e => !Region.binds md e || l.getD e.on false) with
    | true => exact List.ne_nil_of_mem (ready_iff.2 ⟨hi, h, _, ho, hd⟩)
    | false =>
      rw [Array.all_eq_false'] at hd
      obtain ⟨e, he, h2⟩ := hd
      have h1 := Array.all_eq_true'.1 hl e he
      simp only [Bool.or_eq_true, Bool.not_eq_true', decide_eq_true_eq] at h1
      simp only [Bool.or_eq_true, Bool.not_eq_true', not_or, Bool.not_eq_false, Bool.not_eq_true] at h2
      rcases h1 with h1 | h1
      · rw [h2.1] at h1
        cases h1
      · exact ready_of hlow hs k e.on (by omega) (by omega) (getD_false (by omega) h2.2)
theorem wpAny_inv {P : Program} {md : Region.Mode} {ops : Array Oper} {Q : Exit → Act → World → Prop} (I : Array Bool → Act → World → Prop) (stop : Nat) (hlow : lowB md ops = true)
    (hs : ∀ l a w, I l a w → l.size = ops.size)
    (step : ∀ l a w, I l a w → stop < l.toList.count false → ∀ i ∈ Region.ready md ops l, wpOp P ops Q i (I (l.setIfInBounds i true)) a w)
    (fin : ∀ l a w, I l a w → l.toList.count false = stop → wpAny P md ops Q stop l a w) :
    ∀ f l a w, I l a w → l.toList.count false = stop + f → wpAny P md ops Q (stop + f) l a w
  | 0, l, a, w, h, hc => fin l a w h hc
  | f + 1, l, a, w, h, hc => by
    refine ⟨fun hr => ?_, fun i hi => ?_⟩
    · obtain ⟨i, hi, e⟩ := List.getElem_of_mem (List.count_pos_iff.1 (show 0 < l.toList.count false by omega))
      exact absurd hr (ready_of hlow (hs _ _ _ h) (i + 1) i (Nat.lt_succ_self _) (by rw [← hs _ _ _ h]; simpa using hi) (by
        have hi' : i < l.size := by simpa using hi
        simp [Array.getD, hi']
        simpa using e))
    · refine wpOp_mono (fun a' w' h' => ?_) (step l a w h (by omega) i hi)
      have := count_next (ready_iff.1 hi).2.1
      exact wpAny_inv I stop hlow hs step fin f _ _ _ h' (by omega)
/-- all but the last are listed. -/
theorem listed_is {l : Array Bool} (m k : Nat) (hs : l.size = m + k) (hf : ∀ j, m ≤ j → j < m + k → l.getD j true = false) (hc : l.toList.count false = k) : l = (List.replicate m true ++ List.replicate k false).toArray := by
  obtain ⟨l⟩ := l
  simp at hs hc
  have hd : l.drop m = List.replicate k false := by
    rw [List.eq_replicate_iff]
    refine ⟨by simp [hs], fun b hb => ?_⟩
    obtain ⟨j, hj, e⟩ := List.getElem_of_mem hb
    simp at hj e
    have := hf (m + j) (by omega) (by omega)
    simp [Array.getD, show m + j < l.length by omega] at this
    rw [← e, this]
  have ht : l.take m = List.replicate m true := by
    rw [List.eq_replicate_iff]
    refine ⟨by simp [hs], fun b hb => ?_⟩
    cases b with
    | true => rfl
    | false =>
      have h1 : (l.take m ++ l.drop m).count false = k := by rw [List.take_append_drop]; exact hc
      rw [List.count_append, hd, List.count_replicate] at h1
      have : 0 < (l.take m).count false := List.count_pos_iff.2 hb
      simp at h1
      omega
  congr 1
  rw [← ht, ← hd, List.take_append_drop]
/-- the invariant: each of the first m operations that is listed has yielded what F says; blocks are apart; what one waits for is listed. -/
def IV (F : Nat → World → Value → Prop) (mk : (Nat → Value) → Act) (w0 : World) (ops : Array Oper) (m : Nat) (ap : Nat → Bool) (l : Array Bool) (a : Act) (w : World) : Prop :=
  l.size = ops.size ∧ ∃ s : Nat → Value, a = mk s ∧ Grw w0 w ∧ (∀ j, j < m → l.getD j true = true → F j w (s j)) ∧
    (∀ j k, j < m → k < m → ap j = true → ap k = true → j ≠ k → l.getD j true = true → l.getD k true = true → s j ≠ s k) ∧
    (∀ j, m ≤ j → j < ops.size → l.getD j true = false) ∧
    (∀ j o, ops[j]? = some o → l.getD j true = true → (o.after.all fun e => !Region.binds .any e || l.getD e.on false) = true)
theorem set_on {l : Array Bool} {i j : Nat} (b : Bool) (h : l.getD j b = true) : (l.setIfInBounds i true).getD j b = true := by
  unfold Array.getD at h ⊢
  split
  · rename_i g
    by_cases e : i = j
    · subst e; simp
    · have g' : j < l.size := by simpa using g
      simp [g'] at h
      show (l.setIfInBounds i true)[j] = true
      rw [Array.getElem_setIfInBounds, if_neg e]
      exact h
  · rename_i g
    have g' : ¬ j < l.size := by simpa using g
    simpa [g'] using h
theorem set_off {l : Array Bool} {i j : Nat} (e : j ≠ i) : (l.setIfInBounds i true).getD j true = l.getD j true := by
  unfold Array.getD
  by_cases g : j < l.size
  · simp [g, Ne.symm e]
  · simp [g]
theorem IV.next {F : Nat → World → Value → Prop} {mk : (Nat → Value) → Act} {w0 : World} {ops : Array Oper} {m : Nat} {ap : Nat → Bool} {l : Array Bool} {w : World} (hF : ∀ j w w' v, F j w v → Grw w w' → F j w' v) {s : Nat → Value}
    (hsz : l.size = ops.size) (hg : Grw w0 w) (hf : ∀ j, j < m → l.getD j true = true → F j w (s j))
    (ha : ∀ j k, j < m → k < m → ap j = true → ap k = true → j ≠ k → l.getD j true = true → l.getD k true = true → s j ≠ s k)
    (ho : ∀ j, m ≤ j → j < ops.size → l.getD j true = false)
    (hc : ∀ j o, ops[j]? = some o → l.getD j true = true → (o.after.all fun e => !Region.binds .any e || l.getD e.on false) = true)
    {i : Nat} (hi : i < m) {o : Oper} (hio : ops[i]? = some o) (hd : (o.after.all fun e => !Region.binds .any e || l.getD e.on false) = true) {w' : World} (g : Grw w w') (v : Value) (new : F i w' v)
    (hap : ap i = true → ∀ j, j < m → ap j = true → l.getD j true = true → s j ≠ v) {a' : Act} (he : a' = mk (fun j => if j = i then v else s j)) :
    IV F mk w0 ops m ap (l.setIfInBounds i true) a' w' := by
  refine ⟨by simpa using hsz, _, he, hg.trans g, fun j hj h => ?_, fun j k hj hk aj ak hjk h h' => ?_, fun j hj hj' => ?_, fun j p hp h => ?_⟩
  · by_cases e : j = i
    · subst e
      simpa using new
    · rw [set_off e] at h
      simpa [e] using hF _ _ _ _ (hf j hj h) g
  · by_cases e : j = i
    · subst e
      rw [set_off (Ne.symm hjk)] at h'
      have := hap aj k hk ak h'
      simp [Ne.symm hjk]
      exact fun q => this q.symm
    · rw [set_off e] at h
      by_cases e' : k = i
      · subst e'
        simp [e]
        exact hap ak j hj aj h
      · rw [set_off e'] at h'
        simp [e, e']
        exact ha j k hj hk aj ak hjk h h'
  · rw [set_off (by omega)]
    exact ho j hj hj'
  · have mono : ∀ q : Oper, (q.after.all fun e => !Region.binds .any e || l.getD e.on false) = true → (q.after.all fun e => !Region.binds .any e || (l.setIfInBounds i true).getD e.on false) = true := fun q hq => by
      rw [Array.all_eq_true'] at hq ⊢
      intro e he
      have := hq e he
      simp only [Bool.or_eq_true] at this ⊢
      exact this.imp id (set_on false)
    by_cases e : j = i
    · subst e
      rw [hio] at hp
      cases hp
      exact mono _ hd
    · rw [set_off e] at h
      exact mono _ (hc j p hp h)
theorem IV.start (F : Nat → World → Value → Prop) (mk : (Nat → Value) → Act) (w0 : World) (ops : Array Oper) (m : Nat) (hm : m ≤ ops.size) (ap : Nat → Bool) (s : Nat → Value) {a : Act} {w : World} (ha : a = mk s) (hg : Grw w0 w) : IV F mk w0 ops m ap (Array.replicate ops.size false) a w := by
  have hz : ∀ j, j < ops.size → (Array.replicate ops.size false).getD j true = true → False := fun j hj h => by simp [Array.getD, hj] at h
  refine ⟨by simp, s, ha, hg, fun j hj h => (hz j (by omega) h).elim, fun j k hj _ _ _ _ h => (hz j (by omega) h).elim, fun j _ hj => by simp [Array.getD, hj], fun j o hp h => (hz j ?_ h).elim⟩
  rcases Nat.lt_or_ge j ops.size with g | g
  · exact g
  · rw [Array.getElem?_eq_none g] at hp
    cases hp
theorem count_le {l : Array Bool} (m k : Nat) (hs : l.size = m + k) (h : ∀ j, j < m → l.getD j true = true) : l.toList.count false ≤ k := by
  obtain ⟨l⟩ := l
  simp at hs
  have h1 : (l.take m).count false = 0 := by
    rw [List.count_eq_zero]
    intro hb
    obtain ⟨j, hj, e⟩ := List.getElem_of_mem hb
    simp at hj e
    have hj2 : j < l.length := by omega
    have := h j (by omega)
    simp [Array.getD, hj2] at this
    rw [e] at this
    cases this
  have h2 : (l.drop m).count false ≤ (l.drop m).length := List.count_le_length
  have h3 : l.count false = (l.take m).count false + (l.drop m).count false := by rw [← List.count_append, List.take_append_drop]
  simp at h2
  show l.count false ≤ k
  omega
theorem on_of {l : Array Bool} {i : Nat} (hi : i < l.size) (h : l.getD i false = true) : l.getD i true = true := by
  simp [Array.getD, hi] at h ⊢
  exact h
/-- THE WALK OF A REGION THAT DRAWS ITS ORDER, BY AN INVARIANT: the first m operations in whatever order, each of them once; the last ones, in whatever state the first have left. -/
theorem wpAny_iv {P : Program} {ops : Array Oper} {Q : Exit → Act → World → Prop} (mkf : Act → (Nat → Value) → Act) (F : Nat → World → Value → Prop) (w0 : World) (m stop : Nat) (ap : Nat → Bool) (s0 : Nat → Value) {a0 : Act} {w : World}
    (hlow : lowB .any ops = true) (hsz : ops.size = m + stop) (ha : a0 = mkf a0 s0) (hg : Grw w0 w) (hF : ∀ j w w' v, F j w v → Grw w w' → F j w' v)
    (hput : ∀ i o s v, i < m → ops[i]? = some o → (mkf a0 s).put o.dst v = mkf a0 (fun j => if j = i then v else s j))
    (late : ∀ l : Array Bool, (∀ j o, ops[j]? = some o → l.getD j false = true → (o.after.all fun e => !Region.binds .any e || l.getD e.on false) = true) → ∀ i o, m ≤ i → ops[i]? = some o → (o.after.all fun e => !Region.binds .any e || l.getD e.on false) = true → (∀ j, m ≤ j → j < ops.size → l.getD j false = false) → ∀ j, j < m → l.getD j false = true)
    (step : ∀ i o, i < m → ops[i]? = some o → ∀ (s : Nat → Value) w, Grw w0 w → (∀ j, j < m → (o.after.any fun e => Region.binds .any e && e.on == j) = true → F j w (s j)) →
      ∀ K : Act → World → Prop, (∀ v w', Grw w w' → F i w' v → (ap i = true → ∀ j x, j < m → ap j = true → F j w x → x ≠ v) → K ((mkf a0 s).put o.dst v) w') →
        if Region.wanted o (yielded ops (mkf a0 s).tmps) = true then Oper.wp P o (mkf a0 s) w K Q else K ((mkf a0 s).put o.dst undef) w)
    (fin : ∀ (s : Nat → Value) w, Grw w0 w → (∀ j, j < m → F j w (s j)) → (∀ j k, j < m → k < m → ap j = true → ap k = true → j ≠ k → s j ≠ s k) → wpAny P .any ops Q stop (List.replicate m true ++ List.replicate stop false).toArray (mkf a0 s) w) :
    wpAny P .any ops Q ops.size (Array.replicate ops.size false) a0 w := by
  have hcount : (Array.replicate ops.size false).toList.count false = stop + m := by simp [hsz]; omega
  have := wpAny_inv (P := P) (Q := Q) (IV F (mkf a0) w0 ops m ap) stop hlow (fun l a w h => h.1) ?_ ?_ m _ _ _ (IV.start F (mkf a0) w0 ops m (by omega) ap s0 ha hg) hcount
  · rwa [show stop + m = ops.size by omega] at this
  · rintro l a w ⟨h1, s, rfl, hgw, hf, hap, hoff, hc⟩ hcnt i hi
    obtain ⟨hi1, hi2, o, ho, hd⟩ := ready_iff.1 hi
    rcases Nat.lt_or_ge i m with him | him
    · refine wpOp_step ho (fun K hK => step i o him ho s w hgw (fun j hj hw => hf j hj ?_) K (fun v w' g new fr => hK _ _ ?_))
      · rw [Array.any_eq_true'] at hw
        obtain ⟨e, he, hw⟩ := hw
        rw [Array.all_eq_true'] at hd
        have := hd e he
        simp only [Bool.and_eq_true, beq_iff_eq] at hw
        rw [hw.1, hw.2] at this
        exact on_of (by omega) (by simpa using this)
      · exact IV.next hF h1 hgw hf hap hoff hc him ho hd g v new (fun hi j hj aj hl => fr hi j _ hj aj (hf j hj hl)) (hput i o s v him ho)
    · have hl := late l (fun j o' ho' hj => hc j o' ho' (by
        rcases Nat.lt_or_ge j l.size with g | g
        · exact on_of g hj
        · simp [Array.getD, Nat.not_lt.2 g] at hj)) i o him ho hd (fun j hj hj' => by
          have := hoff j hj hj'
          have hj2 : j < l.size := by omega
          simp [Array.getD, hj2] at this ⊢
          exact this)
      have := count_le m stop (by omega) (fun j hj => on_of (by omega) (hl j hj))
      omega
  · rintro l a w ⟨h1, s, rfl, hgw, hf, hap, hoff, hc⟩ hcnt
    have hl := listed_is m stop (by omega) (fun j hj hj' => hoff j hj (by omega)) hcnt
    have on : ∀ j, j < m → l.getD j true = true := fun j hj => by rw [hl]; simp [Array.getD, hj, show j < m + stop by omega]
    have := fin s w hgw (fun j hj => hf j hj (on j hj)) (fun j k hj hk aj ak e => hap j k hj hk aj ak e (on j hj) (on k hk))
    rwa [← hl] at this
end Go.Proofs.Ytjkhgpdhhnfmlaa
