/- A scope in which the run jumps forward, a bounded number of times, to whatever labels. Nothing of the program is named here. -/
import Derived.Scope
import Derived.WalkMore
namespace Go.Proofs.YtiocnagbcbhggaaDoor

/-- As Q; by a goto: the text behind that label, with one jump fewer. -/
def jumps (P : Program) (c : Code) (Q : Exit → Act → World → Prop) : Nat → Exit → Act → World → Prop
  | 0, .goto _, _, _ => False
  | n + 1, .goto l, a, w => ∃ rest, findLabel c l = some rest ∧ rest.wp P (jumps P c Q n) a w
  | _, e, a, w => Q e a w

section
variable {P : Program} {c : Code} {Q : Exit → Act → World → Prop} {a : Act} {w : World}
theorem jumps_ret (n : Nat) : jumps P c Q n .ret a w = Q .ret a w := by cases n <;> simp [jumps]
theorem jumps_normal (n : Nat) : jumps P c Q n .normal a w = Q .normal a w := by cases n <;> simp [jumps]
theorem jumps_exit (n : Nat) (id : Nat) : jumps P c Q n (.exit id) a w = Q (.exit id) a w := by cases n <;> simp [jumps]
theorem jumps_goto (n : Nat) (l : Nat) {rest : Code} (hf : findLabel c l = some rest) (h : rest.wp P (jumps P c Q n) a w) : jumps P c Q (n + 1) (.goto l) a w := by
  simp only [jumps]; exact ⟨rest, hf, h⟩

theorem wp_scope_n (n : Nat) (h : c.wp P (jumps P c Q n) a w) : (Code.scope c).wp P Q a w := by
  intro b k cs
  have key : ∀ (n : Nat) (r : Code) (a : Act) (w : World), r.wp P (jumps P c Q n) a w → ∃ e a' w', Q e a' w' ∧ Arrives P (lone (b.at a (.code r :: .inScope c :: k)) cs w) b k cs e a' w' := by
    intro n
    induction n with
    | zero =>
      intro r a w hr
      obtain ⟨e, a₁, w₁, hq, harr⟩ := hr b (.inScope c :: k) cs
      cases e with
      | normal => exact ⟨.normal, a₁, w₁, by rwa [jumps_normal] at hq, Steps.trans harr (.one step_inScope)⟩
      | exit id => exact ⟨.exit id, a₁, w₁, by rwa [jumps_exit] at hq, fun k' hk => harr k' (by simp [exitTo, hk])⟩
      | goto l => simp [jumps] at hq
      | ret => exact ⟨.ret, a₁, w₁, by rwa [jumps_ret] at hq, harr⟩
      | panic ch => exact ⟨.panic ch, a₁, w₁, by simpa [jumps] using hq, harr⟩
      | outgrown => exact ⟨.outgrown, a₁, w₁, by simpa [jumps] using hq, harr⟩
    | succ n ih =>
      intro r a w hr
      obtain ⟨e, a₁, w₁, hq, harr⟩ := hr b (.inScope c :: k) cs
      cases e with
      | normal => exact ⟨.normal, a₁, w₁, by rwa [jumps_normal] at hq, Steps.trans harr (.one step_inScope)⟩
      | exit id => exact ⟨.exit id, a₁, w₁, by rwa [jumps_exit] at hq, fun k' hk => harr k' (by simp [exitTo, hk])⟩
      | goto l =>
        simp only [jumps] at hq
        obtain ⟨rest, hf, hq⟩ := hq
        have hg : gotoIn l (.inScope c :: k) = some (.code rest :: .inScope c :: k) := by simp [gotoIn, hf]
        obtain ⟨e₂, a₂, w₂, hq₂, harr₂⟩ := ih rest a₁ w₁ hq
        exact ⟨e₂, a₂, w₂, hq₂, .of_steps (harr _ hg) harr₂⟩
      | ret => exact ⟨.ret, a₁, w₁, by rwa [jumps_ret] at hq, harr⟩
      | panic ch => exact ⟨.panic ch, a₁, w₁, by simpa [jumps] using hq, harr⟩
      | outgrown => exact ⟨.outgrown, a₁, w₁, by simpa [jumps] using hq, harr⟩
  obtain ⟨e, a₁, w₁, hq, harr⟩ := key n c a w h
  exact ⟨e, a₁, w₁, hq, .of_steps (.one step_scope) harr⟩

/-- The same behind a name: what is met at a return, and at a goto. -/
theorem wp_scope_named (N : Nat) (h : ∀ J : Nat → Exit → Act → World → Prop, (∀ n a w, Q .ret a w → J n .ret a w) →
    (∀ n l a w rest, findLabel c l = some rest → rest.wp P (J n) a w → J (n + 1) (.goto l) a w) → c.wp P (J N) a w) : (Code.scope c).wp P Q a w :=
  wp_scope_n N (h (jumps P c Q) (fun n a w hq => by rw [jumps_ret]; exact hq) (fun n l a w rest hf hr => jumps_goto n l hf hr))
end
end Go.Proofs.YtiocnagbcbhggaaDoor
