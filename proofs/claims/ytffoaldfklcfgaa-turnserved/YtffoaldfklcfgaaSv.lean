/- append of a row of jobs to a row of one's own, as an equation and as a step of a region that draws. -/
import Derived.Test.YtffoaldfklcfgaaRx
namespace Go.Proofs.Ytffoaldfklcfgaa
open Go.RowKit
set_option linter.unusedSimpArgs false

theorem step_append_run {P : Program} {ops : Array Oper} {o : Oper} {a : Act} {w : World} {K : Act → World → Prop} {Q : Exit → Act → World → Prop} {E : Prop} (hgd : o.guard = none) (s x : Operand) (t : TypeId)
    (ho : o.op = .call { callee := .builtin .append, args := #[s, x], argTypes := #[t, t] }) (vs vx : Value) (hs : a.eval s = vs) (hx : a.eval x = vx) {v' : Value} {w' : World}
    (hr : (Builtin.append_ #[t, t] o.type #[vs, vx]).run P w = .ok v' w') (h : K (a.put o.dst v') w') :
    if Region.wanted o (yielded ops a.tmps) = true then Oper.wp P o a w K Q else E := by
  have hw : Region.wanted o (yielded ops a.tmps) = true := by simp [Region.wanted, hgd]
  rw [if_pos hw]
  unfold Oper.wp
  simp [execOp, ho, resolve, invoke, builtin, hs, hx, hr, Result.andThen]
  exact h
/-- append(v, u...), u a row of jobs. -/
theorem app_some (w : World) (B : Nat) (v : Value) (l k : List Wt) (ho : w.ownsRow B 24 3 v l.length (cw l)) (b off cap : Nat) (hl : Lies w (some ⟨b, off, none⟩) (cw k)) (hb : l.length + k.length ≤ 1000000) (hB : B ≤ w.heap.size) :
    ∃ v' w', (Builtin.append_ #[25, 25] 25 #[v, .slice (some ⟨b, off, none⟩) k.length cap]).run Try.prog w = .ok v' w' ∧ w'.ownsRow B 24 3 v' (l ++ k).length (cw (l ++ k)) ∧ w.grownBy w' v.ownBlock := by
  obtain ⟨i0, hi, hz0, hz1, hz2⟩ := info_parts Try.info24
  rw [List.length_append, cw_app]
  have hnews : ∀ j x, (cw k)[j]? = some x → w.cell? ((⟨b, off, none⟩ : Addr).add j) = some x := by
    intro j x hj
    rcases hl with h | ⟨b', off', e, _, hc⟩
    · rw [h] at hj; cases hj
    · injection e with e
      injection e with e1 e2
      subst e1 e2
      rw [Addr.add_lit]
      exact hc j x hj
  obtain ⟨v', w', h1, h2, h3, _⟩ := run_append_own (P := Try.prog) w B 25 25 24 i0 _ 3 24 Try.underlying25 hi hz0 hz1 hz2 rfl (by decide) v l.length (cw l) ho ⟨b, off, none⟩ k.length cap (cw k) (cw_len k) hnews (cw_one k) (by unfold maxLen; omega) (by omega) hB
  exact ⟨v', w', h1, h2, h3⟩
/-- a new block of one job, and one of none, as rows of one's own. -/
theorem own_one (w : World) (B : Nat) (x : Wt) (h : B ≤ w.heap.size) : (w.alloc (.cells #[.int .i64 x.id, .int .i64 x.cl, .int .i64 x.ca] 24)).ownsRow B 24 3 (.slice (some ⟨w.heap.size, 0, none⟩) 1 1) 1 (cw [x]) :=
  ⟨rfl, .inr ⟨w.heap.size, 1, _, rfl, h, heap_alloc_new w _, Nat.le_refl _, by unfold maxLen; omega, rfl, rfl⟩⟩
theorem own_none (w : World) (B : Nat) (h : B ≤ w.heap.size) : (w.alloc (.cells #[] 24)).ownsRow B 24 3 (.slice (some ⟨w.heap.size, 0, none⟩) 0 0) 0 (cw []) :=
  ⟨rfl, .inr ⟨w.heap.size, 0, _, rfl, h, heap_alloc_new w _, Nat.le_refl _, by unfold maxLen; omega, rfl, rfl⟩⟩
/-- all but the f-th: two appends to a new row. -/
theorem cut_ex (w0 w : World) (l : List Wt) (f cap : Nat) (hf : f < l.length) (b off b2 off2 m2 cap2 : Nat) (hl : Lies w (some ⟨b, off, none⟩) (cw l)) (hl2 : Lies w (some ⟨b2, off2, none⟩) (cw (l.drop (f + 1)))) (hm2 : l.length - (f + 1) = m2) (hb : l.length ≤ 1000) (g : Grw w0 w) :
    ∃ v1 w1 v2 w2, (Builtin.append_ #[25, 25] 25 #[.slice (some ⟨w.heap.size, 0, none⟩) 0 0, .slice (some ⟨b, off, none⟩) f cap]).run Try.prog (w.alloc (.cells #[] 24)).drew = .ok v1 w1 ∧
      (Builtin.append_ #[25, 25] 25 #[v1, .slice (some ⟨b2, off2, none⟩) m2 cap2]).run Try.prog w1 = .ok v2 w2 ∧
      w2.ownsRow w0.heap.size 24 3 v2 (l.take f ++ l.drop (f + 1)).length (cw (l.take f ++ l.drop (f + 1))) ∧ Grw w0 w2 := by
  have ga : Grw w (w.alloc (.cells #[] 24)).drew := ((Grw.rfl' w).alloc _).drew
  have hB : w0.heap.size ≤ w.heap.size := Below.size g
  have o1 : ((w.alloc (.cells #[] 24)).drew).ownsRow w0.heap.size 24 3 (.slice (some ⟨w.heap.size, 0, none⟩) 0 0) 0 (cw []) := own_later (own_none w w0.heap.size hB) ((Grw.rfl' _).drew)
  have t1 : (l.take f).length = f := by rw [List.length_take]; omega
  have l1 := lies_take (hl.later ga) f
  obtain ⟨v1, w1, r1, h1, g1⟩ := app_some (w.alloc (.cells #[] 24)).drew w0.heap.size _ [] (l.take f) o1 b off cap l1 (by rw [t1]; simp; omega) (Nat.le_trans hB (Below.size ga))
  rw [t1] at r1
  have ow1 : Grw w w1 := (grownBy_frm g1).grw ga (fun k hk => by injection hk with hk; subst hk; exact Nat.le_refl _)
  have t2 : (l.drop (f + 1)).length = m2 := by rw [List.length_drop]; exact hm2
  have gr1 : Grw w0 w1 := g.trans ow1
  obtain ⟨v2, w2, r2, h2, g2⟩ := app_some w1 w0.heap.size v1 ([] ++ l.take f) (l.drop (f + 1)) h1 b2 off2 cap2 (hl2.later ow1) (by rw [t2, List.nil_append, t1]; omega) (Nat.le_trans hB (Below.size ow1))
  rw [t2] at r2
  rw [List.nil_append] at h2
  exact ⟨v1, w1, v2, w2, r1, r2, h2, grown_own h1 gr1 g2⟩
end Go.Proofs.Ytffoaldfklcfgaa
