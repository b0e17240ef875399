/- The line's Push; heap.Push, Pop, Remove. -/
import Derived.Test.YtlopijcpnfkcgaaQQc
namespace Go.Proofs.Ytlopijcpnfkcgaa
namespace QQ
open Go.RowKit
set_option linter.unusedSimpArgs false

/-- the row behind is the row ahead or a new one. -/
def Near (w : World) (v v' : Value) : Prop := v'.ownBlock = v.ownBlock ∨ ∃ k, v'.ownBlock = some k ∧ w.heap.size ≤ k
theorem assert37 (v : Value) (w : World) : (Instr.typeAssert (.iface 69 v) 20 69 false).run Try.prog w = .ok v w := by kernel_rfl
set_option maxHeartbeats 1000000 in
set_option maxRecDepth 100000 in
theorem line_push (b o : Nat) (a : Int) (v : Value) (l : List Wt) (x : Wt) (w : World) (h : LV b o a v w l) (hb : l.length ≤ 1000000) :
    Calls Try.prog 90 #[.pointer (some ⟨b, o, none⟩), .iface 69 (wv x)] w fun e w' => e = .returned (.tuple #[]) ∧ ∃ v', LV b o a v' w' (l ++ [x]) ∧ Frm (fun k => k = b ∨ v.ownBlock = some k) w w' ∧ Near w v v' ∧ Rest b (o + 1) w w' := by
  have H := Lib.hid h
  obtain ⟨v', w1, hr, ho, hf, hn⟩ := app_one w v l x h.row hb
  obtain ⟨xi, xc, xm⟩ := x
  obtain ⟨ao', cap', rfl⟩ := own_slice ho
  have hne : (Value.slice ao' (l ++ [(⟨xi, xc, xm⟩ : Wt)]).length cap').ownBlock ≠ some b := by
    rcases hn with hn | ⟨k, hk, hw⟩
    · rw [hn]; exact h.ne
    · intro e
      rw [e] at hk
      injection hk with hk
      have := World.block_lt_of_cell? _ _ h.c1
      simp only at this
      omega
  have c1 := h.c1
  have ca : ∀ u, (w.alloc u).cell? ⟨b, o + 1, none⟩ = some v := fun u => ((Grw.rfl' w).alloc u).cell c1
  have e0 := hf.cell h.c0 h.ne
  have e1 := hf.cell h.c1 h.ne
  have g1 := frz_frm hf h.c1 h.ne h.f1
  have RE := Lib.hid (lv_reput e0 e1 g1 ho hne)
  have HF := Lib.hid (hf.mono (G := fun k => k = b ∨ v.ownBlock = some k) (fun k e => Or.inr e))
  have RS : Hid (∀ u, Rest b (o + 1) w (w1.setCell ⟨b, o + 1, none⟩ u)) := (fun u => (Rest.frm hf (World.block_lt_of_cell? _ _ h.c1) h.ne).trans (Rest.set _ _ _ _) : ∀ u, Rest b (o + 1) w (w1.setCell ⟨b, o + 1, none⟩ u))
  have HN : Hid (Near w v (.slice ao' (l ++ [(⟨xi, xc, xm⟩ : Wt)]).length cap')) := hn
  obtain ⟨n, hln⟩ : ∃ n, (l ++ [(⟨xi, xc, xm⟩ : Wt)]).length = n := ⟨_, rfl⟩
  rw [hln] at hr RE HN
  have R1 := Lib.hid hr
  clear hln
  clear h hr ho hf hn hne e0
  have as37 := assert37 (.agg #[.int .i64 xi, .int .i64 xc, .int .i64 xm])
  change Calls Try.prog 90 #[_, .iface 69 (.agg #[.int .i64 xi, .int .i64 xc, .int .i64 xm])] w _
  go_enter Try.func90, Try.ntmps90
  go_wp2_with fail
  go_region_law (refine step_append_run rfl (.tmp 8) (.tmp 11) 55 rfl v (.slice (some ⟨w.heap.size, 0, none⟩) 1 1) rfl rfl R1.out ?_)
  all_goals
    go_wp2_with fail
    go_end0
    exact ⟨rfl, _, RE.out, HF.out.set _ _ (Or.inl (Or.inl rfl)), HN.out, RS.out _⟩
end QQ
end Go.Proofs.Ytlopijcpnfkcgaa
