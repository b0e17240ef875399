/- The contract of wakes at this program; a row that was made, taken apart; append behind a guard. -/
import Derived.Test.YtjkhgpdhhnfmlaaPd
namespace Go.Proofs.Ytjkhgpdhhnfmlaa
open Go.RowKit
open RG (Du)
open PM
set_option linter.unusedSimpArgs false

/-- a row that was made, taken apart. -/
theorem NewD.out {w w' : World} {v : Value} {l : List Du} (h : NewD w w' v l) : ∃ ao cap, v = .slice ao l.length cap ∧ Lies w' ao (cd l) ∧ l.length ≤ cap ∧ (ao = none → l.length = 0) := by
  obtain ⟨ao, cap, rfl, hl⟩ := NewD.row h
  refine ⟨ao, cap, rfl, hl, own_cap (base_down h), fun e => ?_⟩
  subst e
  rcases h.2 with ⟨_, h2⟩ | ⟨g', cap', cur, h1, _⟩
  · exact h2
  · injection h1 with h1; cases h1
/-- append as an operation whose guard holds, with what it does at hand. -/
theorem wp_append_guarded {P : Program} (w : World) {ops : Array Oper} {rest : List Oper} {o : Oper} {a : Act} {Q : Exit → Act → World → Prop} (hgd : Region.wanted o (yielded ops a.tmps) = true) (s x : Operand) (t : TypeId)
    (ho : o.op = .call { callee := .builtin .append, args := #[s, x], argTypes := #[t, t] }) (vs vx : Value) (hs : a.eval s = vs) (hx : a.eval x = vx) (v' : Value) (w' : World)
    (hr : (Builtin.append_ #[t, t] o.type #[vs, vx]).run P w = .ok v' w') (h : wpList P ops Q rest (a.put o.dst v') w') : wpList P ops Q (o :: rest) a w := by
  refine wpList_step fun K hK => ?_
  rw [if_pos hgd]
  unfold Oper.wp execOp
  simp only [ho, resolve, invoke, builtin, Sem.run_bind, Sem.run_pure, Result.andThen_ok, List.map_toArray, List.map_cons, List.map_nil, hs, hx, hr]
  exact hK _ _ h
/-- two timers as they are laid. -/
theorem two_lies (w : World) (a b : Du) : Lies (w.alloc (.cells #[.int .i64 a.id, .int .u64 (a.t : Nat), .int .i64 b.id, .int .u64 (b.t : Nat)] 25)) (some ⟨w.heap.size, 0, none⟩) (cd [a, b]) := by
  refine Or.inr ⟨w.heap.size, 0, rfl, by rw [size_new]; omega, fun j u hj => ?_⟩
  have := blk_cells (xs := cd [a, b]) (t := 25) (heap_alloc_new w _) j u hj
  rwa [Addr.add_lit] at this
def wl : List Du := [⟨1, 5⟩, ⟨3, 7⟩]
def wm : List Du := [⟨1, 5⟩, ⟨2, 5⟩, ⟨3, 7⟩]
theorem put_wl : RG.put ⟨2, 5⟩ wl = wm := by decide
theorem upto_wm : upto 5 wm = [⟨1, 5⟩, ⟨2, 5⟩] := by decide
theorem past_wm : past 5 wm = [⟨3, 7⟩] := by decide
theorem gd_wl : Gd wl := ⟨srt_adj (by intro j g; have : j = 0 := by simp [wl] at g; omega
                                      subst this; rfl), by decide⟩
theorem gd_wm : Gd wm := by rw [← put_wl]; exact gd_put gd_wl (by decide)
theorem gd_not : ¬ Gd [⟨2, 0⟩, ⟨1, 0⟩] := fun h => not_srt (l := [⟨2, 0⟩, ⟨1, 0⟩]) (j := 0) (by decide) rfl h.1
theorem wis_of {l : List Du} (h : ∀ d ∈ l, -100 ≤ d.id ∧ d.id ≤ 100) : Wis l := fun d hd => ⟨by have := h d hd; omega, by have := h d hd; omega⟩
set_option maxHeartbeats 2000000 in
set_option maxRecDepth 100000 in
theorem wakes_any (w : World) : Calls Try.prog 7 #[] w fun e w' => e = .returned (.bool true) ∧ Grw w w' := by
  have I := Lib.hid (insert_yes (some ⟨w.heap.size, 0, none⟩) 2 wl ⟨2, 5⟩ 2 _ (two_lies w ⟨1, 5⟩ ⟨3, 7⟩) (by decide) (wis_of (by decide)) rfl (Nat.le_refl _) (fun h => by cases h) gd_wl (by decide))
  rw [put_wl] at I
  unfold dv PlanQ at I
  simp only at I
  have GB := Lib.hid (fun u => good_is (some ⟨u.heap.size, 0, none⟩) 2 [⟨2, 0⟩, ⟨1, 0⟩] 2 false _ (two_lies u ⟨2, 0⟩ ⟨1, 0⟩) (by decide) (wis_of (by decide)) rfl (gdB_f gd_not))
  go_enter Try.func7, Try.ntmps7
  go_wp2_with fail
  refine I.out.mono ?_
  rintro _ w1 ⟨v, rfl, hnew, hg⟩
  obtain ⟨ao, cap, rfl, hl, hc, hnil⟩ := hnew.out
  have hS := split_any ao cap 5 wm w1 hl (by decide)
  unfold SplitQ at hS
  rw [upto_wm, past_wm] at hS
  have S := Lib.hid hS
  have G := Lib.hid hg.two
  have LI := Lib.hid hl
  clear hnew hl hc hnil hS hg
  have e3 : wm.length = 3 := rfl
  rw [e3] at S ⊢
  go_wp2_with fail
  refine S.out.mono ?_
  rintro _ w2 ⟨u, v, rfl, hu, hv, hg⟩
  obtain ⟨a1, c1, rfl, _⟩ := hu.row
  obtain ⟨a2, c2, rfl, _⟩ := hv.row
  have l2 := LI.out.later hg
  obtain ⟨b, off, rfl, k0, k1⟩ := lies_at (j := 1) l2 (by decide)
  have k0' : w2.cell? ⟨b, off + 1 * 2, none⟩ = some (.int .i64 2) := k0
  have GM := Lib.hid (good_is (some ⟨b, off, none⟩) cap wm 3 true w2 l2 (by decide) (wis_of (by decide)) rfl (gdB_t gd_wm))
  have G2 := Lib.hid (G.out.trans hg)
  clear hu hv hg l2 k0 k1
  have n1 : ([⟨1, 5⟩, ⟨2, 5⟩] : List Du).length = 2 := rfl
  have n2 : ([⟨3, 7⟩] : List Du).length = 1 := rfl
  rw [n1, n2]
  go_wp2_with fail
  refine GM.out.mono ?_
  rintro _ w3 ⟨rfl, hg⟩
  have G3 := Lib.hid (G2.out.trans hg)
  have GN := Lib.hid (GB.out w3)
  clear hg k0'
  go_wp2_with fail
  refine GN.out.mono ?_
  rintro _ w4 ⟨rfl, hg⟩
  have G4 := Lib.hid (G3.out.trans hg.two)
  clear hg
  go_wp2_with fail
  go_ret
  exact ⟨rfl, G4.out⟩
end Go.Proofs.Ytjkhgpdhhnfmlaa
