/- The document's queue: Put that puts. -/
import Derived.Test.YtlopijcpnfkcgaaGreatQDe
import Derived.RangeFuncBox
import Derived.Deep.RegionLaw
import Derived.Deep.CutBlock
namespace Go.Proofs.YtlopijcpnfkcgaaGreat
namespace QQ
open Go.RowKit
set_option linter.unusedSimpArgs false
variable {X : Nat → Value → Prop}

/-- a new row stored into the queue. -/
theorem RQ.row' {w x : World} {r : Nat} {a room count : Int} {v v' : Value} {L L' : List Wt} (h : RQ X w r a room count v L) (g : Grw w x) (o : x.ownsRow w.heap.size 77 3 v' L'.length (cw L')) (hl : L'.length ≤ 10000) :
    RQ X (x.setCell ⟨r, 3, none⟩ v') r a room count v' L' ∧ Frm (fun k => k = r) w (x.setCell ⟨r, 3, none⟩ v') := by
  have f : Frm (fun k => k = r) x (x.setCell ⟨r, 3, none⟩ v') := frm_set x ⟨r, 3, none⟩ _ rfl
  have hr := World.block_lt_of_cell? _ _ h.c0
  have hk := h.later g
  have ne : v'.ownBlock ≠ some r := fun e => by have := (o.lt r e).1; simp only at hr; omega
  refine ⟨⟨?_, ?_, ?_, World.cell?_setCell_same (u := _) _ _ _ hk.c3, by simp [hk.f2], by simp [hk.f3], ?_, ne, hl, fun j u hx => ⟨(hk.ex j u hx).1, (World.cell?_setCell_other x ⟨r, 3, none⟩ ⟨r, j, none⟩ _ (fun e => by injection e with _ e; exact (hk.ex j u hx).1.2 e.symm)).trans (hk.ex j u hx).2.1, by simp [(hk.ex j u hx).2.2]⟩⟩, (g.frm _).trans f (fun _ e => Or.inl e)⟩
  · exact (World.cell?_setCell_other x ⟨r, 3, none⟩ ⟨r, 0, none⟩ _ (fun e => by injection e with _ e; cases e)).trans hk.c0
  · exact (World.cell?_setCell_other x ⟨r, 3, none⟩ ⟨r, 1, none⟩ _ (fun e => by injection e with _ e; cases e)).trans hk.c1
  · exact (World.cell?_setCell_other x ⟨r, 3, none⟩ ⟨r, 2, none⟩ _ (fun e => by injection e with _ e; cases e)).trans hk.c2
  · have := ownsRow_frm o f (fun k hk e => ne (by rw [hk, e]))
    refine ⟨this.1, ?_⟩
    rcases this.2 with h1 | ⟨b, cap, cur, h1, h2, h3⟩
    · exact Or.inl h1
    · exact Or.inr ⟨b, cap, cur, h1, Nat.zero_le _, h3⟩
set_option maxHeartbeats 20000000 in
set_option maxRecDepth 100000 in
theorem rput_yes {r : Nat} {a room count : Int} {v : Value} {L : List Wt} {w : World} (h : RQ X w r a room count v L) (id cl : Int) (h1 : 0 ≤ cl) (h2 : cl < 8) (ht : ∀ j, j < L.length → (gt L j).id ≠ id) (hf : (L.length : Int) < room) (hb : L.length < 10000) :
    Calls Tryz.prog 29 #[.pointer (some ⟨r, 0, none⟩), .int .i64 id, .int .i64 cl] w fun e w' => e = .returned (.int .i64 0) ∧ ∃ v', RQ X w' r a room count v' (L ++ [⟨id, cl, count⟩]) ∧ Frm (fun k => k = r) w w' ∧ (∀ k, v'.ownBlock = some k → w.heap.size ≤ k) := by
  have C := Lib.hid (rfind_is h id)
  obtain ⟨ao, cap, hv, _⟩ := ownsRow_lies h.row
  subst hv
  have HT := Lib.hid ht
  have d1 : decide (cl < 0) = false := by simp; omega
  have d2 : decide (8 ≤ cl) = false := by simp; omega
  have H := Lib.hid h
  obtain ⟨n, hn⟩ : ∃ n, L.length = n := ⟨_, rfl⟩
  have d4 : decide (room ≤ (n : Int)) = false := by simp; omega
  have HN := Lib.hid hn
  have hbn : n < 10000 := by omega
  clear h ht h1 h2 hf hn
  go_enter Tryz.func29, Tryz.ntmps29
  go_wp2_with fail
  refine C.out.mono ?_
  rintro _ w1 ⟨k, rfl, hat, hg⟩
  have hk : k = -1 := by
    rcases hat with ⟨j, hj, e, e'⟩ | ⟨e, _⟩
    · exact absurd e' (HT.out j hj)
    · exact e
  subst hk
  have G := Lib.hid hg
  have c1 := gw_cell (H.out.later hg).c1
  have c3 := gw_cell (H.out.later hg).c3
  rw [HN.out] at c3
  clear hat hg
  go_wp2_with fail
  refine wp_region_grown (by kernel_rfl) (by kernel_rfl) ?_
  repeat (go_big_quiet_step (fail))
  refine wpQuiet_nil ?_
  rintro _ ⟨q, rfl⟩
  have GQ := Lib.hid (G.out.trans q.h)
  obtain ⟨w2, hw2⟩ : ∃ w2, q.x = w2 := ⟨_, rfl⟩
  rw [hw2] at GQ ⊢
  clear c1 c3 hw2
  have H2 := Lib.hid (H.out.later GQ.out)
  go_upto_region 7 with fail
  have LI : Lies w2 ao (cw L) := by
    obtain ⟨_, _, e, hl⟩ := ownsRow_lies H2.out.row
    injection e with e
    rw [e]; exact hl
  have hz : ao = none → n = 0 ∧ cap = 0 := fun e => by
    subst e
    rcases H2.out.row.2 with ⟨e1, e2⟩ | ⟨_, _, _, e1, _⟩
    · injection e1 with _ _ e4
      exact ⟨by rw [← HN.out]; exact e2, e4⟩
    · injection e1 with e1; cases e1
  have hL : L.length ≤ 100000 := by have := HN.out; omega
  obtain ⟨v1, x1, v2, x2, r1, r2, g1, g2, o2⟩ := app_three w2 (w2.drew.alloc (.cells #[] 77)) w2.heap.size cap n ao L ⟨id, cl, count⟩ (((Grw.rfl' w2).drew).alloc _) (Nat.le_refl _) (heap_alloc_new w2.drew _) LI HN.out hz hL
  have oldb : ∀ o o' : Obj, ((w2.drew.alloc o).alloc o').heap[w2.heap.size]? = some o := fun o o' => (((Grw.rfl' (w2.drew.alloc o)).alloc o').block (by rw [size_new]; exact Nat.lt_succ_self _)).trans (heap_alloc_new w2.drew o)
  have newb : ∀ o o' : Obj, ((w2.drew.alloc o).alloc o').heap[w2.heap.size + 1]? = some o' := fun o o' => by
    have := heap_alloc_new (w2.drew.alloc o) o'
    rw [size_new] at this
    exact this
  obtain ⟨v3, x3, v4, x4, r3, r4, g3, g4, o4⟩ := app_two w2 ((w2.drew.alloc (.cells #[] 77)).alloc (.cells #[.int .i64 id, .int .i64 cl, .int .i64 count] 77)) w2.heap.size (w2.heap.size + 1) cap n ao L ⟨id, cl, count⟩ ((((Grw.rfl' w2).drew).alloc _).alloc _) (Nat.le_refl _) (oldb _ _) LI HN.out hz hL (newb _ _) (by omega)
  obtain ⟨v5, x5, v6, x6, r5, r6, g5, g6, o6⟩ := app_two w2 ((w2.drew.alloc (.cells #[.int .i64 id, .int .i64 cl, .int .i64 count] 77)).alloc (.cells #[] 77)) (w2.heap.size + 1) w2.heap.size cap n ao L ⟨id, cl, count⟩ ((((Grw.rfl' w2).drew).alloc _).alloc _) (by omega) (newb _ _) LI HN.out hz hL (oldb _ _) (by omega)
  obtain ⟨p2, d2', rfl⟩ := ownsRow_succ o2
  obtain ⟨p4, d4', rfl⟩ := ownsRow_succ o4
  obtain ⟨p6, d6', rfl⟩ := ownsRow_succ o6
  have SS : Hid (∀ x, Grw w2 x → x.cell? ⟨r, 3, none⟩ = some (.slice ao n cap) ∧ x.cell? ⟨r, 2, none⟩ = some (.int .i64 count)) := (fun x g => ⟨by rw [← HN.out]; exact g.cell H2.out.c3, g.cell H2.out.c2⟩ : ∀ x, Grw w2 x → x.cell? ⟨r, 3, none⟩ = some (.slice ao n cap) ∧ x.cell? ⟨r, 2, none⟩ = some (.int .i64 count))
  have FZ : ∀ u, Grw w2 u → u.frozen? ⟨r, 3, none⟩ = false := fun u g => frz_frm (g.frm (fun _ => False)) H2.out.c3 (fun e => e) H2.out.f3
  have O2 := Lib.hid (H2.out.row' (v' := .slice (some ⟨p2, 0, none⟩) (n + 1) d2') (L' := L ++ [⟨id, cl, count⟩]) g2 (by rw [show (L ++ [(⟨id, cl, count⟩ : Wt)]).length = n + 1 by simp [HN.out]]; exact o2) (by simp [HN.out]; omega))
  have O4 := Lib.hid (H2.out.row' (v' := .slice (some ⟨p4, 0, none⟩) (n + 1) d4') (L' := L ++ [⟨id, cl, count⟩]) g4 (by rw [show (L ++ [(⟨id, cl, count⟩ : Wt)]).length = n + 1 by simp [HN.out]]; exact o4) (by simp [HN.out]; omega))
  have O6 := Lib.hid (H2.out.row' (v' := .slice (some ⟨p6, 0, none⟩) (n + 1) d6') (L' := L ++ [⟨id, cl, count⟩]) g6 (by rw [show (L ++ [(⟨id, cl, count⟩ : Wt)]).length = n + 1 by simp [HN.out]]; exact o6) (by simp [HN.out]; omega))
  have FN2 := Lib.hid (And.intro O2.out.1 (And.intro ((GQ.out.frm (fun k => k = r)).trans O2.out.2 (fun _ e => Or.inl e)) (fun k e => Nat.le_trans (Below.size GQ.out) (o2.lt k e).1)))
  have FN4 := Lib.hid (And.intro O4.out.1 (And.intro ((GQ.out.frm (fun k => k = r)).trans O4.out.2 (fun _ e => Or.inl e)) (fun k e => Nat.le_trans (Below.size GQ.out) (o4.lt k e).1)))
  have FN6 := Lib.hid (And.intro O6.out.1 (And.intro ((GQ.out.frm (fun k => k = r)).trans O6.out.2 (fun _ e => Or.inl e)) (fun k e => Nat.le_trans (Below.size GQ.out) (o6.lt k e).1)))
  have ww : ∀ o, (w2.alloc o).cell? ⟨r, 3, none⟩ = some (.slice ao n cap) ∧ (w2.alloc o).cell? ⟨r, 2, none⟩ = some (.int .i64 count) := fun o => SS.out _ ((Grw.rfl' w2).alloc o)
  have ww2 : ∀ o o', ((w2.alloc o).alloc o').cell? ⟨r, 3, none⟩ = some (.slice ao n cap) ∧ ((w2.alloc o).alloc o').cell? ⟨r, 2, none⟩ = some (.int .i64 count) := fun o o' => SS.out _ (((Grw.rfl' w2).alloc o).alloc o')
  have wx : ∀ o, (x1.alloc o).cell? ⟨r, 3, none⟩ = some (.slice ao n cap) ∧ (x1.alloc o).cell? ⟨r, 2, none⟩ = some (.int .i64 count) := fun o => SS.out _ (g1.alloc o)
  have a0 := (SS.out _ (Grw.rfl' w2)).1
  have a1 := (SS.out _ (Grw.rfl' w2)).2
  have b1 := (SS.out _ g1).2
  have t1 := (SS.out _ g3).2
  have y1 := (SS.out _ g5).2
  have s0 := (SS.out _ g2).1
  have u0 := (SS.out _ g4).1
  have z0 := (SS.out _ g6).1
  have s1 := (SS.out _ g2).2
  have u1 := (SS.out _ g4).2
  have z1 := (SS.out _ g6).2
  have k2 := FZ x2 g2
  have k4 := FZ x4 g4
  have k6 := FZ x6 g6
  have e1 := fun o => (ww o).1
  have e2 := fun o => (ww o).2
  have e3 := fun o o' => (ww2 o o').1
  have e4 := fun o o' => (ww2 o o').2
  have e5 := fun o => (wx o).2
  replace r1 : (Builtin.append_ #[62, 62] 62 #[.slice (some ⟨w2.heap.size, 0, none⟩) 0 0, .slice ao n cap]).run Tryz.prog (w2.alloc (.cells #[] 77)).drew = .ok v1 x1 := r1
  replace r3 : (Builtin.append_ #[62, 62] 62 #[.slice (some ⟨w2.heap.size, 0, none⟩) 0 0, .slice ao n cap]).run Tryz.prog ((w2.alloc (.cells #[] 77)).alloc (.cells #[.int .i64 id, .int .i64 cl, .int .i64 count] 77)).drew = .ok v3 x3 := r3
  replace r5 : (Builtin.append_ #[62, 62] 62 #[.slice (some ⟨w2.heap.size + 1, 0, none⟩) 0 0, .slice ao n cap]).run Tryz.prog ((w2.alloc (.cells #[.int .i64 id, .int .i64 cl, .int .i64 count] 77)).alloc (.cells #[] 77)).drew = .ok v5 x5 := r5
  clear oldb newb o2 o4 o6 LI hz FZ g1 g2 g3 g4 g5 g6 ww ww2 wx
  go_region_law (first | (with_reducible refine step_append_run rfl (.tmp 31) (.tmp 35) 62 rfl _ _ (by simp [Act.eval, Act.put]) (by simp [Act.eval, Act.put]) r1 ?_) | (with_reducible refine step_append_run rfl (.tmp 31) (.tmp 35) 62 rfl _ _ (by simp [Act.eval, Act.put]) (by simp [Act.eval, Act.put]) r3 ?_) | (with_reducible refine step_append_run rfl (.tmp 31) (.tmp 35) 62 rfl _ _ (by simp [Act.eval, Act.put]) (by simp [Act.eval, Act.put]) r5 ?_) | (with_reducible refine step_append_run rfl (.tmp 36) (.tmp 44) 62 rfl _ _ (by simp [Act.eval, Act.put]) (by simp [Act.eval, Act.put]) r2 ?_) | (with_reducible refine step_append_run rfl (.tmp 36) (.tmp 44) 62 rfl _ _ (by simp [Act.eval, Act.put]) (by simp [Act.eval, Act.put]) r4 ?_) | (with_reducible refine step_append_run rfl (.tmp 36) (.tmp 44) 62 rfl _ _ (by simp [Act.eval, Act.put]) (by simp [Act.eval, Act.put]) r6 ?_))
  all_goals (go_wp2_with fail; go_ret; first | exact ⟨rfl, _, FN2.out⟩ | exact ⟨rfl, _, FN4.out⟩ | exact ⟨rfl, _, FN6.out⟩)
end QQ
end Go.Proofs.YtlopijcpnfkcgaaGreat
