/- The document's Grant. -/
import Derived.Test.YtlopijcpnfkcgaaGreatLVb
import Derived.RangeFuncBox
import Derived.Deep.CutBlock
namespace Go.Proofs.YtlopijcpnfkcgaaGreat
namespace LE
open Go.RowKit
set_option linter.unusedSimpArgs false
variable {X : Nat → Value → Prop}

theorem fld1 (a b c d : Value) (w : World) : (Instr.field 93 (.agg #[a, b, c, d]) 1).run Tryz.prog w = .ok d w := by kernel_rfl
set_option maxHeartbeats 1000000 in
set_option maxRecDepth 100000 in
theorem rgrant_twice {w : World} {r last : Nat} {v : Value} {L : List Gr} (h : RT X w r last v L) (j : Int) (u : Nat) (hn : (byJ L j).isSome = true) :
    Calls Tryz.prog 36 #[.pointer (some ⟨r, 4, none⟩), .int .i64 j, .int .u64 (u : Nat)] w fun e w' => e = .returned (.tuple #[.int .i64 0, .int .i64 8]) ∧ Grw w w' := by
  have C := Lib.hid (rof_is h j)
  obtain ⟨g, hg⟩ := Option.isSome_iff_exists.1 hn
  rw [hg] at C
  unfold fv at C
  simp only [Option.getD_some, Option.isSome_some] at C
  have hf := fld1 (.int .i64 g.n) (.int .i64 g.j) (.int .u64 (g.u : Nat)) (.bool true)
  clear h hn hg
  go_enter Tryz.func36, Tryz.ntmps36
  go_wp2_with fail
  refine C.out.mono ?_
  rintro _ w1 ⟨rfl, g1⟩
  have G := Lib.hid g1
  clear g1
  go_wp2_with fail
  go_ret2
  exact ⟨rfl, G.out⟩
theorem RT.last {w : World} {r last : Nat} {v : Value} {L : List Gr} (h : RT X w r last v L) (m : Nat) : RT X (w.setCell ⟨r, 5, none⟩ (.int .i64 (m : Nat))) r m v L ∧ Frm (fun k => k = r) w (w.setCell ⟨r, 5, none⟩ (.int .i64 (m : Nat))) := by
  have f : Frm (fun k => k = r) w (w.setCell ⟨r, 5, none⟩ (.int .i64 (m : Nat))) := frm_set w ⟨r, 5, none⟩ _ rfl
  refine ⟨⟨?_, World.cell?_setCell_same (u := _) _ _ _ h.c1, by simp [h.f0], by simp [h.f1], ownsRow_frm h.row f (fun k hk e => h.ne (by rw [hk, e])), h.ne, h.len, fun j u hx => ⟨(h.ex j u hx).1, (World.cell?_setCell_other w ⟨r, 5, none⟩ ⟨r, j, none⟩ _ (fun e => by injection e with _ e; exact (h.ex j u hx).1.2 e.symm)).trans (h.ex j u hx).2.1, by simp [(h.ex j u hx).2.2]⟩⟩, f⟩
  exact (World.cell?_setCell_other w ⟨r, 5, none⟩ ⟨r, 4, none⟩ _ (fun e => by injection e with _ e; cases e)).trans h.c0
/-- a new row stored into the table. -/
theorem RT.row' {w x : World} {r last : Nat} {v v' : Value} {L L' : List Gr} (h : RT X w r last v L) (g : Grw w x) (o : x.ownsRow w.heap.size 91 3 v' L'.length (cg L')) (hl : L'.length ≤ 10000) :
    RT X (x.setCell ⟨r, 4, none⟩ v') r last v' L' ∧ Frm (fun k => k = r) w (x.setCell ⟨r, 4, none⟩ v') := by
  have f : Frm (fun k => k = r) x (x.setCell ⟨r, 4, none⟩ v') := frm_set x ⟨r, 4, none⟩ _ rfl
  have hr := World.block_lt_of_cell? _ _ h.c0
  have hk := h.later g
  have ne : v'.ownBlock ≠ some r := fun e => by have := (o.lt r e).1; simp only at hr; omega
  refine ⟨⟨World.cell?_setCell_same (u := _) _ _ _ hk.c0, ?_, by simp [hk.f0], by simp [hk.f1], ?_, ne, hl, fun j u hx => ⟨(hk.ex j u hx).1, (World.cell?_setCell_other x ⟨r, 4, none⟩ ⟨r, j, none⟩ _ (fun e => by injection e with _ e; exact (hk.ex j u hx).1.1 e.symm)).trans (hk.ex j u hx).2.1, by simp [(hk.ex j u hx).2.2]⟩⟩, (g.frm _).trans f (fun _ e => Or.inl e)⟩
  · exact (World.cell?_setCell_other x ⟨r, 4, none⟩ ⟨r, 5, none⟩ _ (fun e => by injection e with _ e; cases e)).trans hk.c1
  · have := ownsRow_frm o f (fun k hk e => ne (by rw [hk, e]))
    refine ⟨this.1, ?_⟩
    rcases this.2 with h1 | ⟨b, cap, cur, h1, h2, h3⟩
    · exact Or.inl h1
    · exact Or.inr ⟨b, cap, cur, h1, Nat.zero_le _, h3⟩
set_option maxHeartbeats 20000000 in
set_option maxRecDepth 100000 in
theorem rgrant_yes {w : World} {r last : Nat} {v : Value} {L : List Gr} (h : RT X w r last v L) (j : Int) (u m : Nat) (hm : last + 1 = m) (hn : byJ L j = none) (hlast : last ≤ 1000000) (hb : L.length < 10000) :
    Calls Tryz.prog 36 #[.pointer (some ⟨r, 4, none⟩), .int .i64 j, .int .u64 (u : Nat)] w fun e w' => e = .returned (.tuple #[.int .i64 (m : Nat), .int .i64 0]) ∧ ∃ v', RT X w' r m v' (L ++ [⟨m, j, u⟩]) ∧ Frm (fun k => k = r) w w' ∧ (∀ k, v'.ownBlock = some k → w.heap.size ≤ k) := by
  have C := Lib.hid (rof_is h j)
  rw [hn] at C
  unfold fv g0 at C
  simp only [Option.getD_none, Option.isSome_none] at C
  obtain ⟨ao, cap, hv, _⟩ := ownsRow_lies h.row
  subst hv
  have H := Lib.hid h
  have q1 : IntKind.i64.wrap ((last : Int) + 1) = (m : Int) := by rw [← hm]; simp [IntKind.wrap_i64]; omega
  obtain ⟨n, hnn⟩ : ∃ n, L.length = n := ⟨_, rfl⟩
  have HN := Lib.hid hnn
  have hf := fld1 (.int .i64 0) (.int .i64 0) (.int .u64 0) (.bool false)
  clear h hn hm
  go_enter Tryz.func36, Tryz.ntmps36
  go_wp2_with fail
  refine C.out.mono ?_
  rintro _ w1 ⟨rfl, g1⟩
  have H1 := H.out.later g1
  have G1 := Lib.hid g1
  have c1 := H1.c1
  have f1 := H1.f1
  obtain ⟨w2, hw2⟩ : ∃ w2, w1.setCell ⟨r, 5, none⟩ (.int .i64 (m : Nat)) = w2 := ⟨_, rfl⟩
  obtain ⟨H2', fr2'⟩ := H1.last m
  rw [hw2] at H2' fr2'
  have H2 := Lib.hid H2'
  have FR2 := Lib.hid fr2'
  go_upto_region 4 with fail
  clear H1 g1 c1 f1 H2' fr2' hw2
  have LI : Lies w2 ao (cg L) := by
    obtain ⟨_, _, e, hl⟩ := ownsRow_lies H2.out.row
    injection e with e
    rw [e]; exact hl
  have hz : ao = none → n = 0 ∧ cap = 0 := fun e => by
    subst e
    rcases H2.out.row.2 with ⟨e1, e2⟩ | ⟨_, _, _, e1, _⟩
    · injection e1 with _ _ e4
      exact ⟨by rw [← HN.out]; exact e2, e4⟩
    · injection e1 with e1; cases e1
  have hL : L.length ≤ 100000 := by omega
  obtain ⟨v1, x1, v2, x2, r1, r2, g1, g2, o2⟩ := app_three w2 (w2.drew.alloc (.cells #[] 91)) w2.heap.size cap n ao L ⟨m, j, u⟩ (((Grw.rfl' w2).drew).alloc _) (Nat.le_refl _) (heap_alloc_new w2.drew _) LI HN.out hz hL
  have oldb : ∀ o o' : Obj, ((w2.drew.alloc o).alloc o').heap[w2.heap.size]? = some o := fun o o' => (((Grw.rfl' (w2.drew.alloc o)).alloc o').block (by rw [size_new]; exact Nat.lt_succ_self _)).trans (heap_alloc_new w2.drew o)
  have newb : ∀ o o' : Obj, ((w2.drew.alloc o).alloc o').heap[w2.heap.size + 1]? = some o' := fun o o' => by
    have := heap_alloc_new (w2.drew.alloc o) o'
    rw [size_new] at this
    exact this
  obtain ⟨v3, x3, v4, x4, r3, r4, g3, g4, o4⟩ := app_two w2 ((w2.drew.alloc (.cells #[] 91)).alloc (.cells #[.int .i64 (m : Nat), .int .i64 j, .int .u64 (u : Nat)] 91)) w2.heap.size (w2.heap.size + 1) cap n ao L ⟨m, j, u⟩ ((((Grw.rfl' w2).drew).alloc _).alloc _) (Nat.le_refl _) (oldb _ _) LI HN.out hz hL (newb _ _) (by omega)
  obtain ⟨v5, x5, v6, x6, r5, r6, g5, g6, o6⟩ := app_two w2 ((w2.drew.alloc (.cells #[.int .i64 (m : Nat), .int .i64 j, .int .u64 (u : Nat)] 91)).alloc (.cells #[] 91)) (w2.heap.size + 1) w2.heap.size cap n ao L ⟨m, j, u⟩ ((((Grw.rfl' w2).drew).alloc _).alloc _) (by omega) (newb _ _) LI HN.out hz hL (oldb _ _) (by omega)
  obtain ⟨p2, d2, rfl⟩ := ownsRow_succ o2
  obtain ⟨p4, d4, rfl⟩ := ownsRow_succ o4
  obtain ⟨p6, d6, rfl⟩ := ownsRow_succ o6
  have SS : Hid (∀ x, Grw w2 x → x.cell? ⟨r, 4, none⟩ = some (.slice ao n cap) ∧ x.cell? ⟨r, 5, none⟩ = some (.int .i64 (m : Nat))) := (fun x g => ⟨by rw [← HN.out]; exact g.cell H2.out.c0, g.cell H2.out.c1⟩ : ∀ x, Grw w2 x → x.cell? ⟨r, 4, none⟩ = some (.slice ao n cap) ∧ x.cell? ⟨r, 5, none⟩ = some (.int .i64 (m : Nat)))
  have FZ : ∀ u, Grw w2 u → u.frozen? ⟨r, 4, none⟩ = false := fun u g => frz_frm (g.frm (fun _ => False)) H2.out.c0 (fun e => e) H2.out.f0
  have O2 := Lib.hid (H2.out.row' (v' := .slice (some ⟨p2, 0, none⟩) (n + 1) d2) (L' := L ++ [⟨m, j, u⟩]) g2 (by rw [show (L ++ [(⟨m, j, u⟩ : Gr)]).length = n + 1 by simp [HN.out]]; exact o2) (by simp; omega))
  have O4 := Lib.hid (H2.out.row' (v' := .slice (some ⟨p4, 0, none⟩) (n + 1) d4) (L' := L ++ [⟨m, j, u⟩]) g4 (by rw [show (L ++ [(⟨m, j, u⟩ : Gr)]).length = n + 1 by simp [HN.out]]; exact o4) (by simp; omega))
  have O6 := Lib.hid (H2.out.row' (v' := .slice (some ⟨p6, 0, none⟩) (n + 1) d6) (L' := L ++ [⟨m, j, u⟩]) g6 (by rw [show (L ++ [(⟨m, j, u⟩ : Gr)]).length = n + 1 by simp [HN.out]]; exact o6) (by simp; omega))
  have FN2 := Lib.hid (And.intro O2.out.1 (And.intro (((G1.out.frm (fun k => k = r)).trans FR2.out (fun _ e => Or.inl e)).trans O2.out.2 (fun _ e => Or.inl e)) (fun k e => Nat.le_trans (Below.size G1.out) (Nat.le_trans FR2.out.size (o2.lt k e).1))))
  have FN4 := Lib.hid (And.intro O4.out.1 (And.intro (((G1.out.frm (fun k => k = r)).trans FR2.out (fun _ e => Or.inl e)).trans O4.out.2 (fun _ e => Or.inl e)) (fun k e => Nat.le_trans (Below.size G1.out) (Nat.le_trans FR2.out.size (o4.lt k e).1))))
  have FN6 := Lib.hid (And.intro O6.out.1 (And.intro (((G1.out.frm (fun k => k = r)).trans FR2.out (fun _ e => Or.inl e)).trans O6.out.2 (fun _ e => Or.inl e)) (fun k e => Nat.le_trans (Below.size G1.out) (Nat.le_trans FR2.out.size (o6.lt k e).1))))
  have ww : ∀ o, (w2.alloc o).cell? ⟨r, 4, none⟩ = some (.slice ao n cap) ∧ (w2.alloc o).cell? ⟨r, 5, none⟩ = some (.int .i64 (m : Nat)) := fun o => SS.out _ ((Grw.rfl' w2).alloc o)
  have ww2 : ∀ o o', ((w2.alloc o).alloc o').cell? ⟨r, 4, none⟩ = some (.slice ao n cap) ∧ ((w2.alloc o).alloc o').cell? ⟨r, 5, none⟩ = some (.int .i64 (m : Nat)) := fun o o' => SS.out _ (((Grw.rfl' w2).alloc o).alloc o')
  have wx : ∀ o, (x1.alloc o).cell? ⟨r, 4, none⟩ = some (.slice ao n cap) ∧ (x1.alloc o).cell? ⟨r, 5, none⟩ = some (.int .i64 (m : Nat)) := fun o => SS.out _ (g1.alloc o)
  have a0 := (SS.out _ (Grw.rfl' w2)).1
  have a1 := (SS.out _ (Grw.rfl' w2)).2
  have b1 := (SS.out _ g1).2
  have t1 := (SS.out _ g3).2
  have y1 := (SS.out _ g5).2
  have s0 := (SS.out _ g2).1
  have u0 := (SS.out _ g4).1
  have z0 := (SS.out _ g6).1
  have s1 := (SS.out _ g2).2
  have u1 := (SS.out _ g4).2
  have z1 := (SS.out _ g6).2
  have k2 := FZ x2 g2
  have k4 := FZ x4 g4
  have k6 := FZ x6 g6
  have e1 := fun o => (ww o).1
  have e2 := fun o => (ww o).2
  have e3 := fun o o' => (ww2 o o').1
  have e4 := fun o o' => (ww2 o o').2
  have e5 := fun o => (wx o).2
  replace r1 : (Builtin.append_ #[65, 65] 65 #[.slice (some ⟨w2.heap.size, 0, none⟩) 0 0, .slice ao n cap]).run Tryz.prog (w2.alloc (.cells #[] 91)).drew = .ok v1 x1 := r1
  replace r3 : (Builtin.append_ #[65, 65] 65 #[.slice (some ⟨w2.heap.size, 0, none⟩) 0 0, .slice ao n cap]).run Tryz.prog ((w2.alloc (.cells #[] 91)).alloc (.cells #[.int .i64 (m : Nat), .int .i64 j, .int .u64 (u : Nat)] 91)).drew = .ok v3 x3 := r3
  replace r5 : (Builtin.append_ #[65, 65] 65 #[.slice (some ⟨w2.heap.size + 1, 0, none⟩) 0 0, .slice ao n cap]).run Tryz.prog ((w2.alloc (.cells #[.int .i64 (m : Nat), .int .i64 j, .int .u64 (u : Nat)] 91)).alloc (.cells #[] 91)).drew = .ok v5 x5 := r5
  clear oldb newb o2 o4 o6 LI hz FZ g1 g2 g3 g4 g5 g6 ww ww2 wx
  go_region_law (first | (with_reducible refine step_append_run rfl (.tmp 20) (.tmp 24) 65 rfl _ _ (by simp [Act.eval, Act.put]) (by simp [Act.eval, Act.put]) r1 ?_) | (with_reducible refine step_append_run rfl (.tmp 20) (.tmp 24) 65 rfl _ _ (by simp [Act.eval, Act.put]) (by simp [Act.eval, Act.put]) r3 ?_) | (with_reducible refine step_append_run rfl (.tmp 20) (.tmp 24) 65 rfl _ _ (by simp [Act.eval, Act.put]) (by simp [Act.eval, Act.put]) r5 ?_) | (with_reducible refine step_append_run rfl (.tmp 25) (.tmp 33) 65 rfl _ _ (by simp [Act.eval, Act.put]) (by simp [Act.eval, Act.put]) r2 ?_) | (with_reducible refine step_append_run rfl (.tmp 25) (.tmp 33) 65 rfl _ _ (by simp [Act.eval, Act.put]) (by simp [Act.eval, Act.put]) r4 ?_) | (with_reducible refine step_append_run rfl (.tmp 25) (.tmp 33) 65 rfl _ _ (by simp [Act.eval, Act.put]) (by simp [Act.eval, Act.put]) r6 ?_))
  all_goals (go_wp2_with fail; go_ret2; first | exact ⟨rfl, _, FN2.out⟩ | exact ⟨rfl, _, FN4.out⟩ | exact ⟨rfl, _, FN6.out⟩)
end LE
end Go.Proofs.YtlopijcpnfkcgaaGreat
