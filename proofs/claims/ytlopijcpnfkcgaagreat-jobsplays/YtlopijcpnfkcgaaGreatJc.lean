/- The book in memory; the contracts of jobs.New, State, Open, Count, Waits, Lease at this program. -/
import Derived.Test.YtlopijcpnfkcgaaGreatQQk
import Derived.Test.YtlopijcpnfkcgaaGreatLTb
import Derived.Test.YtlopijcpnfkcgaaGreatRWc
import Derived.Test.YtlopijcpnfkcgaaGreatJm
import Derived.Deep.CutRange
import Derived.Deep.DeepCutAuto
namespace Go.Proofs.YtlopijcpnfkcgaaGreat
open Go.RowKit
open Go.Maps (Keyed IsMap Tidy)
set_option linter.unusedSimpArgs false

/-- the blocks of a book: its own, the queue's, the table's, the table's two maps, the open jobs' map. -/
structure BB where
  p : Nat
  q : Nat
  t : Nat
  mb : Nat
  jb : Nat
  ob : Nat
def bf (B : BB) (v : Value) (k : Nat) : Prop := k = B.p ∨ QQ.qf B.q v k ∨ LE.tf B.t B.mb B.jb k ∨ k = B.ob
structure Apart (B : BB) (v : Value) : Prop where
  dq : ∀ k, QQ.qf B.q v k → ¬ LE.tf B.t B.mb B.jb k ∧ k ≠ B.p ∧ k ≠ B.ob
  dt : ∀ k, LE.tf B.t B.mb B.jb k → k ≠ B.p ∧ k ≠ B.ob
  dp : B.p ≠ B.ob
/-- the book's map of open jobs. -/
def OM (w : World) (ob sz : Nat) (J : List Jb) : Prop := ∃ D k, k ≤ sz ∧ w.ownsMap Tryz.prog 3 jbE ob k D ∧ MapJ D J
/-- the book in memory. -/
structure BK (w : World) (B : BB) (a room n count : Int) (v : Value) (last sz : Nat) (L : List QQ.Wt) (G : List LE.Gr) (J : List Jb) : Prop where
  c0 : w.cell? ⟨B.p, 0, none⟩ = some (.pointer (some ⟨B.q, 0, none⟩))
  c1 : w.cell? ⟨B.p, 1, none⟩ = some (.pointer (some ⟨B.t, 0, none⟩))
  c2 : w.cell? ⟨B.p, 2, none⟩ = some (.map (some B.ob))
  c3 : w.cell? ⟨B.p, 3, none⟩ = some (.int .i64 room)
  c4 : w.cell? ⟨B.p, 4, none⟩ = some (.int .i64 n)
  qu : QQ.QU w B.q a room count v L
  tb : LE.TB w B.t B.mb B.jb last G
  op : OM w B.ob sz J
  ap : Apart B v
variable {w x : World} {B : BB} {a room n count : Int} {v : Value} {last sz : Nat} {L : List QQ.Wt} {G : List LE.Gr} {J : List Jb}
theorem OM.keep {ob : Nat} (h : OM w ob sz J) {F : Nat → Prop} (f : Frm F w x) (hn : ¬ F ob) : OM x ob sz J := by
  obtain ⟨D, k, hk, o, m⟩ := h
  exact ⟨D, k, hk, LE.ownsMap_frm o f hn, m⟩
theorem BK.keep (h : BK w B a room n count v last sz L G J) {F : Nat → Prop} (f : Frm F w x) (hn : ∀ k, bf B v k → ¬ F k) : BK x B a room n count v last sz L G J := by
  have np := hn B.p (Or.inl rfl)
  exact ⟨f.cell h.c0 np, f.cell h.c1 np, f.cell h.c2 np, f.cell h.c3 np, f.cell h.c4 np, h.qu.keep f (fun k hk => hn k (Or.inr (Or.inl hk))), h.tb.keep f (fun k hk => hn k (Or.inr (Or.inr (Or.inl hk)))), h.op.keep f (hn _ (Or.inr (Or.inr (Or.inr rfl)))), h.ap⟩
theorem BK.later (h : BK w B a room n count v last sz L G J) (g : Grw w x) : BK x B a room n count v last sz L G J :=
  h.keep (g.frm (fun _ => False)) (fun _ _ e => e)
theorem BK.lt (h : BK w B a room n count v last sz L G J) : ∀ k, bf B v k → k < w.heap.size := by
  rintro k (rfl | (rfl | e) | e | rfl)
  · exact World.block_lt_of_cell? _ _ h.c0
  · exact World.block_lt_of_cell? _ _ h.qu.c0
  · obtain ⟨l, hl, _⟩ := h.qu.line
    rcases hl.row.2 with ⟨h1, _⟩ | ⟨b, cap, cur, rfl, _, hg, _⟩
    · rw [h1] at e; cases e
    · cases e; exact (Array.getElem?_eq_some_iff.1 hg).1
  · exact h.tb.lt k e
  · obtain ⟨D, k, _, o, _⟩ := h.op
    exact o.lt
/-- what one step does to the world: the book's blocks alone, or new ones. -/
structure Stp (B : BB) (v v' : Value) (w x : World) : Prop where
  f : Frm (bf B v) w x
  n : QQ.Near w v v'
theorem Stp.of (B : BB) (v : Value) {w x : World} (g : Grw w x) : Stp B v v w x := ⟨g.frm _, Or.inl rfl⟩
theorem near_bf {v' : Value} (h : QQ.Near w v v') {k : Nat} (hk : bf B v' k) : bf B v k ∨ w.heap.size ≤ k := by
  rcases hk with e | (e | e) | e | e
  · exact Or.inl (Or.inl e)
  · exact Or.inl (Or.inr (Or.inl (Or.inl e)))
  · rcases h with h | ⟨j, hj, hw⟩
    · exact Or.inl (Or.inr (Or.inl (Or.inr (by rw [← h]; exact e))))
    · rw [e] at hj; injection hj with hj; exact Or.inr (by omega)
  · exact Or.inl (Or.inr (Or.inr (Or.inl e)))
  · exact Or.inl (Or.inr (Or.inr (Or.inr e)))
theorem Stp.trans {v1 v2 : Value} {y : World} (h : Stp B v v1 w x) (g : Stp B v1 v2 x y) : Stp B v v2 w y := by
  refine ⟨h.f.trans g.f (fun k hk => near_bf h.n hk), ?_⟩
  rcases g.n with e | ⟨k, hk, hw⟩
  · rcases h.n with e2 | ⟨k, hk, hw⟩
    · exact Or.inl (e.trans e2)
    · exact Or.inr ⟨k, e.trans hk, hw⟩
  · exact Or.inr ⟨k, hk, Nat.le_trans h.f.size hw⟩
theorem BK.withQ (h : BK w B a room n count v last sz L G J) {count' : Int} {v' : Value} {L' : List QQ.Wt} (q : QQ.QU x B.q a room count' v' L') (f : Frm (QQ.qf B.q v) w x) (nr : QQ.Near w v v') : BK x B a room n count' v' last sz L' G J ∧ Stp B v v' w x := by
  have np : ¬ QQ.qf B.q v B.p := fun e => (h.ap.dq _ e).2.1 rfl
  have hlt := h.lt
  refine ⟨⟨f.cell h.c0 np, f.cell h.c1 np, f.cell h.c2 np, f.cell h.c3 np, f.cell h.c4 np, q, h.tb.keep f (fun k hk e => (h.ap.dq k e).1 hk), h.op.keep f (fun e => (h.ap.dq _ e).2.2 rfl), ⟨fun k hk => ?_, h.ap.dt, h.ap.dp⟩⟩, ⟨f.mono (fun k hk => Or.inr (Or.inl hk)), nr⟩⟩
  rcases hk with e | e
  · exact h.ap.dq k (Or.inl e)
  · rcases nr with nr | ⟨j, hj, hw⟩
    · exact h.ap.dq k (Or.inr (by rw [← nr]; exact e))
    · rw [e] at hj; injection hj with hj; subst hj
      exact ⟨fun c => by have := hlt k (Or.inr (Or.inr (Or.inl c))); omega, fun c => by have := hlt k (Or.inl c); omega, fun c => by have := hlt k (Or.inr (Or.inr (Or.inr c))); omega⟩
theorem BK.withT (h : BK w B a room n count v last sz L G J) {last' : Nat} {G' : List LE.Gr} (t : LE.TB x B.t B.mb B.jb last' G') (f : Frm (LE.tf B.t B.mb B.jb) w x) : BK x B a room n count v last' sz L G' J ∧ Stp B v v w x := by
  have np : ¬ LE.tf B.t B.mb B.jb B.p := fun e => (h.ap.dt _ e).1 rfl
  exact ⟨⟨f.cell h.c0 np, f.cell h.c1 np, f.cell h.c2 np, f.cell h.c3 np, f.cell h.c4 np, h.qu.keep f (fun k hk e => (h.ap.dq k hk).1 e), t, h.op.keep f (fun e => (h.ap.dt _ e).2 rfl), h.ap⟩, ⟨f.mono (fun k hk => Or.inr (Or.inr (Or.inl hk))), Or.inl rfl⟩⟩
theorem BK.withO (h : BK w B a room n count v last sz L G J) {sz' : Nat} {J' : List Jb} (o : OM x B.ob sz' J') (f : Frm (fun k => k = B.ob) w x) : BK x B a room n count v last sz' L G J' ∧ Stp B v v w x := by
  have np : ¬ B.p = B.ob := h.ap.dp
  exact ⟨⟨f.cell h.c0 np, f.cell h.c1 np, f.cell h.c2 np, f.cell h.c3 np, f.cell h.c4 np, h.qu.keep f (fun k hk e => (h.ap.dq k hk).2.2 e), h.tb.keep f (fun k hk e => (h.ap.dt k hk).2 e), o, h.ap⟩, ⟨f.mono (fun k hk => Or.inr (Or.inr (Or.inr hk))), Or.inl rfl⟩⟩
/-- a book made since w0. -/
structure BM (w0 w : World) (B : BB) (a room n count : Int) (v : Value) (last sz : Nat) (L : List QQ.Wt) (G : List LE.Gr) (J : List Jb) : Prop where
  b : BK w B a room n count v last sz L G J
  g : Grw w0 w
  new : ∀ k, bf B v k → w0.heap.size ≤ k
theorem BM.later {w0 : World} (h : BM w0 w B a room n count v last sz L G J) (g : Grw w x) : BM w0 x B a room n count v last sz L G J := ⟨h.b.later g, h.g.trans g, h.new⟩
theorem BM.step {w0 : World} (h : BM w0 w B a room n count v last sz L G J) {count' : Int} {v' : Value} {last' sz' : Nat} {L' : List QQ.Wt} {G' : List LE.Gr} {J' : List Jb} (b : BK x B a room n count' v' last' sz' L' G' J') (s : Stp B v v' w x) : BM w0 x B a room n count' v' last' sz' L' G' J' :=
  ⟨b, s.f.grw h.g h.new, fun k hk => (near_bf s.n hk).elim (h.new k) (fun e => Nat.le_trans (Below.size h.g) e)⟩

def j0 : Jb := ⟨0, 0, 0, 0⟩
theorem zero66 (w : World) : (zeroValue 72).run Tryz.prog w = .ok (.agg #[.int .i64 0, .int .i64 0, .int .i64 0]) w := by kernel_rfl
theorem mk62 (w : World) : (Instr.makeMap 57 none).run Tryz.prog w = .ok (.map (some w.heap.size)) (w.alloc (.map #[] 0)) := by
  simp [Instr.makeMap, run_underlying Tryz.underlying57]
theorem jb_at {D : DataW Unit} (m : MapJ D J) (i : Int) : Maps.has D (LE.ky i) = (fnd J i).isSome ∧ D.atKey (LE.ky i) (jd j0) = jd ((fnd J i).getD j0) := by
  rcases e : fnd J i with _ | y
  · have := m.no i (fnd_none e)
    exact ⟨this.1, this.2 _⟩
  · obtain ⟨hy, rfl⟩ := fnd_some e
    have := m.yes y hy
    exact ⟨this.1, this.2 _⟩
theorem jbE_is {u : Value} {ps : List MemPlace} {y : Jb} (h : jbE u = some (jd y, ps)) : u = .agg #[.int .i64 y.cl, .int .i64 y.s, .int .i64 y.u] := by
  obtain ⟨c, s, k, rfl, e⟩ := jbE_inv h
  have := congrArg Prod.fst e
  unfold jd at this
  simp only [DataW.agg.injEq, List.cons.injEq, DataW.lit.injEq, Lit.int.injEq, true_and, and_true] at this
  obtain ⟨h1, h2, h3⟩ := this
  rw [h1, h2, h3]
theorem OM.look {ob : Nat} (h : OM w ob sz J) {i : Int} (hi : LE.Wi i) {y : Jb} (hy : (fnd J i).getD j0 = y) {b : Bool} (hb : (fnd J i).isSome = b) :
    (Instr.lookup 57 (.map (some ob)) (.int .i64 i) true).run Tryz.prog w = .ok (.tuple #[.agg #[.int .i64 y.cl, .int .i64 y.s, .int .i64 y.u], .bool b]) w := by
  obtain ⟨D, k, hk, o, m⟩ := h
  obtain ⟨u, ps, hrun, hu⟩ := o.look_ok LE.law3 Tryz.underlying57 (zero66 w) (jbE_mk j0) (Maps.keyOf_int_mk Tryz.underlying3 (LE.wi_wf hi))
  obtain ⟨e1, e2⟩ := jb_at m i
  rw [show (Lit.int .i64 i) = LE.ky i from rfl, e2, hy] at hu
  rw [hrun, jbE_is hu, show (Lit.int .i64 i) = LE.ky i from rfl, e1, hb]
theorem OM.get {ob : Nat} (h : OM w ob sz J) {i : Int} (hi : LE.Wi i) {y : Jb} (hy : (fnd J i).getD j0 = y) :
    (Instr.lookup 57 (.map (some ob)) (.int .i64 i) false).run Tryz.prog w = .ok (.agg #[.int .i64 y.cl, .int .i64 y.s, .int .i64 y.u]) w := by
  obtain ⟨D, k, hk, o, m⟩ := h
  obtain ⟨u, ps, hrun, hu⟩ := o.lookup LE.law3 Tryz.underlying57 (zero66 w) (jbE_mk j0) (Maps.keyOf_int_mk Tryz.underlying3 (LE.wi_wf hi))
  obtain ⟨e1, e2⟩ := jb_at m i
  rw [show (Lit.int .i64 i) = LE.ky i from rfl, e2, hy] at hu
  rw [hrun, jbE_is hu]

theorem new_bk {w1 w2 : World} {q t mb jb : Nat} (m1 : QQ.QM w w1 q a room 0 (.slice none 0 0) []) (tm : LE.TM w1 w2 t mb jb 0 []) :
    BM w ((w2.alloc (.map #[] 0)).alloc (.cells #[.pointer (some ⟨q, 0, none⟩), .pointer (some ⟨t, 0, none⟩), .map (some w2.heap.size), .int .i64 room, .int .i64 n] 59)) ⟨w2.heap.size + 1, q, t, mb, jb, w2.heap.size⟩ a room n 0 (.slice none 0 0) 0 0 [] [] [] := by
  have g2 : Grw w2 ((w2.alloc (.map #[] 0)).alloc (.cells #[.pointer (some ⟨q, 0, none⟩), .pointer (some ⟨t, 0, none⟩), .map (some w2.heap.size), .int .i64 room, .int .i64 n] 59)) := ((Grw.rfl' w2).alloc _).alloc _
  have hq : ∀ k, QQ.qf q (.slice none 0 0) k → w.heap.size ≤ k ∧ k < w1.heap.size := by
    rintro k (rfl | e)
    · exact ⟨m1.pn, World.block_lt_of_cell? _ _ m1.q.c0⟩
    · cases e
  have ht : ∀ k, LE.tf t mb jb k → w1.heap.size ≤ k ∧ k < w2.heap.size := fun k hk => ⟨tm.new k hk, tm.t.lt k hk⟩
  have s1 := Below.size m1.g
  have s2 := Below.size tm.g
  refine ⟨⟨by simp [go_sem], by simp [go_sem], by simp [go_sem], by simp [go_sem], by simp [go_sem], m1.q.later (tm.g.trans g2), tm.t.later g2, ⟨.map [], 0, Nat.le_refl _, ?_, MapJ.nil⟩, ⟨fun k hk => ?_, fun k hk => ?_, by simp⟩⟩, (m1.g.trans tm.g).trans g2, ?_⟩
  · exact (World.ownsMap_made (H := Unit) w2 Tryz.prog 3 jbE).alloc _
  · have h1 := hq k hk
    exact ⟨fun e => by have := ht k e; omega, by simp only; omega, by simp only; omega⟩
  · have h1 := ht k hk
    exact ⟨by simp only; omega, by simp only; omega⟩
  · rintro k (rfl | e | e | rfl)
    · simp only; omega
    · exact (hq k e).1
    · have := (ht k e).1; omega
    · simp only; omega
set_option maxHeartbeats 1000000 in
set_option maxRecDepth 100000 in
theorem new_yes (a room n : Int) (w : World) (h1 : 1 ≤ a) (h2 : a ≤ 1000) (h3 : 0 ≤ room) (h4 : room ≤ 1000) (h5 : 0 ≤ n) (h6 : n ≤ 9) :
    Calls Tryz.prog 4 #[.int .i64 a, .int .i64 room, .int .i64 n] w fun e w' => ∃ B, e = .returned (.pointer (some ⟨B.p, 0, none⟩)) ∧ BM w w' B a room n 0 (.slice none 0 0) 0 0 [] [] [] := by
  have C := Lib.hid (QQ.m_new a room w w (Grw.rfl' w) h1 h2 h3 h4)
  have d1 : decide (n < 0) = false := by simp; omega
  have d2 : decide (9 < n) = false := by simp; omega
  have hm := mk62
  clear h1 h2 h3 h4 h5 h6
  go_enter Tryz.func4, Tryz.ntmps4
  go_wp2_with fail
  refine C.out.mono ?_
  rintro _ w1 ⟨q, rfl, m1, _⟩
  have M1 := Lib.hid m1
  clear m1
  go_wp2_with fail
  refine (LE.new_is w1).mono ?_
  rintro _ w2 ⟨t, mb, jb, rfl, tm⟩
  have R := Lib.hid (new_bk (n := n) M1.out tm)
  clear tm
  go_wp2_with fail
  go_ret
  exact ⟨_, rfl, R.out⟩
set_option maxHeartbeats 1000000 in
set_option maxRecDepth 100000 in
theorem new_neg (a room : Int) (w : World) (h1 : 1 ≤ a) (h2 : a ≤ 1000) (h3 : 0 ≤ room) (h4 : room ≤ 1000) :
    Calls Tryz.prog 4 #[.int .i64 a, .int .i64 room, .int .i64 (-1)] w fun e w' => e = .returned (.pointer none) ∧ Grw w w' := by
  have C := Lib.hid (QQ.m_new a room w w (Grw.rfl' w) h1 h2 h3 h4)
  clear h1 h2 h3 h4
  go_enter Tryz.func4, Tryz.ntmps4
  go_wp2_with fail
  refine C.out.mono ?_
  rintro _ w1 ⟨q, rfl, m1, _⟩
  have G1 := Lib.hid m1.g
  clear m1
  go_wp2_with fail
  go_ret
  exact ⟨rfl, G1.out⟩
set_option maxHeartbeats 1000000 in
set_option maxRecDepth 100000 in
theorem state_nil (i : Int) (w : World) : Calls Tryz.prog 22 #[.pointer none, .int .i64 i] w fun e w' => e = .returned (.tuple #[.agg #[.int .i64 0, .int .i64 0], .bool false]) ∧ Grw w w' := by
  go_enter Tryz.func22, Tryz.ntmps22
  go_wp2_with fail
  exact bodyPost_ret (v := .tuple #[.agg #[.int .i64 0, .int .i64 0], .bool false]) (by simp [results, Tryz.results22, go_sem]) rfl ⟨rfl, (Grw.rfl' w).alloc _⟩
set_option maxHeartbeats 1000000 in
set_option maxRecDepth 100000 in
theorem state_is (h : BK w B a room n count v last sz L G J) {i : Int} (hi : LE.Wi i) {y : Jb} (hy : (fnd J i).getD j0 = y) {b : Bool} (hb : (fnd J i).isSome = b) :
    Calls Tryz.prog 22 #[.pointer (some ⟨B.p, 0, none⟩), .int .i64 i] w fun e w' => e = .returned (.tuple #[.agg #[.int .i64 y.s, .int .i64 y.u], .bool b]) ∧ Grw w w' := by
  have ga : ∀ o, Grw w (w.alloc o) := fun o => (Grw.rfl' w).alloc o
  have c2 : ∀ o, (w.alloc o).cell? ⟨B.p, 2, none⟩ = some (.map (some B.ob)) := fun o => (ga o).cell h.c2
  have lk := fun o => (h.later (ga o)).op.look hi hy hb
  obtain ⟨yi, yc, ys, yu⟩ := y
  simp only at lk
  clear h hi hy hb ga
  go_enter Tryz.func22, Tryz.ntmps22
  go_wp2_with fail
  exact bodyPost_ret (v := .tuple #[.agg #[.int .i64 ys, .int .i64 yu], .bool b]) (by simp [results, Tryz.results22, go_sem]) rfl ⟨rfl, by repeat (first | with_reducible exact Grw.rfl' _ | with_reducible refine Grw.alloc ?_ _ | with_reducible refine Grw.set ?_ (by simp [go_sem]) _)⟩
set_option maxHeartbeats 1000000 in
set_option maxRecDepth 100000 in
theorem open_nil (w : World) : Calls Tryz.prog 27 #[.pointer none] w fun e w' => e = .returned (.int .i64 0) ∧ w = w' := by
  go_enter Tryz.func27, Tryz.ntmps27
  go_wp2_with fail
  go_ret
  exact ⟨rfl, rfl⟩
set_option maxHeartbeats 1000000 in
set_option maxRecDepth 100000 in
theorem open_is (h : BK w B a room n count v last sz L G J) {m : Nat} (hm : J.length = m) :
    Calls Tryz.prog 27 #[.pointer (some ⟨B.p, 0, none⟩)] w fun e w' => e = .returned (.int .i64 m) ∧ w = w' := by
  obtain ⟨D, k, _, o, mj⟩ := h.op
  have c2 := h.c2
  have H := Lib.hid o
  have Q := Lib.hid (mj.size.trans hm)
  clear h o hm mj
  go_enter Tryz.func27, Tryz.ntmps27
  go_wp2_with (at_len; refine wpList_len_own _ rfl _ 57 rfl 3 72 Tryz.underlying57 _ B.ob _ D rfl H.out ?_)
  go_ret
  exact ⟨by rw [← Q.out]; rfl, rfl⟩
set_option maxHeartbeats 1000000 in
set_option maxRecDepth 100000 in
theorem count_nil (w : World) : Calls Tryz.prog 46 #[.pointer none] w fun e w' => e = .returned (.int .i64 0) ∧ w = w' := by
  go_enter Tryz.func46, Tryz.ntmps46
  go_wp2_with fail
  go_ret
  exact ⟨rfl, rfl⟩
set_option maxHeartbeats 1000000 in
set_option maxRecDepth 100000 in
theorem waits_nil (w : World) : Calls Tryz.prog 48 #[.pointer none] w fun e w' => e = .returned (.slice none 0 0) ∧ w = w' := by
  go_enter Tryz.func48, Tryz.ntmps48
  go_wp2_with fail
  go_ret
  exact ⟨rfl, rfl⟩
end Go.Proofs.YtlopijcpnfkcgaaGreat

/- The contracts of jobs.Lease and of jobs.step at this program. -/
namespace Go.Proofs.YtlopijcpnfkcgaaGreat
open Go.RowKit
open Go.Maps (Keyed IsMap Tidy)
set_option linter.unusedSimpArgs false

theorem Grw.of_drew {w x : World} (h : Grw w.drew x) : Grw w x := ((Grw.rfl' w).drew).trans h
/-- six cells in block b, as they lie, and to be written. -/
structure Six (w : World) (b : Nat) (v0 v1 v2 v3 v4 v5 : Value) : Prop where
  c0 : w.cell? ⟨b, 0, none⟩ = some v0
  c1 : w.cell? ⟨b, 1, none⟩ = some v1
  c2 : w.cell? ⟨b, 2, none⟩ = some v2
  c3 : w.cell? ⟨b, 3, none⟩ = some v3
  c4 : w.cell? ⟨b, 4, none⟩ = some v4
  c5 : w.cell? ⟨b, 5, none⟩ = some v5
  f0 : w.frozen? ⟨b, 0, none⟩ = false
  f1 : w.frozen? ⟨b, 1, none⟩ = false
  f2 : w.frozen? ⟨b, 2, none⟩ = false
  f3 : w.frozen? ⟨b, 3, none⟩ = false
  f4 : w.frozen? ⟨b, 4, none⟩ = false
  f5 : w.frozen? ⟨b, 5, none⟩ = false
theorem Six.new (w : World) (v0 v1 v2 v3 v4 v5 : Value) (T : TypeId) : Six (w.alloc (.cells #[v0, v1, v2, v3, v4, v5] T)) w.heap.size v0 v1 v2 v3 v4 v5 :=
  ⟨by simp [go_sem], by simp [go_sem], by simp [go_sem], by simp [go_sem], by simp [go_sem], by simp [go_sem], by simp [go_sem], by simp [go_sem], by simp [go_sem], by simp [go_sem], by simp [go_sem], by simp [go_sem]⟩
theorem Six.later {w x : World} {b : Nat} {v0 v1 v2 v3 v4 v5 : Value} (t : Six w b v0 v1 v2 v3 v4 v5) (h : Grw w x) (hb : b < w.heap.size) : Six x b v0 v1 v2 v3 v4 v5 :=
  ⟨h.cell t.c0, h.cell t.c1, h.cell t.c2, h.cell t.c3, h.cell t.c4, h.cell t.c5, by rw [Below.frozen h hb]; exact t.f0, by rw [Below.frozen h hb]; exact t.f1, by rw [Below.frozen h hb]; exact t.f2, by rw [Below.frozen h hb]; exact t.f3, by rw [Below.frozen h hb]; exact t.f4, by rw [Below.frozen h hb]; exact t.f5⟩
theorem Two.set2 {w : World} {b : Nat} {c0 c1 : Value} (t : Two w b c0 c1) (u v : Value) : Two ((w.setCell ⟨b, 0, none⟩ u).setCell ⟨b, 1, none⟩ v) b u v :=
  ⟨by simp [go_sem, t.c0, t.c1], by simp [go_sem, t.c0, t.c1], by simp [go_sem, t.f0, t.f1], by simp [go_sem, t.f0, t.f1]⟩
variable {w x : World} {B : BB} {a room n count : Int} {v : Value} {last sz : Nat} {L : List QQ.Wt} {G : List LE.Gr} {J : List Jb}
theorem fld66_0 (w : World) (c s u : Int) : (Instr.field 72 (.agg #[.int .i64 c, .int .i64 s, .int .i64 u]) 0).run Tryz.prog w = .ok (.int .i64 c) w := by kernel_rfl
theorem fld66_1 (w : World) (c s u : Int) : (Instr.field 72 (.agg #[.int .i64 c, .int .i64 s, .int .i64 u]) 1).run Tryz.prog w = .ok (.agg #[.int .i64 s, .int .i64 u]) w := by kernel_rfl
theorem fld48_1 (w : World) (s u : Int) : (Instr.field 48 (.agg #[.int .i64 s, .int .i64 u]) 1).run Tryz.prog w = .ok (.int .i64 u) w := by kernel_rfl
/-- a lease as it is told. -/
def lv (m j u : Int) (t : Nat) : Value := .agg #[.int .i64 m, .int .i64 j, .int .i64 0, .int .i64 0, .int .i64 u, .int .u64 (t : Nat)]
set_option maxHeartbeats 1000000 in
set_option maxRecDepth 100000 in
theorem lease_nil (i : Int) (w : World) : Calls Tryz.prog 33 #[.pointer none, .int .i64 i] w fun e w' => e = .returned (.tuple #[lv 0 0 0 0, .bool false]) ∧ Grw w w' := by
  go_enter Tryz.func33, Tryz.ntmps33
  go_wp2_with fail
  exact bodyPost_ret (v := .tuple #[lv 0 0 0 0, .bool false]) (by simp [results, Tryz.results33, go_sem, lv]) rfl ⟨rfl, (Grw.rfl' w).alloc _⟩
set_option maxHeartbeats 1000000 in
set_option maxRecDepth 100000 in
theorem lease_no (h : BK w B a room n count v last sz L G J) {i : Int} (hi : LE.Wi i) (hb : LE.byN G i = none) :
    Calls Tryz.prog 33 #[.pointer (some ⟨B.p, 0, none⟩), .int .i64 i] w fun e w' => e = .returned (.tuple #[lv 0 0 0 0, .bool false]) ∧ Grw w w' := by
  have ga := (Grw.rfl' w).alloc (.cells #[.int .i64 0, .int .i64 0, .int .i64 0, .int .i64 0, .int .i64 0, .int .u64 0] 38)
  have GA := Lib.hid ga
  have c1 : ∀ o, (w.alloc o).cell? ⟨B.p, 1, none⟩ = some (.pointer (some ⟨B.t, 0, none⟩)) := fun o => ((Grw.rfl' w).alloc o).cell h.c1
  have C := Lib.hid (LE.look_is (h.tb.later ga) i hi)
  rw [hb] at C
  simp only [Option.getD_none, Option.isSome_none] at C
  unfold LE.gv LE.g0 at C
  have S := Lib.hid (Six.new w (.int .i64 0) (.int .i64 0) (.int .i64 0) (.int .i64 0) (.int .i64 0) (.int .u64 0) 38)
  clear h hi hb ga
  go_enter Tryz.func33, Tryz.ntmps33
  go_wp2_with fail
  refine C.out.mono ?_
  rintro _ w1 ⟨rfl, hw⟩
  have G1 := Lib.hid (GA.out.trans hw)
  have s := S.out.later hw (by rw [size_new]; omega)
  have s' := s.later ((Grw.rfl' w1).alloc (.cells #[.int .i64 0, .int .i64 0, .int .u64 0] 91)) (by have := Below.size hw; rw [size_new] at this; omega)
  obtain ⟨z0, z1, z2, z3, z4, z5, k0, k1, k2, k3, k4, k5⟩ := s'
  clear hw s c1
  go_wp2_with fail
  exact bodyPost_ret (v := .tuple #[lv 0 0 0 0, .bool false]) (by simp [results, Tryz.results33, go_sem, lv, z0, z1, z2, z3, z4, z5]) rfl ⟨rfl, by repeat (first | with_reducible exact G1.out | with_reducible refine Grw.alloc ?_ _ | with_reducible refine Grw.set ?_ (Nat.le_refl _) _)⟩
set_option maxHeartbeats 1000000 in
set_option maxRecDepth 100000 in
theorem lease_is (h : BK w B a room n count v last sz L G J) {i : Int} (hi : LE.Wi i) {g : LE.Gr} (hb : LE.byN G i = some g) {y : Jb} (hy : (fnd J g.j).getD j0 = y) :
    Calls Tryz.prog 33 #[.pointer (some ⟨B.p, 0, none⟩), .int .i64 i] w fun e w' => e = .returned (.tuple #[lv g.n g.j y.u g.u, .bool true]) ∧ Grw w w' := by
  have ga := (Grw.rfl' w).alloc (.cells #[.int .i64 0, .int .i64 0, .int .i64 0, .int .i64 0, .int .i64 0, .int .u64 0] 38)
  have GA := Lib.hid ga
  have c1 : ∀ o, (w.alloc o).cell? ⟨B.p, 1, none⟩ = some (.pointer (some ⟨B.t, 0, none⟩)) := fun o => ((Grw.rfl' w).alloc o).cell h.c1
  have C := Lib.hid (LE.look_is (h.tb.later ga) i hi)
  rw [hb] at C
  simp only [Option.getD_some, Option.isSome_some] at C
  have wj := (h.tb.ok.wf g (LE.byN_some hb).1).1
  have H := Lib.hid h
  obtain ⟨gn, gj, gu⟩ := g
  unfold LE.gv at C
  simp only at C hy wj
  have S := Lib.hid (Six.new w (.int .i64 0) (.int .i64 0) (.int .i64 0) (.int .i64 0) (.int .i64 0) (.int .u64 0) 38)
  have HY := Lib.hid (And.intro wj hy)
  obtain ⟨yi, yc, ys, yu⟩ := y
  clear h hi hb ga hy wj
  go_enter Tryz.func33, Tryz.ntmps33
  go_wp2_with fail
  refine C.out.mono ?_
  rintro _ w1 ⟨rfl, hw⟩
  have G1 := Lib.hid (GA.out.trans hw)
  have s := S.out.later hw (by rw [size_new]; omega)
  have hs : w.heap.size < w1.heap.size := by have := Below.size hw; rw [size_new] at this; omega
  have s' := s.later ((Grw.rfl' w1).alloc (.cells #[.int .i64 gn, .int .i64 gj, .int .u64 (gu : Nat)] 91)) hs
  obtain ⟨w2, hw2⟩ : ∃ w2, w1.alloc (.cells #[.int .i64 gn, .int .i64 gj, .int .u64 (gu : Nat)] 91) = w2 := ⟨_, rfl⟩
  have b0 : w2.cell? ⟨w1.heap.size, 0, none⟩ = some (.int .i64 gn) := by rw [← hw2]; simp [go_sem]
  have b1 : w2.cell? ⟨w1.heap.size, 1, none⟩ = some (.int .i64 gj) := by rw [← hw2]; simp [go_sem]
  have b2 : w2.cell? ⟨w1.heap.size, 2, none⟩ = some (.int .u64 (gu : Nat)) := by rw [← hw2]; simp [go_sem]
  have g2 : Grw w w2 := by rw [← hw2]; exact G1.out.alloc _
  have G2 := Lib.hid g2
  have c2 := g2.cell H.out.c2
  have lk : (Instr.lookup 57 (.map (some B.ob)) (.int .i64 gj) false).run Tryz.prog w2.drew = .ok (.agg #[.int .i64 yc, .int .i64 ys, .int .i64 yu]) w2.drew := (H.out.later g2.drew).op.get HY.out.1 HY.out.2
  rw [hw2] at s'
  obtain ⟨z0, z1, z2, z3, z4, z5, k0, k1, k2, k3, k4, k5⟩ := s'
  have fa := fld66_1
  have fb := fld48_1
  clear hw s c1 g2 hs
  go_wp2_with fail
  go_region
  go_wp2_with fail
  exact bodyPost_ret (v := .tuple #[lv gn gj yu gu, .bool true]) (by simp [results, Tryz.results33, go_sem, lv, z0, z1, z2, z3, z4, z5]) rfl ⟨rfl, by repeat (first | with_reducible exact G2.out | with_reducible refine Grw.drew ?_ | with_reducible refine Grw.alloc ?_ _ | with_reducible refine Grw.set ?_ (Nat.le_refl _) _)⟩
set_option maxHeartbeats 2000000 in
set_option maxRecDepth 100000 in
theorem step_no (h : BK w B a room n count v last sz L G J) {i k : Int} (hi : LE.Wi i) {y : Jb} (hy : (fnd J i).getD j0 = y) (hs : RE.st n y.s y.u k = (0, 0, false)) :
    Calls Tryz.prog 31 #[.pointer (some ⟨B.p, 0, none⟩), .int .i64 i, .int .i64 k] w fun e w' => e = .returned (RE.tv 0 0 false) ∧ Grw w w' := by
  have C := Lib.hid (fun w => RE.step_is n y.s y.u k 0 0 false w hs)
  obtain ⟨yi, yc, ys, yu⟩ := y
  simp only at C
  obtain ⟨x1, hx1⟩ : ∃ x1, (w.alloc (.cells #[.int .i64 0, .int .i64 0] 48)).alloc (.cells #[.int .i64 yc, .int .i64 ys, .int .i64 yu] 72) = x1 := ⟨_, rfl⟩
  have g1 : Grw w x1 := by rw [← hx1]; exact ((Grw.rfl' w).alloc _).alloc _
  have c2 : ∀ o, (w.alloc o).cell? ⟨B.p, 2, none⟩ = some (.map (some B.ob)) := fun o => ((Grw.rfl' w).alloc o).cell h.c2
  have lk := fun o => (h.later ((Grw.rfl' w).alloc o)).op.get hi hy
  have c4 := g1.cell h.c4
  have e0 : x1.cell? ⟨w.heap.size + 1, 0, none⟩ = some (.int .i64 yc) := by rw [← hx1]; simp [go_sem]
  have e1 : x1.cell? ⟨w.heap.size + 1, 1, none⟩ = some (.int .i64 ys) := by rw [← hx1]; simp [go_sem]
  have e2 : x1.cell? ⟨w.heap.size + 1, 2, none⟩ = some (.int .i64 yu) := by rw [← hx1]; simp [go_sem]
  have T0 : Hid (Two x1 w.heap.size (.int .i64 0) (.int .i64 0) ∧ w.heap.size + 1 < x1.heap.size) := (by rw [← hx1]; exact ⟨(Two.new w _ _ 48).later ((Grw.rfl' _).alloc _) (by rw [size_new]; omega), by simp [go_sem]⟩ : Two x1 w.heap.size (.int .i64 0) (.int .i64 0) ∧ w.heap.size + 1 < x1.heap.size)
  have G1 := Lib.hid g1
  simp only at lk
  clear h hi hy hs g1
  go_enter Tryz.func31, Tryz.ntmps31
  go_wp2_with fail
  have SS : Hid (∀ u, Grw x1 u → (u.cell? ⟨B.p, 4, none⟩ = some (.int .i64 n) ∧ u.cell? ⟨w.heap.size + 1, 1, none⟩ = some (.int .i64 ys) ∧ u.cell? ⟨w.heap.size + 1, 2, none⟩ = some (.int .i64 yu))) :=
    (fun u g => ⟨g.cell c4, g.cell e1, g.cell e2⟩ : ∀ u, Grw x1 u → (u.cell? ⟨B.p, 4, none⟩ = some (.int .i64 n) ∧ u.cell? ⟨w.heap.size + 1, 1, none⟩ = some (.int .i64 ys) ∧ u.cell? ⟨w.heap.size + 1, 2, none⟩ = some (.int .i64 yu)))
  go_cut [9, 10] from 17 to 28 (fun s9 s10 wx => ∃ xb, s9 = .pointer (some ⟨xb, 0, none⟩) ∧ s10 = .bool false ∧ x1.heap.size ≤ xb ∧ Two wx xb (.int .i64 0) (.int .i64 0) ∧ Grw x1 wx)
  case first =>
    go_region_held3 (fun u => u.cell? ⟨B.p, 4, none⟩ = some (.int .i64 n) ∧ u.cell? ⟨w.heap.size + 1, 1, none⟩ = some (.int .i64 ys) ∧ u.cell? ⟨w.heap.size + 1, 2, none⟩ = some (.int .i64 yu))
      ((refine SS.out _ ?_; repeat (first | with_reducible exact hx | with_reducible exact Grw.rfl' _ | with_reducible refine Grw.drew ?_ | with_reducible refine Grw.alloc ?_ _ | with_reducible refine Grw.set ?_ (Nat.le_refl _) _)))
      (first | (go_at_call 55; (with_reducible refine (C.out _).mono ?_); rintro _ w2 ⟨rfl, hw⟩; have hx : Grw x1 w2 := Grw.trans (by repeat (first | with_reducible exact Grw.rfl' _ | with_reducible refine Grw.drew ?_ | with_reducible refine Grw.alloc ?_ _)) hw; (first | (have tt := (Two.new x1 (.int .i64 0) (.int .i64 0) 48).later (Grw.of_drew hw) (by simp [go_sem]); have g0 := tt.c0; have g1 := tt.c1; have g2 := tt.f0; have g3 := tt.f1) | skip); unfold RE.tv))
    all_goals
      go_wp2_with fail
      go_meet
      case rel => first | exact ⟨_, rfl, rfl, Below.size hx, Two.new _ _ _ _, hx.alloc _⟩ | exact ⟨_, rfl, rfl, Nat.le_refl _, tt.set2 _ _, (hx.set (Nat.le_refl _) _).set (Nat.le_refl _) _⟩
  case rest =>
    obtain ⟨xb, rfl, rfl, hxb, ht, hg⟩ := hcut
    have t0 := T0.out.1.later hg (by have := T0.out.2; omega)
    have G2 := Lib.hid (G1.out.trans hg)
    have z0 := t0.c0
    have z1 := t0.c1
    have z2 := t0.f0
    have z3 := t0.f1
    clear c2 lk c4 e0 e1 e2 SS hxb ht hg t0 hx1
    go_wp2_with fail
    exact bodyPost_ret (v := .tuple #[.agg #[.int .i64 0, .int .i64 0], .bool false]) (by simp [results, Tryz.results31, go_sem, z0, z1]) rfl ⟨rfl, by repeat (first | with_reducible exact G2.out | with_reducible refine Grw.set ?_ (Nat.le_refl _) _)⟩
end Go.Proofs.YtlopijcpnfkcgaaGreat

/- The contract of jobs.step where it steps. -/
namespace Go.Proofs.YtlopijcpnfkcgaaGreat
open Go.RowKit
open Go.Maps (Keyed IsMap Tidy)
set_option linter.unusedSimpArgs false
variable {w x : World} {B : BB} {a room n count : Int} {v : Value} {last sz : Nat} {L : List QQ.Wt} {G : List LE.Gr} {J : List Jb}
theorem BK.off (h : BK w B a room n count v last sz L G J) {b : Nat} (hb : ¬ bf B v b) (o : Nat) (u : Value) : BK (w.setCell ⟨b, o, none⟩ u) B a room n count v last sz L G J :=
  h.keep (frm_set (F := fun k => k = b) w ⟨b, o, none⟩ u rfl) (fun _ hk e => hb (e ▸ hk))
theorem Stp.set (h : Stp B v v w x) {b : Nat} (hb : w.heap.size ≤ b) (o : Nat) (u : Value) : Stp B v v w (x.setCell ⟨b, o, none⟩ u) := ⟨h.f.set _ _ (Or.inr hb), h.n⟩
theorem Two.frm {w x : World} {b : Nat} {c0 c1 : Value} (t : Two w b c0 c1) {F : Nat → Prop} (f : Frm F w x) (hn : ¬ F b) : Two x b c0 c1 :=
  ⟨f.cell t.c0 hn, f.cell t.c1 hn, LE.frz_frm f t.c0 hn t.f0, LE.frz_frm f t.c1 hn t.f1⟩
set_option maxHeartbeats 2000000 in
set_option maxRecDepth 100000 in
theorem step_close (h : BK w B a room n count v last sz L G J) (hJ : Ids J) {i k : Int} (hi : LE.Wi i) {y : Jb} (hf : fnd J i = some y) {s' u' : Int} (hs : RE.st n y.s y.u k = (s', u', true)) (h45 : (s' == 4) = true ∨ ((s' == 4) = false ∧ (s' == 5) = true)) :
    Calls Tryz.prog 31 #[.pointer (some ⟨B.p, 0, none⟩), .int .i64 i, .int .i64 k] w fun e w' => e = .returned (RE.tv s' u' true) ∧ BK w' B a room n count v last sz L G (gon J i) ∧ Stp B v v w w' := by
  have C := Lib.hid (fun w => RE.step_is n y.s y.u k s' u' true w hs)
  obtain ⟨hy, hid⟩ := fnd_some hf
  have hgt : (fnd J i).getD j0 = y := by rw [hf]; rfl
  obtain ⟨x1, hx1⟩ : ∃ x1, (w.alloc (.cells #[.int .i64 0, .int .i64 0] 48)).alloc (.cells #[.int .i64 y.cl, .int .i64 y.s, .int .i64 y.u] 72) = x1 := ⟨_, rfl⟩
  have g1 : Grw w x1 := by rw [← hx1]; exact ((Grw.rfl' w).alloc _).alloc _
  have c2 : ∀ o, (w.alloc o).cell? ⟨B.p, 2, none⟩ = some (.map (some B.ob)) := fun o => ((Grw.rfl' w).alloc o).cell h.c2
  have lk := fun o => (h.later ((Grw.rfl' w).alloc o)).op.get hi hgt
  have c4 := g1.cell h.c4
  have H := Lib.hid h
  have HY := Lib.hid (And.intro hJ (And.intro hy hid))
  have K := Lib.hid (Maps.keyOf_int_mk Tryz.underlying3 (LE.wi_wf hi))
  have LT := Lib.hid h.lt
  obtain ⟨yi, yc, ys, yu⟩ := y
  simp only at C hx1 lk
  have e0 : x1.cell? ⟨w.heap.size + 1, 0, none⟩ = some (.int .i64 yc) := by rw [← hx1]; simp [go_sem]
  have e1 : x1.cell? ⟨w.heap.size + 1, 1, none⟩ = some (.int .i64 ys) := by rw [← hx1]; simp [go_sem]
  have e2 : x1.cell? ⟨w.heap.size + 1, 2, none⟩ = some (.int .i64 yu) := by rw [← hx1]; simp [go_sem]
  have T0 : Hid (Two x1 w.heap.size (.int .i64 0) (.int .i64 0) ∧ w.heap.size + 1 < x1.heap.size) := (by rw [← hx1]; exact ⟨(Two.new w _ _ 48).later ((Grw.rfl' _).alloc _) (by rw [size_new]; omega), by simp [go_sem]⟩ : Two x1 w.heap.size (.int .i64 0) (.int .i64 0) ∧ w.heap.size + 1 < x1.heap.size)
  have G1 := Lib.hid g1
  have H45 := Lib.hid h45
  clear h hi hf hy hid hgt hs g1 hJ h45
  go_enter Tryz.func31, Tryz.ntmps31
  go_wp2_with fail
  have SS : Hid (∀ u, Grw x1 u → (u.cell? ⟨B.p, 4, none⟩ = some (.int .i64 n) ∧ u.cell? ⟨w.heap.size + 1, 1, none⟩ = some (.int .i64 ys) ∧ u.cell? ⟨w.heap.size + 1, 2, none⟩ = some (.int .i64 yu))) :=
    (fun u g => ⟨g.cell c4, g.cell e1, g.cell e2⟩ : ∀ u, Grw x1 u → (u.cell? ⟨B.p, 4, none⟩ = some (.int .i64 n) ∧ u.cell? ⟨w.heap.size + 1, 1, none⟩ = some (.int .i64 ys) ∧ u.cell? ⟨w.heap.size + 1, 2, none⟩ = some (.int .i64 yu)))
  go_cut [9, 10] from 17 to 28 (fun s9 s10 wx => ∃ xb, s9 = .pointer (some ⟨xb, 0, none⟩) ∧ s10 = .bool true ∧ x1.heap.size ≤ xb ∧ Two wx xb (.int .i64 s') (.int .i64 u') ∧ Grw x1 wx)
  case first =>
    go_region_held3 (fun u => u.cell? ⟨B.p, 4, none⟩ = some (.int .i64 n) ∧ u.cell? ⟨w.heap.size + 1, 1, none⟩ = some (.int .i64 ys) ∧ u.cell? ⟨w.heap.size + 1, 2, none⟩ = some (.int .i64 yu))
      ((refine SS.out _ ?_; repeat (first | with_reducible exact hx | with_reducible exact Grw.rfl' _ | with_reducible refine Grw.drew ?_ | with_reducible refine Grw.alloc ?_ _ | with_reducible refine Grw.set ?_ (Nat.le_refl _) _)))
      (first | (go_at_call 55; (with_reducible refine (C.out _).mono ?_); rintro _ w2 ⟨rfl, hw⟩; have hx : Grw x1 w2 := Grw.trans (by repeat (first | with_reducible exact Grw.rfl' _ | with_reducible refine Grw.drew ?_ | with_reducible refine Grw.alloc ?_ _)) hw; (first | (have tt := (Two.new x1 (.int .i64 0) (.int .i64 0) 48).later (Grw.of_drew hw) (by simp [go_sem]); have g0 := tt.c0; have g1 := tt.c1; have g2 := tt.f0; have g3 := tt.f1) | skip); unfold RE.tv))
    all_goals
      go_wp2_with fail
      go_meet
      case rel => first | exact ⟨_, rfl, rfl, Below.size hx, Two.new _ _ _ _, hx.alloc _⟩ | exact ⟨_, rfl, rfl, Nat.le_refl _, tt.set2 _ _, (hx.set (Nat.le_refl _) _).set (Nat.le_refl _) _⟩
  case rest =>
    obtain ⟨xb, rfl, rfl, hxb, ht, hg⟩ := hcut
    have hob : B.ob < w.heap.size := LT.out _ (Or.inr (Or.inr (Or.inr rfl)))
    have G2 := Lib.hid (G1.out.trans hg)
    have B2 := Lib.hid (H.out.later G2.out)
    have d2 := B2.out.c2
    obtain ⟨D, kk, hk, o, mj⟩ := B2.out.op
    have OW := Lib.hid o
    have MJ := Lib.hid (And.intro hk mj)
    have T2 := Lib.hid (T0.out.1.later hg (by have := T0.out.2; omega))
    have X2 := Lib.hid ht
    have XB := Lib.hid (show B.ob < xb ∧ B.ob < w.heap.size from ⟨by have := T0.out.2; omega, hob⟩)
    have z0 := ht.c0
    have z1 := ht.c1
    clear c2 lk c4 e0 e1 e2 SS hxb ht hg hx1 hob hk mj o
    rcases H45.out with q4 | ⟨q4, q5⟩
    all_goals
      go_wp2_with (at_delete; refine wpList_delete_own _ rfl _ _ 57 3 rfl 72 LE.law3 Tryz.underlying57 jbE B.ob kk D rfl OW.out _ _ rfl K.out ?_; intro w3 o3 t3; have F3 := Lib.hid (LE.turned_frm t3); have B3 := Lib.hid (B2.out.withO (J' := gon J i) ⟨_, kk, MJ.out.1, o3, by have := MJ.out.2.del HY.out.1 HY.out.2.1; rw [HY.out.2.2] at this; exact this⟩ F3.out); have T3 := Lib.hid (Two.frm T2.out F3.out (fun e => by have := XB.out; omega)); have X3 := Lib.hid (Two.frm X2.out F3.out (fun e => by have := XB.out; omega)); have y0 := X3.out.c0; have y1 := X3.out.c1; have y2 := T3.out.c0; have y3 := T3.out.c1; have y4 := T3.out.f0; have y5 := T3.out.f1; clear o3 t3 z0 z1 d2)
      exact bodyPost_ret (v := RE.tv s' u' true) (by simp [results, Tryz.results31, go_sem, y2, y3, RE.tv]) rfl ⟨rfl, (B3.out.1.off (fun e => Nat.lt_irrefl _ (LT.out _ e)) 0 _).off (fun e => Nat.lt_irrefl _ (LT.out _ e)) 1 _, (((Stp.of B v G2.out).trans B3.out.2).set (Nat.le_refl _) 0 _).set (Nat.le_refl _) 1 _⟩
set_option maxHeartbeats 2000000 in
set_option maxRecDepth 100000 in
theorem step_stay (h : BK w B a room n count v last sz L G J) {i k : Int} (hi : LE.Wi i) {y : Jb} (hf : fnd J i = some y) {s' u' : Int} (hs : RE.st n y.s y.u k = (s', u', true)) (h4 : (s' == 4) = false) (h5 : (s' == 5) = false) (hz : sz < 1000000000) :
    Calls Tryz.prog 31 #[.pointer (some ⟨B.p, 0, none⟩), .int .i64 i, .int .i64 k] w fun e w' => e = .returned (RE.tv s' u' true) ∧ BK w' B a room n count v last (sz + 1) L G (upd J ⟨i, y.cl, s', u'⟩) ∧ Stp B v v w w' := by
  have C := Lib.hid (fun w => RE.step_is n y.s y.u k s' u' true w hs)
  obtain ⟨hy, hid⟩ := fnd_some hf
  have hgt : (fnd J i).getD j0 = y := by rw [hf]; rfl
  obtain ⟨x1, hx1⟩ : ∃ x1, (w.alloc (.cells #[.int .i64 0, .int .i64 0] 48)).alloc (.cells #[.int .i64 y.cl, .int .i64 y.s, .int .i64 y.u] 72) = x1 := ⟨_, rfl⟩
  have g1 : Grw w x1 := by rw [← hx1]; exact ((Grw.rfl' w).alloc _).alloc _
  have c2 : ∀ o, (w.alloc o).cell? ⟨B.p, 2, none⟩ = some (.map (some B.ob)) := fun o => ((Grw.rfl' w).alloc o).cell h.c2
  have lk := fun o => (h.later ((Grw.rfl' w).alloc o)).op.get hi hgt
  have c4 := g1.cell h.c4
  have H := Lib.hid h
  have HY := Lib.hid (show ∃ z ∈ J, z.id = i from ⟨y, hy, hid⟩)
  have K := Lib.hid (Maps.keyOf_int_mk Tryz.underlying3 (LE.wi_wf hi))
  have LT := Lib.hid h.lt
  have HZ := Lib.hid hz
  obtain ⟨yi, yc, ys, yu⟩ := y
  simp only at C hx1 lk
  have e0 : x1.cell? ⟨w.heap.size + 1, 0, none⟩ = some (.int .i64 yc) := by rw [← hx1]; simp [go_sem]
  have e1 : x1.cell? ⟨w.heap.size + 1, 1, none⟩ = some (.int .i64 ys) := by rw [← hx1]; simp [go_sem]
  have e2 : x1.cell? ⟨w.heap.size + 1, 2, none⟩ = some (.int .i64 yu) := by rw [← hx1]; simp [go_sem]
  have T0 : Hid (Two x1 w.heap.size (.int .i64 0) (.int .i64 0) ∧ w.heap.size + 1 < x1.heap.size) := (by rw [← hx1]; exact ⟨(Two.new w _ _ 48).later ((Grw.rfl' _).alloc _) (by rw [size_new]; omega), by simp [go_sem]⟩ : Two x1 w.heap.size (.int .i64 0) (.int .i64 0) ∧ w.heap.size + 1 < x1.heap.size)
  have G1 := Lib.hid g1
  clear h hi hf hy hid hgt hs g1 hz
  go_enter Tryz.func31, Tryz.ntmps31
  go_wp2_with fail
  have SS : Hid (∀ u, Grw x1 u → (u.cell? ⟨B.p, 4, none⟩ = some (.int .i64 n) ∧ u.cell? ⟨w.heap.size + 1, 1, none⟩ = some (.int .i64 ys) ∧ u.cell? ⟨w.heap.size + 1, 2, none⟩ = some (.int .i64 yu))) :=
    (fun u g => ⟨g.cell c4, g.cell e1, g.cell e2⟩ : ∀ u, Grw x1 u → (u.cell? ⟨B.p, 4, none⟩ = some (.int .i64 n) ∧ u.cell? ⟨w.heap.size + 1, 1, none⟩ = some (.int .i64 ys) ∧ u.cell? ⟨w.heap.size + 1, 2, none⟩ = some (.int .i64 yu)))
  go_cut [9, 10] from 17 to 28 (fun s9 s10 wx => ∃ xb, s9 = .pointer (some ⟨xb, 0, none⟩) ∧ s10 = .bool true ∧ x1.heap.size ≤ xb ∧ Two wx xb (.int .i64 s') (.int .i64 u') ∧ Grw x1 wx)
  case first =>
    go_region_held3 (fun u => u.cell? ⟨B.p, 4, none⟩ = some (.int .i64 n) ∧ u.cell? ⟨w.heap.size + 1, 1, none⟩ = some (.int .i64 ys) ∧ u.cell? ⟨w.heap.size + 1, 2, none⟩ = some (.int .i64 yu))
      ((refine SS.out _ ?_; repeat (first | with_reducible exact hx | with_reducible exact Grw.rfl' _ | with_reducible refine Grw.drew ?_ | with_reducible refine Grw.alloc ?_ _ | with_reducible refine Grw.set ?_ (Nat.le_refl _) _)))
      (first | (go_at_call 55; (with_reducible refine (C.out _).mono ?_); rintro _ w2 ⟨rfl, hw⟩; have hx : Grw x1 w2 := Grw.trans (by repeat (first | with_reducible exact Grw.rfl' _ | with_reducible refine Grw.drew ?_ | with_reducible refine Grw.alloc ?_ _)) hw; (first | (have tt := (Two.new x1 (.int .i64 0) (.int .i64 0) 48).later (Grw.of_drew hw) (by simp [go_sem]); have g0 := tt.c0; have g1 := tt.c1; have g2 := tt.f0; have g3 := tt.f1) | skip); unfold RE.tv))
    all_goals
      go_wp2_with fail
      go_meet
      case rel => first | exact ⟨_, rfl, rfl, Below.size hx, Two.new _ _ _ _, hx.alloc _⟩ | exact ⟨_, rfl, rfl, Nat.le_refl _, tt.set2 _ _, (hx.set (Nat.le_refl _) _).set (Nat.le_refl _) _⟩
  case rest =>
    obtain ⟨xb, rfl, rfl, hxb, ht, hg⟩ := hcut
    have hob : B.ob < w.heap.size := LT.out _ (Or.inr (Or.inr (Or.inr rfl)))
    have g2 := G1.out.trans hg
    have B2 := Lib.hid (H.out.later g2)
    have d2 := B2.out.c2
    obtain ⟨D, kk, hk, o, mj⟩ := B2.out.op
    obtain ⟨w3, hrun, o3, t3⟩ := o.drew.store LE.law3 Tryz.underlying57 (by have : maxLen = 9223372036854775807 := rfl; have := HZ.out; omega) K.out (jbE_mk ⟨i, yc, s', u'⟩)
    have f3 := LE.turned_frm t3
    have fd : Frm (fun k => k = B.ob) _ w3 := ((Frm.rfl' _ _).drew).trans f3 (fun _ e => Or.inl e)
    have B3 := Lib.hid (B2.out.withO (sz' := sz + 1) (J' := upd J ⟨i, yc, s', u'⟩) ⟨_, kk + 1, by omega, o3, MapJ.upd mj (g := ⟨i, yc, s', u'⟩) HY.out⟩ fd)
    have T3 := Lib.hid (Two.frm (T0.out.1.later hg (by have := T0.out.2; omega)) fd (fun e => by omega))
    have X3 := Lib.hid (Two.frm ht fd (fun e => by have := T0.out.2; omega))
    have z0 := ht.c0
    have z1 := ht.c1
    have y0 := X3.out.c0
    have y1 := X3.out.c1
    have y2 := T3.out.c0
    have y3 := T3.out.c1
    have y4 := T3.out.f0
    have y5 := T3.out.f1
    have x0 := hg.cell e0
    have G2 := Lib.hid g2
    unfold jv at hrun
    simp only at hrun
    clear c2 lk c4 e0 e1 e2 SS hxb ht hg hx1 hob hk mj o g2 o3 t3 f3 fd
    go_wp2_with fail
    go_region
    go_wp2_with fail
    exact bodyPost_ret (v := RE.tv s' u' true) (by simp [results, Tryz.results31, go_sem, y2, y3, RE.tv]) rfl ⟨rfl, (B3.out.1.off (fun e => Nat.lt_irrefl _ (LT.out _ e)) 0 _).off (fun e => Nat.lt_irrefl _ (LT.out _ e)) 1 _, (((Stp.of B v G2.out).trans B3.out.2).set (Nat.le_refl _) 0 _).set (Nat.le_refl _) 1 _⟩
end Go.Proofs.YtlopijcpnfkcgaaGreat
