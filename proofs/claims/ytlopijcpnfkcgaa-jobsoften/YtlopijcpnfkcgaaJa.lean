/- The book in memory; the contracts of jobs.New, State, Open, Count, Waits, Lease at this program. -/
import Derived.Test.YtlopijcpnfkcgaaQQk
import Derived.Test.YtlopijcpnfkcgaaLTb
import Derived.Test.YtlopijcpnfkcgaaRWc
import Derived.Test.YtlopijcpnfkcgaaJm
namespace Go.Proofs.Ytlopijcpnfkcgaa
open Go.RowKit
open Go.Maps (Keyed IsMap Tidy)
set_option linter.unusedSimpArgs false

/-- the blocks of a book: its own, the queue's, the table's, the table's two maps, the open jobs' map. -/
structure BB where
  p : Nat
  q : Nat
  t : Nat
  mb : Nat
  jb : Nat
  ob : Nat
def bf (B : BB) (v : Value) (k : Nat) : Prop := k = B.p ∨ QQ.qf B.q v k ∨ LE.tf B.t B.mb B.jb k ∨ k = B.ob
structure Apart (B : BB) (v : Value) : Prop where
  dq : ∀ k, QQ.qf B.q v k → ¬ LE.tf B.t B.mb B.jb k ∧ k ≠ B.p ∧ k ≠ B.ob
  dt : ∀ k, LE.tf B.t B.mb B.jb k → k ≠ B.p ∧ k ≠ B.ob
  dp : B.p ≠ B.ob
/-- the book's map of open jobs. -/
def OM (w : World) (ob sz : Nat) (J : List Jb) : Prop := ∃ D k, k ≤ sz ∧ w.ownsMap Try.prog 3 jbE ob k D ∧ MapJ D J
/-- the book in memory. -/
structure BK (w : World) (B : BB) (a room n count : Int) (v : Value) (last sz : Nat) (L : List QQ.Wt) (G : List LE.Gr) (J : List Jb) : Prop where
  c0 : w.cell? ⟨B.p, 0, none⟩ = some (.pointer (some ⟨B.q, 0, none⟩))
  c1 : w.cell? ⟨B.p, 1, none⟩ = some (.pointer (some ⟨B.t, 0, none⟩))
  c2 : w.cell? ⟨B.p, 2, none⟩ = some (.map (some B.ob))
  c3 : w.cell? ⟨B.p, 3, none⟩ = some (.int .i64 room)
  c4 : w.cell? ⟨B.p, 4, none⟩ = some (.int .i64 n)
  qu : QQ.QU w B.q a room count v L
  tb : LE.TB w B.t B.mb B.jb last G
  op : OM w B.ob sz J
  ap : Apart B v
variable {w x : World} {B : BB} {a room n count : Int} {v : Value} {last sz : Nat} {L : List QQ.Wt} {G : List LE.Gr} {J : List Jb}
theorem OM.keep {ob : Nat} (h : OM w ob sz J) {F : Nat → Prop} (f : Frm F w x) (hn : ¬ F ob) : OM x ob sz J := by
  obtain ⟨D, k, hk, o, m⟩ := h
  exact ⟨D, k, hk, LE.ownsMap_frm o f hn, m⟩
theorem BK.keep (h : BK w B a room n count v last sz L G J) {F : Nat → Prop} (f : Frm F w x) (hn : ∀ k, bf B v k → ¬ F k) : BK x B a room n count v last sz L G J := by
  have np := hn B.p (Or.inl rfl)
  exact ⟨f.cell h.c0 np, f.cell h.c1 np, f.cell h.c2 np, f.cell h.c3 np, f.cell h.c4 np, h.qu.keep f (fun k hk => hn k (Or.inr (Or.inl hk))), h.tb.keep f (fun k hk => hn k (Or.inr (Or.inr (Or.inl hk)))), h.op.keep f (hn _ (Or.inr (Or.inr (Or.inr rfl)))), h.ap⟩
theorem BK.later (h : BK w B a room n count v last sz L G J) (g : Grw w x) : BK x B a room n count v last sz L G J :=
  h.keep (g.frm (fun _ => False)) (fun _ _ e => e)
theorem BK.lt (h : BK w B a room n count v last sz L G J) : ∀ k, bf B v k → k < w.heap.size := by
  rintro k (rfl | (rfl | e) | e | rfl)
  · exact World.block_lt_of_cell? _ _ h.c0
  · exact World.block_lt_of_cell? _ _ h.qu.c0
  · obtain ⟨l, hl, _⟩ := h.qu.line
    rcases hl.row.2 with ⟨h1, _⟩ | ⟨b, cap, cur, rfl, _, hg, _⟩
    · rw [h1] at e; cases e
    · cases e; exact (Array.getElem?_eq_some_iff.1 hg).1
  · exact h.tb.lt k e
  · obtain ⟨D, k, _, o, _⟩ := h.op
    exact o.lt
/-- what one step does to the world: the book's blocks alone, or new ones. -/
structure Stp (B : BB) (v v' : Value) (w x : World) : Prop where
  f : Frm (bf B v) w x
  n : QQ.Near w v v'
theorem Stp.of (B : BB) (v : Value) {w x : World} (g : Grw w x) : Stp B v v w x := ⟨g.frm _, Or.inl rfl⟩
theorem near_bf {v' : Value} (h : QQ.Near w v v') {k : Nat} (hk : bf B v' k) : bf B v k ∨ w.heap.size ≤ k := by
  rcases hk with e | (e | e) | e | e
  · exact Or.inl (Or.inl e)
  · exact Or.inl (Or.inr (Or.inl (Or.inl e)))
  · rcases h with h | ⟨j, hj, hw⟩
    · exact Or.inl (Or.inr (Or.inl (Or.inr (by rw [← h]; exact e))))
    · rw [e] at hj; injection hj with hj; exact Or.inr (by omega)
  · exact Or.inl (Or.inr (Or.inr (Or.inl e)))
  · exact Or.inl (Or.inr (Or.inr (Or.inr e)))
theorem Stp.trans {v1 v2 : Value} {y : World} (h : Stp B v v1 w x) (g : Stp B v1 v2 x y) : Stp B v v2 w y := by
  refine ⟨h.f.trans g.f (fun k hk => near_bf h.n hk), ?_⟩
  rcases g.n with e | ⟨k, hk, hw⟩
  · rcases h.n with e2 | ⟨k, hk, hw⟩
    · exact Or.inl (e.trans e2)
    · exact Or.inr ⟨k, e.trans hk, hw⟩
  · exact Or.inr ⟨k, hk, Nat.le_trans h.f.size hw⟩
theorem BK.withQ (h : BK w B a room n count v last sz L G J) {count' : Int} {v' : Value} {L' : List QQ.Wt} (q : QQ.QU x B.q a room count' v' L') (f : Frm (QQ.qf B.q v) w x) (nr : QQ.Near w v v') : BK x B a room n count' v' last sz L' G J ∧ Stp B v v' w x := by
  have np : ¬ QQ.qf B.q v B.p := fun e => (h.ap.dq _ e).2.1 rfl
  have hlt := h.lt
  refine ⟨⟨f.cell h.c0 np, f.cell h.c1 np, f.cell h.c2 np, f.cell h.c3 np, f.cell h.c4 np, q, h.tb.keep f (fun k hk e => (h.ap.dq k e).1 hk), h.op.keep f (fun e => (h.ap.dq _ e).2.2 rfl), ⟨fun k hk => ?_, h.ap.dt, h.ap.dp⟩⟩, ⟨f.mono (fun k hk => Or.inr (Or.inl hk)), nr⟩⟩
  rcases hk with e | e
  · exact h.ap.dq k (Or.inl e)
  · rcases nr with nr | ⟨j, hj, hw⟩
    · exact h.ap.dq k (Or.inr (by rw [← nr]; exact e))
    · rw [e] at hj; injection hj with hj; subst hj
      exact ⟨fun c => by have := hlt k (Or.inr (Or.inr (Or.inl c))); omega, fun c => by have := hlt k (Or.inl c); omega, fun c => by have := hlt k (Or.inr (Or.inr (Or.inr c))); omega⟩
theorem BK.withT (h : BK w B a room n count v last sz L G J) {last' : Nat} {G' : List LE.Gr} (t : LE.TB x B.t B.mb B.jb last' G') (f : Frm (LE.tf B.t B.mb B.jb) w x) : BK x B a room n count v last' sz L G' J ∧ Stp B v v w x := by
  have np : ¬ LE.tf B.t B.mb B.jb B.p := fun e => (h.ap.dt _ e).1 rfl
  exact ⟨⟨f.cell h.c0 np, f.cell h.c1 np, f.cell h.c2 np, f.cell h.c3 np, f.cell h.c4 np, h.qu.keep f (fun k hk e => (h.ap.dq k hk).1 e), t, h.op.keep f (fun e => (h.ap.dt _ e).2 rfl), h.ap⟩, ⟨f.mono (fun k hk => Or.inr (Or.inr (Or.inl hk))), Or.inl rfl⟩⟩
theorem BK.withO (h : BK w B a room n count v last sz L G J) {sz' : Nat} {J' : List Jb} (o : OM x B.ob sz' J') (f : Frm (fun k => k = B.ob) w x) : BK x B a room n count v last sz' L G J' ∧ Stp B v v w x := by
  have np : ¬ B.p = B.ob := h.ap.dp
  exact ⟨⟨f.cell h.c0 np, f.cell h.c1 np, f.cell h.c2 np, f.cell h.c3 np, f.cell h.c4 np, h.qu.keep f (fun k hk e => (h.ap.dq k hk).2.2 e), h.tb.keep f (fun k hk e => (h.ap.dt k hk).2 e), o, h.ap⟩, ⟨f.mono (fun k hk => Or.inr (Or.inr (Or.inr hk))), Or.inl rfl⟩⟩
/-- a book made since w0. -/
structure BM (w0 w : World) (B : BB) (a room n count : Int) (v : Value) (last sz : Nat) (L : List QQ.Wt) (G : List LE.Gr) (J : List Jb) : Prop where
  b : BK w B a room n count v last sz L G J
  g : Grw w0 w
  new : ∀ k, bf B v k → w0.heap.size ≤ k
theorem BM.later {w0 : World} (h : BM w0 w B a room n count v last sz L G J) (g : Grw w x) : BM w0 x B a room n count v last sz L G J := ⟨h.b.later g, h.g.trans g, h.new⟩
theorem BM.step {w0 : World} (h : BM w0 w B a room n count v last sz L G J) {count' : Int} {v' : Value} {last' sz' : Nat} {L' : List QQ.Wt} {G' : List LE.Gr} {J' : List Jb} (b : BK x B a room n count' v' last' sz' L' G' J') (s : Stp B v v' w x) : BM w0 x B a room n count' v' last' sz' L' G' J' :=
  ⟨b, s.f.grw h.g h.new, fun k hk => (near_bf s.n hk).elim (h.new k) (fun e => Nat.le_trans (Below.size h.g) e)⟩

def j0 : Jb := ⟨0, 0, 0, 0⟩
theorem zero66 (w : World) : (zeroValue 66).run Try.prog w = .ok (.agg #[.int .i64 0, .int .i64 0, .int .i64 0]) w := by kernel_rfl
theorem mk62 (w : World) : (Instr.makeMap 62 none).run Try.prog w = .ok (.map (some w.heap.size)) (w.alloc (.map #[] 0)) := by
  simp [Instr.makeMap, run_underlying Try.underlying62]
theorem jb_at {D : DataW Unit} (m : MapJ D J) (i : Int) : Maps.has D (LE.ky i) = (fnd J i).isSome ∧ D.atKey (LE.ky i) (jd j0) = jd ((fnd J i).getD j0) := by
  rcases e : fnd J i with _ | y
  · have := m.no i (fnd_none e)
    exact ⟨this.1, this.2 _⟩
  · obtain ⟨hy, rfl⟩ := fnd_some e
    have := m.yes y hy
    exact ⟨this.1, this.2 _⟩
theorem jbE_is {u : Value} {ps : List MemPlace} {y : Jb} (h : jbE u = some (jd y, ps)) : u = .agg #[.int .i64 y.cl, .int .i64 y.s, .int .i64 y.u] := by
  obtain ⟨c, s, k, rfl, e⟩ := jbE_inv h
  have := congrArg Prod.fst e
  unfold jd at this
  simp only [DataW.agg.injEq, List.cons.injEq, DataW.lit.injEq, Lit.int.injEq, true_and, and_true] at this
  obtain ⟨h1, h2, h3⟩ := this
  rw [h1, h2, h3]
theorem OM.look {ob : Nat} (h : OM w ob sz J) {i : Int} (hi : LE.Wi i) {y : Jb} (hy : (fnd J i).getD j0 = y) {b : Bool} (hb : (fnd J i).isSome = b) :
    (Instr.lookup 62 (.map (some ob)) (.int .i64 i) true).run Try.prog w = .ok (.tuple #[.agg #[.int .i64 y.cl, .int .i64 y.s, .int .i64 y.u], .bool b]) w := by
  obtain ⟨D, k, hk, o, m⟩ := h
  obtain ⟨u, ps, hrun, hu⟩ := o.look_ok LE.law3 Try.underlying62 (zero66 w) (jbE_mk j0) (Maps.keyOf_int_mk Try.underlying3 (LE.wi_wf hi))
  obtain ⟨e1, e2⟩ := jb_at m i
  rw [show (Lit.int .i64 i) = LE.ky i from rfl, e2, hy] at hu
  rw [hrun, jbE_is hu, show (Lit.int .i64 i) = LE.ky i from rfl, e1, hb]
theorem OM.get {ob : Nat} (h : OM w ob sz J) {i : Int} (hi : LE.Wi i) {y : Jb} (hy : (fnd J i).getD j0 = y) :
    (Instr.lookup 62 (.map (some ob)) (.int .i64 i) false).run Try.prog w = .ok (.agg #[.int .i64 y.cl, .int .i64 y.s, .int .i64 y.u]) w := by
  obtain ⟨D, k, hk, o, m⟩ := h
  obtain ⟨u, ps, hrun, hu⟩ := o.lookup LE.law3 Try.underlying62 (zero66 w) (jbE_mk j0) (Maps.keyOf_int_mk Try.underlying3 (LE.wi_wf hi))
  obtain ⟨e1, e2⟩ := jb_at m i
  rw [show (Lit.int .i64 i) = LE.ky i from rfl, e2, hy] at hu
  rw [hrun, jbE_is hu]

theorem new_bk {w1 w2 : World} {q t mb jb : Nat} (m1 : QQ.QM w w1 q a room 0 (.slice none 0 0) []) (tm : LE.TM w1 w2 t mb jb 0 []) :
    BM w ((w2.alloc (.map #[] 0)).alloc (.cells #[.pointer (some ⟨q, 0, none⟩), .pointer (some ⟨t, 0, none⟩), .map (some w2.heap.size), .int .i64 room, .int .i64 n] 64)) ⟨w2.heap.size + 1, q, t, mb, jb, w2.heap.size⟩ a room n 0 (.slice none 0 0) 0 0 [] [] [] := by
  have g2 : Grw w2 ((w2.alloc (.map #[] 0)).alloc (.cells #[.pointer (some ⟨q, 0, none⟩), .pointer (some ⟨t, 0, none⟩), .map (some w2.heap.size), .int .i64 room, .int .i64 n] 64)) := ((Grw.rfl' w2).alloc _).alloc _
  have hq : ∀ k, QQ.qf q (.slice none 0 0) k → w.heap.size ≤ k ∧ k < w1.heap.size := by
    rintro k (rfl | e)
    · exact ⟨m1.pn, World.block_lt_of_cell? _ _ m1.q.c0⟩
    · cases e
  have ht : ∀ k, LE.tf t mb jb k → w1.heap.size ≤ k ∧ k < w2.heap.size := fun k hk => ⟨tm.new k hk, tm.t.lt k hk⟩
  have s1 := Below.size m1.g
  have s2 := Below.size tm.g
  refine ⟨⟨by simp [go_sem], by simp [go_sem], by simp [go_sem], by simp [go_sem], by simp [go_sem], m1.q.later (tm.g.trans g2), tm.t.later g2, ⟨.map [], 0, Nat.le_refl _, ?_, MapJ.nil⟩, ⟨fun k hk => ?_, fun k hk => ?_, by simp⟩⟩, (m1.g.trans tm.g).trans g2, ?_⟩
  · exact (World.ownsMap_made (H := Unit) w2 Try.prog 3 jbE).alloc _
  · have h1 := hq k hk
    exact ⟨fun e => by have := ht k e; omega, by simp only; omega, by simp only; omega⟩
  · have h1 := ht k hk
    exact ⟨by simp only; omega, by simp only; omega⟩
  · rintro k (rfl | e | e | rfl)
    · simp only; omega
    · exact (hq k e).1
    · have := (ht k e).1; omega
    · simp only; omega
set_option maxHeartbeats 1000000 in
set_option maxRecDepth 100000 in
theorem new_yes (a room n : Int) (w : World) (h1 : 1 ≤ a) (h2 : a ≤ 1000) (h3 : 0 ≤ room) (h4 : room ≤ 1000) (h5 : 0 ≤ n) (h6 : n ≤ 9) :
    Calls Try.prog 7 #[.int .i64 a, .int .i64 room, .int .i64 n] w fun e w' => ∃ B, e = .returned (.pointer (some ⟨B.p, 0, none⟩)) ∧ BM w w' B a room n 0 (.slice none 0 0) 0 0 [] [] [] := by
  have C := Lib.hid (QQ.m_new a room w w (Grw.rfl' w) h1 h2 h3 h4)
  have d1 : decide (n < 0) = false := by simp; omega
  have d2 : decide (9 < n) = false := by simp; omega
  have hm := mk62
  clear h1 h2 h3 h4 h5 h6
  go_enter Try.func7, Try.ntmps7
  go_wp2_with fail
  refine C.out.mono ?_
  rintro _ w1 ⟨q, rfl, m1, _⟩
  have M1 := Lib.hid m1
  clear m1
  go_wp2_with fail
  refine (LE.new_is w1).mono ?_
  rintro _ w2 ⟨t, mb, jb, rfl, tm⟩
  have R := Lib.hid (new_bk (n := n) M1.out tm)
  clear tm
  go_wp2_with fail
  go_ret
  exact ⟨_, rfl, R.out⟩
set_option maxHeartbeats 1000000 in
set_option maxRecDepth 100000 in
theorem new_neg (a room : Int) (w : World) (h1 : 1 ≤ a) (h2 : a ≤ 1000) (h3 : 0 ≤ room) (h4 : room ≤ 1000) :
    Calls Try.prog 7 #[.int .i64 a, .int .i64 room, .int .i64 (-1)] w fun e w' => e = .returned (.pointer none) ∧ Grw w w' := by
  have C := Lib.hid (QQ.m_new a room w w (Grw.rfl' w) h1 h2 h3 h4)
  clear h1 h2 h3 h4
  go_enter Try.func7, Try.ntmps7
  go_wp2_with fail
  refine C.out.mono ?_
  rintro _ w1 ⟨q, rfl, m1, _⟩
  have G1 := Lib.hid m1.g
  clear m1
  go_wp2_with fail
  go_ret
  exact ⟨rfl, G1.out⟩
set_option maxHeartbeats 1000000 in
set_option maxRecDepth 100000 in
theorem state_nil (i : Int) (w : World) : Calls Try.prog 18 #[.pointer none, .int .i64 i] w fun e w' => e = .returned (.tuple #[.agg #[.int .i64 0, .int .i64 0], .bool false]) ∧ Grw w w' := by
  go_enter Try.func18, Try.ntmps18
  go_wp2_with fail
  exact bodyPost_ret (v := .tuple #[.agg #[.int .i64 0, .int .i64 0], .bool false]) (by simp [results, Try.results18, go_sem]) rfl ⟨rfl, (Grw.rfl' w).alloc _⟩
set_option maxHeartbeats 1000000 in
set_option maxRecDepth 100000 in
theorem state_is (h : BK w B a room n count v last sz L G J) {i : Int} (hi : LE.Wi i) {y : Jb} (hy : (fnd J i).getD j0 = y) {b : Bool} (hb : (fnd J i).isSome = b) :
    Calls Try.prog 18 #[.pointer (some ⟨B.p, 0, none⟩), .int .i64 i] w fun e w' => e = .returned (.tuple #[.agg #[.int .i64 y.s, .int .i64 y.u], .bool b]) ∧ Grw w w' := by
  have ga : ∀ o, Grw w (w.alloc o) := fun o => (Grw.rfl' w).alloc o
  have c2 : ∀ o, (w.alloc o).cell? ⟨B.p, 2, none⟩ = some (.map (some B.ob)) := fun o => (ga o).cell h.c2
  have lk := fun o => (h.later (ga o)).op.look hi hy hb
  obtain ⟨yi, yc, ys, yu⟩ := y
  simp only at lk
  clear h hi hy hb ga
  go_enter Try.func18, Try.ntmps18
  go_wp2_with fail
  exact bodyPost_ret (v := .tuple #[.agg #[.int .i64 ys, .int .i64 yu], .bool b]) (by simp [results, Try.results18, go_sem]) rfl ⟨rfl, by repeat (first | with_reducible exact Grw.rfl' _ | with_reducible refine Grw.alloc ?_ _ | with_reducible refine Grw.set ?_ (by simp [go_sem]) _)⟩
set_option maxHeartbeats 1000000 in
set_option maxRecDepth 100000 in
theorem open_nil (w : World) : Calls Try.prog 17 #[.pointer none] w fun e w' => e = .returned (.int .i64 0) ∧ w = w' := by
  go_enter Try.func17, Try.ntmps17
  go_wp2_with fail
  go_ret
  exact ⟨rfl, rfl⟩
set_option maxHeartbeats 1000000 in
set_option maxRecDepth 100000 in
theorem open_is (h : BK w B a room n count v last sz L G J) {m : Nat} (hm : J.length = m) :
    Calls Try.prog 17 #[.pointer (some ⟨B.p, 0, none⟩)] w fun e w' => e = .returned (.int .i64 m) ∧ w = w' := by
  obtain ⟨D, k, _, o, mj⟩ := h.op
  have c2 := h.c2
  have H := Lib.hid o
  have Q := Lib.hid (mj.size.trans hm)
  clear h o hm mj
  go_enter Try.func17, Try.ntmps17
  go_wp2_with (at_len; refine wpList_len_own _ rfl _ 62 rfl 3 66 Try.underlying62 _ B.ob _ D rfl H.out ?_)
  go_ret
  exact ⟨by rw [← Q.out]; rfl, rfl⟩
set_option maxHeartbeats 1000000 in
set_option maxRecDepth 100000 in
theorem count_nil (w : World) : Calls Try.prog 21 #[.pointer none] w fun e w' => e = .returned (.int .i64 0) ∧ w = w' := by
  go_enter Try.func21, Try.ntmps21
  go_wp2_with fail
  go_ret
  exact ⟨rfl, rfl⟩
set_option maxHeartbeats 1000000 in
set_option maxRecDepth 100000 in
theorem waits_nil (w : World) : Calls Try.prog 20 #[.pointer none] w fun e w' => e = .returned (.slice none 0 0) ∧ w = w' := by
  go_enter Try.func20, Try.ntmps20
  go_wp2_with fail
  go_ret
  exact ⟨rfl, rfl⟩
end Go.Proofs.Ytlopijcpnfkcgaa
