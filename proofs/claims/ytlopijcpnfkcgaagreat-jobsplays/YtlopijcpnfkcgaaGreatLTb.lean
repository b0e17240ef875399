/- The table in memory; the contracts of lease.New, Look, Of, Len and of a nil table at this program. -/
import Derived.Test.YtlopijcpnfkcgaaGreatProg
import Derived.Test.YtlopijcpnfkcgaaGreatFt
import Derived.Test.YtlopijcpnfkcgaaGreatLLm
namespace Go.Proofs.YtlopijcpnfkcgaaGreat
namespace LE
open Go.RowKit
open Go.Maps (Keyed IsMap Tidy)
set_option linter.unusedSimpArgs false

theorem frz_frm {F : Nat → Prop} {w x : World} {a : Addr} {v : Value} (f : Frm F w x) (hc : w.cell? a = some v) (hn : ¬ F a.block) (h : w.frozen? a = false) : x.frozen? a = false := by
  have e := f.block a.block (World.block_lt_of_cell? w a hc) hn
  unfold World.frozen? at *
  rw [e]; exact h
theorem ownsMap_block {H : Type} {P : Program} {k : TypeId} {R : Value → Option (DataW H × List MemPlace)} {w x : World} {b n : Nat} {D : DataW H} (h : w.ownsMap P k R b n D) (e : x.heap[b]? = w.heap[b]?) : x.ownsMap P k R b n D := by
  obtain ⟨es, clock, hb, r⟩ := h
  exact ⟨es, clock, by rw [e]; exact hb, r⟩
theorem ownsMap_frm {H : Type} {P : Program} {k : TypeId} {R : Value → Option (DataW H × List MemPlace)} {F : Nat → Prop} {w x : World} {b n : Nat} {D : DataW H} (h : w.ownsMap P k R b n D) (f : Frm F w x) (hn : ¬ F b) : x.ownsMap P k R b n D :=
  ownsMap_block h (f.block b h.lt hn)
theorem law3 : Keyed Tryz.prog 3 := Maps.int_keyed Tryz.underlying3
theorem zero39 (w : World) : (zeroValue 91).run Tryz.prog w = .ok (.agg #[.int .i64 0, .int .i64 0, .int .u64 0]) w := by kernel_rfl
theorem zero3 (w : World) : (zeroValue 3).run Tryz.prog w = .ok (.int .i64 0) w := by kernel_rfl
def g0 : Gr := ⟨0, 0, 0⟩
def nd (g : Gr) : DataW Unit := .lit (.int .i64 g.n)

/-- the table at block p: its leases L in the order of their numbers; maps in blocks mb, jb. -/
structure TB (w : World) (p mb jb : Nat) (last : Nat) (L : List Gr) : Prop where
  c0 : w.cell? ⟨p, 0, none⟩ = some (.int .i64 (last : Nat))
  c1 : w.cell? ⟨p, 1, none⟩ = some (.map (some mb))
  c2 : w.cell? ⟨p, 2, none⟩ = some (.map (some jb))
  f0 : w.frozen? ⟨p, 0, none⟩ = false
  m1 : ∃ D, w.ownsMap Tryz.prog 3 grE mb last D ∧ MapOf Gr.n gd D L
  m2 : ∃ D, w.ownsMap Tryz.prog 3 (plainElem Tryz.prog 3) jb last D ∧ MapOf Gr.j nd D L
  ok : Ok last L
  n1 : p ≠ mb
  n2 : p ≠ jb
  n3 : mb ≠ jb
def tf (p mb jb : Nat) (k : Nat) : Prop := k = p ∨ k = mb ∨ k = jb
theorem TB.keep {w x : World} {p mb jb last : Nat} {L : List Gr} (h : TB w p mb jb last L) {F : Nat → Prop} (f : Frm F w x) (hn : ∀ k, tf p mb jb k → ¬ F k) : TB x p mb jb last L := by
  obtain ⟨D, o1, q1⟩ := h.m1
  obtain ⟨E, o2, q2⟩ := h.m2
  have np := hn p (Or.inl rfl)
  exact ⟨f.cell h.c0 np, f.cell h.c1 np, f.cell h.c2 np, frz_frm f h.c0 np h.f0, ⟨D, ownsMap_frm o1 f (hn mb (Or.inr (Or.inl rfl))), q1⟩, ⟨E, ownsMap_frm o2 f (hn jb (Or.inr (Or.inr rfl))), q2⟩, h.ok, h.n1, h.n2, h.n3⟩
theorem TB.later {w x : World} {p mb jb last : Nat} {L : List Gr} (h : TB w p mb jb last L) (g : Grw w x) : TB x p mb jb last L :=
  h.keep (g.frm (fun _ => False)) (fun _ _ e => e)
theorem TB.lt {w : World} {p mb jb last : Nat} {L : List Gr} (h : TB w p mb jb last L) : ∀ k, tf p mb jb k → k < w.heap.size := by
  obtain ⟨D, o1, q1⟩ := h.m1
  obtain ⟨E, o2, q2⟩ := h.m2
  rintro k (rfl | rfl | rfl)
  · exact World.block_lt_of_cell? _ _ h.c0
  · exact o1.lt
  · exact o2.lt
/-- the table is made since w0. -/
structure TM (w0 w : World) (p mb jb : Nat) (last : Nat) (L : List Gr) : Prop where
  t : TB w p mb jb last L
  g : Grw w0 w
  new : ∀ k, tf p mb jb k → w0.heap.size ≤ k
theorem TM.later {w0 w x : World} {p mb jb last : Nat} {L : List Gr} (h : TM w0 w p mb jb last L) (g : Grw w x) : TM w0 x p mb jb last L :=
  ⟨h.t.later g, h.g.trans g, h.new⟩
theorem TM.step {w0 w x : World} {p mb jb last last' : Nat} {L L' : List Gr} (h : TM w0 w p mb jb last L) (t : TB x p mb jb last' L') (f : Frm (tf p mb jb) w x) : TM w0 x p mb jb last' L' :=
  ⟨t, f.grw h.g h.new, h.new⟩
theorem mk59 (w : World) : (Instr.makeMap 104 none).run Tryz.prog w = .ok (.map (some w.heap.size)) (w.alloc (.map #[] 0)) := by
  simp [Instr.makeMap, run_underlying Tryz.underlying104]
theorem mk60 (w : World) : (Instr.makeMap 105 none).run Tryz.prog w = .ok (.map (some w.heap.size)) (w.alloc (.map #[] 0)) := by
  simp [Instr.makeMap, run_underlying Tryz.underlying105]
theorem new_tb (w : World) : TB (((w.alloc (.map #[] 0)).alloc (.map #[] 0)).alloc (.cells #[.int .i64 0, .map (some w.heap.size), .map (some (w.heap.size + 1))] 107)) (w.heap.size + 2) w.heap.size (w.heap.size + 1) 0 [] := by
  refine ⟨by simp [go_sem], by simp [go_sem], by simp [go_sem], by simp [go_sem], ⟨.map [], ?_, MapOf.nil⟩, ⟨.map [], ?_, MapOf.nil⟩, Ok.nil, by omega, by omega, by omega⟩
  · exact ((World.ownsMap_made (H := Unit) w Tryz.prog 3 grE).alloc _).alloc _
  · have := (World.ownsMap_made (H := Unit) (w.alloc (.map #[] 0)) Tryz.prog 3 (plainElem Tryz.prog 3)).alloc (.cells #[.int .i64 0, .map (some w.heap.size), .map (some (w.heap.size + 1))] 107)
    rw [size_new] at this
    exact this
set_option maxHeartbeats 1000000 in
set_option maxRecDepth 100000 in
theorem new_is (w : World) : Calls Tryz.prog 25 #[] w fun e w' => ∃ p mb jb, e = .returned (.pointer (some ⟨p, 0, none⟩)) ∧ TM w w' p mb jb 0 [] := by
  have R := Lib.hid (new_tb w)
  have h1 := mk59
  have h2 := mk60
  go_enter Tryz.func25, Tryz.ntmps25
  go_wp2_with fail
  go_ret
  exact ⟨_, _, _, rfl, R.out, (((Grw.rfl' w).alloc _).alloc _).alloc _, by rintro k (rfl | rfl | rfl) <;> omega⟩
set_option maxHeartbeats 1000000 in
set_option maxRecDepth 100000 in
theorem of_is {w : World} {p mb jb last : Nat} {L : List Gr} (h : TB w p mb jb last L) (i : Int) (hi : Wi i) :
    Calls Tryz.prog 42 #[.pointer (some ⟨p, 0, none⟩), .int .i64 i] w fun e w' => e = .returned (.tuple #[.int .i64 (((byJ L i).getD g0).n), .bool (byJ L i).isSome]) ∧ w = w' := by
  obtain ⟨D, o2, q2⟩ := h.m2
  have c2 := h.c2
  have H := Lib.hid o2
  have K := Lib.hid (Maps.keyOf_int_mk Tryz.underlying3 (wi_wf hi))
  obtain ⟨r, hr⟩ : ∃ r, byJ L i = r := ⟨_, rfl⟩
  have Q : Hid (Maps.has D (ky i) = r.isSome ∧ D.atKey (ky i) (.lit (.int .i64 0)) = .lit (.int .i64 (r.getD g0).n)) := by
    refine (?_ : Maps.has D (ky i) = r.isSome ∧ D.atKey (ky i) (.lit (.int .i64 0)) = .lit (.int .i64 (r.getD g0).n))
    rcases r with _ | g
    · have := q2.no i (byJ_none hr)
      exact ⟨this.1, this.2 _⟩
    · obtain ⟨hg, hj⟩ := byJ_some hr
      have := q2.yes g hg
      rw [hj] at this
      exact ⟨this.1, this.2 _⟩
  rw [hr]
  clear h o2 q2 hi hr
  go_enter Tryz.func42, Tryz.ntmps42
  go_wp2_with (at_lookup; refine wpList_lookup_own_ok_int _ rfl _ _ 105 rfl 3 3 .i64 law3 Tryz.underlying105 Tryz.underlying3 (zero3 _) jb _ D rfl H.out _ _ rfl K.out ?_; intro v hat hwc)
  go_ret2
  have hv : v = (r.getD g0).n := (Lit.int.inj (DataW.lit.inj (hat.symm.trans Q.out.2))).2
  exact ⟨by rw [hv]; show _ = Ending.returned (.tuple #[_, .bool r.isSome]); rw [← Q.out.1]; rfl, rfl⟩
set_option maxHeartbeats 1000000 in
set_option maxRecDepth 100000 in
theorem of_nil (i : Int) (w : World) : Calls Tryz.prog 42 #[.pointer none, .int .i64 i] w fun e w' => e = .returned (.tuple #[.int .i64 0, .bool false]) ∧ w = w' := by
  go_enter Tryz.func42, Tryz.ntmps42
  go_wp2_with fail
  go_ret2
  exact ⟨rfl, rfl⟩
set_option maxHeartbeats 1000000 in
set_option maxRecDepth 100000 in
theorem len_is {w : World} {p mb jb last : Nat} {L : List Gr} (h : TB w p mb jb last L) :
    Calls Tryz.prog 112 #[.pointer (some ⟨p, 0, none⟩)] w fun e w' => e = .returned (.int .i64 (L.length : Nat)) ∧ w = w' := by
  obtain ⟨D, o1, q1⟩ := h.m1
  have c1 := h.c1
  have H := Lib.hid o1
  have Q := Lib.hid q1.size
  clear h o1 q1
  go_enter Tryz.func112, Tryz.ntmps112
  go_wp2_with (at_len; refine wpList_len_own _ rfl _ 104 rfl 3 91 Tryz.underlying104 _ mb _ D rfl H.out ?_)
  go_ret
  exact ⟨by rw [← Q.out]; rfl, rfl⟩
set_option maxHeartbeats 1000000 in
set_option maxRecDepth 100000 in
theorem len_nil (w : World) : Calls Tryz.prog 112 #[.pointer none] w fun e w' => e = .returned (.int .i64 0) ∧ w = w' := by
  go_enter Tryz.func112, Tryz.ntmps112
  go_wp2_with fail
  go_ret
  exact ⟨rfl, rfl⟩
set_option maxHeartbeats 1000000 in
set_option maxRecDepth 100000 in
theorem look_nil (i : Int) (w : World) : Calls Tryz.prog 56 #[.pointer none, .int .i64 i] w fun e w' => e = .returned (.tuple #[gv g0, .bool false]) ∧ Grw w w' := by
  go_enter Tryz.func56, Tryz.ntmps56
  go_wp2_with fail
  exact bodyPost_ret (v := .tuple #[.agg #[.int .i64 0, .int .i64 0, .int .u64 0], .bool false]) (by simp [results, Tryz.results56, go_sem]) rfl ⟨rfl, (Grw.rfl' w).alloc _⟩
set_option maxHeartbeats 1000000 in
set_option maxRecDepth 100000 in
theorem look_is {w : World} {p mb jb last : Nat} {L : List Gr} (h : TB w p mb jb last L) (i : Int) (hi : Wi i) :
    Calls Tryz.prog 56 #[.pointer (some ⟨p, 0, none⟩), .int .i64 i] w fun e w' => e = .returned (.tuple #[gv ((byN L i).getD g0), .bool (byN L i).isSome]) ∧ Grw w w' := by
  obtain ⟨D, o1, q1⟩ := h.m1
  have c1' := h.c1
  have c1 : ∀ o, (w.alloc o).cell? ⟨p, 1, none⟩ = some (.map (some mb)) := fun o => ((Grw.rfl' w).alloc o).cell c1'
  clear c1'
  have H := Lib.hid (o1.alloc (.cells #[.int .i64 0, .int .i64 0, .int .u64 0] 91))
  have K := Lib.hid (Maps.keyOf_int_mk Tryz.underlying3 (wi_wf hi))
  obtain ⟨r, hr⟩ : ∃ r, byN L i = r := ⟨_, rfl⟩
  have Q : Hid (Maps.has D (ky i) = r.isSome ∧ D.atKey (ky i) (gd g0) = gd (r.getD g0)) := by
    refine (?_ : Maps.has D (ky i) = r.isSome ∧ D.atKey (ky i) (gd g0) = gd (r.getD g0))
    rcases r with _ | g
    · have := q1.no i (byN_none hr)
      exact ⟨this.1, this.2 _⟩
    · obtain ⟨hg, hj⟩ := byN_some hr
      have := q1.yes g hg
      rw [hj] at this
      exact ⟨this.1, this.2 _⟩
  rw [hr]
  clear h o1 q1 hi hr
  go_enter Tryz.func56, Tryz.ntmps56
  go_wp2_with (at_lookup; refine wpList_lookup_own_ok _ rfl _ _ 104 rfl 3 91 law3 Tryz.underlying104 grE (zero39 _) (gd g0) [] (grE_mk g0) mb _ D rfl H.out _ _ rfl K.out ?_; intro v ps hv; obtain ⟨g, rfl, hz⟩ := grE_inv hv; have HZ := Lib.hid hz; clear hv hz; unfold gv)
  exact bodyPost_ret (v := .tuple #[.agg #[.int .i64 g.n, .int .i64 g.j, .int .u64 (g.u : Nat)], .bool (Maps.has D (ky i))]) (by simp [results, Tryz.results56, go_sem, ky]) rfl ⟨by rw [← (gd_inj ((congrArg Prod.fst HZ.out).symm.trans Q.out.2) : g = r.getD g0), ← Q.out.1]; rfl, by repeat (first | with_reducible exact Grw.rfl' _ | with_reducible refine Grw.alloc ?_ _ | with_reducible refine Grw.set ?_ (by simp [go_sem]) _)⟩
end LE
end Go.Proofs.YtlopijcpnfkcgaaGreat

/- The contracts of lease.remove, Drop and Grant at this program. -/
namespace Go.Proofs.YtlopijcpnfkcgaaGreat
namespace LE
open Go.RowKit
open Go.Maps (Keyed IsMap Tidy)
set_option linter.unusedSimpArgs false

theorem turned_frm {w x : World} {b : Nat} (h : w.mapTurned x b) : Frm (fun k => k = b) w x :=
  (grownBy_frm h.grown).mono (fun k e => by injection e with e; exact e.symm)
theorem TB.strike {w x y : World} {p mb jb last : Nat} {L : List Gr} (h : TB w p mb jb last L) {g : Gr} (hg : g ∈ L) {D E : DataW Unit}
    (q1 : MapOf Gr.n gd D L) (q2 : MapOf Gr.j nd E L) (o1 : x.ownsMap Tryz.prog 3 grE mb last (D.del (ky g.n))) (t1 : Frm (fun k => k = mb) w x)
    (o2 : y.ownsMap Tryz.prog 3 (plainElem Tryz.prog 3) jb last (E.del (ky g.j))) (t2 : Frm (fun k => k = jb) x y) : TB y p mb jb last (off [g] L) := by
  have f : Frm (fun k => k = mb ∨ k = jb) w y := (t1.mono (fun _ e => Or.inl e)).trans (t2.mono (fun _ e => Or.inr e)) (fun k e => Or.inl e)
  have np : ¬ (p = mb ∨ p = jb) := fun e => e.elim h.n1 h.n2
  exact ⟨f.cell h.c0 np, f.cell h.c1 np, f.cell h.c2 np, frz_frm f h.c0 np h.f0,
    ⟨_, ownsMap_frm o1 t2 h.n3, by rw [off_n h.ok hg]; exact q1.del h.ok.ns hg⟩, ⟨_, o2, by rw [off_j h.ok hg]; exact q2.del h.ok.jobs hg⟩, h.ok.sub (off_sub _ _), h.n1, h.n2, h.n3⟩
set_option maxHeartbeats 1000000 in
set_option maxRecDepth 100000 in
theorem remove_is {w : World} {p mb jb last : Nat} {L : List Gr} (h : TB w p mb jb last L) (g : Gr) (hg : g ∈ L) :
    Calls Tryz.prog 61 #[.pointer (some ⟨p, 0, none⟩), gv g] w fun e w' => e = .returned (.tuple #[]) ∧ TB w' p mb jb last (off [g] L) ∧ Frm (tf p mb jb) w w' := by
  obtain ⟨D, o1, q1⟩ := h.m1
  obtain ⟨E, o2, q2⟩ := h.m2
  have hn : Wi g.n := by have := h.ok.rng g hg; have := h.ok.top; unfold Wi; omega
  have k1 := Maps.keyOf_int_mk Tryz.underlying3 (wi_wf hn)
  have k2 := Maps.keyOf_int_mk Tryz.underlying3 (wi_wf (h.ok.wf g hg).1)
  obtain ⟨w1, hw1⟩ : ∃ w1, w.alloc (.cells #[.int .i64 g.n, .int .i64 g.j, .int .u64 (g.u : Nat)] 91) = w1 := ⟨_, rfl⟩
  have gr : Grw w w1 := by rw [← hw1]; exact (Grw.rfl' w).alloc _
  have b0 : w1.cell? ⟨w.heap.size, 0, none⟩ = some (.int .i64 g.n) := by rw [← hw1]; simp [go_sem]
  have b1 : w1.cell? ⟨w.heap.size, 1, none⟩ = some (.int .i64 g.j) := by rw [← hw1]; simp [go_sem]
  have H1 := h.later gr
  have o1' := (ownsMap_frm o1 (gr.frm (fun _ => False)) (fun e => e)).drew
  obtain ⟨w2, hrun1, o3, t1⟩ := o1'.drop law3 Tryz.underlying104 k1 0
  have f1 := turned_frm t1
  have fd : Frm (fun k => k = mb) w1 w2 := ((Frm.rfl' _ w1).drew).trans f1 (fun _ e => Or.inl e)
  have o2' := (ownsMap_frm (ownsMap_frm o2 (gr.frm (fun _ => False)) (fun e => e)) fd (fun e => h.n3 e.symm)).drew
  obtain ⟨w3, hrun2, o4, t2⟩ := o2'.drop law3 Tryz.underlying105 k2 0
  have f2 := turned_frm t2
  have fd2 : Frm (fun k => k = jb) w2 w3 := ((Frm.rfl' _ w2).drew).trans f2 (fun _ e => Or.inl e)
  have R := Lib.hid (H1.strike hg q1 q2 o3 fd o4 fd2)
  have lt := h.lt
  have hb : w.heap.size ≠ mb := by have := lt mb (Or.inr (Or.inl rfl)); omega
  have c1 := H1.c1
  have c2 := fd.cell H1.c2 h.n1
  have b1' := fd.cell b1 hb
  have FR : Hid (Frm (tf p mb jb) w w3) := ((gr.frm (tf p mb jb)).trans ((fd.mono (G := tf p mb jb) (fun k e => Or.inr (Or.inl e))).trans (fd2.mono (G := tf p mb jb) (fun k e => Or.inr (Or.inr e))) (fun k e => Or.inl e)) (fun k e => Or.inl e) : Frm (tf p mb jb) w w3)
  clear h o1 o2 q1 q2 hn k1 k2 gr H1 o1' o2' o3 o4 t1 t2 f1 f2 fd fd2 lt hb b1
  unfold gv
  go_enter Tryz.func61, Tryz.ntmps61
  go_wp2_with fail
  go_region
  go_wp2_with fail
  go_region
  go_wp2_with fail
  exact bodyPost_end (v := .tuple #[]) (by simp [results, Tryz.results61, go_sem]) rfl ⟨rfl, R.out, FR.out⟩
set_option maxHeartbeats 1000000 in
set_option maxRecDepth 100000 in
theorem drop_nil (i : Int) (w : World) : Calls Tryz.prog 43 #[.pointer none, .int .i64 i] w fun e w' => e = .returned (.tuple #[.int .i64 0, .bool false]) ∧ Grw w w' := by
  have C := Lib.hid (look_nil i w)
  unfold gv g0 at C
  go_enter Tryz.func43, Tryz.ntmps43
  go_wp2_with fail
  refine C.out.mono ?_
  rintro _ w1 ⟨rfl, g1⟩
  have G := Lib.hid g1
  clear g1
  go_wp2_with fail
  go_ret2
  exact ⟨rfl, G.out.alloc _⟩
set_option maxHeartbeats 1000000 in
set_option maxRecDepth 100000 in
theorem drop_no {w : World} {p mb jb last : Nat} {L : List Gr} (h : TB w p mb jb last L) (i : Int) (hi : Wi i) (hn : byN L i = none) :
    Calls Tryz.prog 43 #[.pointer (some ⟨p, 0, none⟩), .int .i64 i] w fun e w' => e = .returned (.tuple #[.int .i64 0, .bool false]) ∧ Grw w w' := by
  have C := Lib.hid (look_is h i hi)
  rw [hn] at C
  simp only [Option.getD_none, Option.isSome_none] at C
  unfold gv g0 at C
  clear h hi hn
  go_enter Tryz.func43, Tryz.ntmps43
  go_wp2_with fail
  refine C.out.mono ?_
  rintro _ w1 ⟨rfl, g1⟩
  have G := Lib.hid g1
  clear g1
  go_wp2_with fail
  go_ret2
  exact ⟨rfl, G.out.alloc _⟩
set_option maxHeartbeats 1000000 in
set_option maxRecDepth 100000 in
theorem drop_yes {w : World} {p mb jb last : Nat} {L : List Gr} (h : TB w p mb jb last L) (i : Int) (hi : Wi i) {g : Gr} (hn : byN L i = some g) :
    Calls Tryz.prog 43 #[.pointer (some ⟨p, 0, none⟩), .int .i64 i] w fun e w' => e = .returned (.tuple #[.int .i64 g.j, .bool true]) ∧ TB w' p mb jb last (off [g] L) ∧ Frm (tf p mb jb) w w' := by
  have C := Lib.hid (look_is h i hi)
  rw [hn] at C
  simp only [Option.getD_some, Option.isSome_some] at C
  have hg := (byN_some hn).1
  have H := Lib.hid h
  unfold gv at C
  have lt := h.lt
  obtain ⟨a, b, c⟩ := g
  have HG := Lib.hid hg
  simp only at C
  clear h hi hn hg
  go_enter Tryz.func43, Tryz.ntmps43
  go_wp2_with fail
  refine C.out.mono ?_
  rintro _ w1 ⟨rfl, g1⟩
  have G := Lib.hid g1
  obtain ⟨w2, hw2⟩ : ∃ w2, w1.alloc (.cells #[.int .i64 a, .int .i64 b, .int .u64 (c : Nat)] 91) = w2 := ⟨_, rfl⟩
  have b0 : w2.cell? ⟨w1.heap.size, 0, none⟩ = some (.int .i64 a) := by rw [← hw2]; simp [go_sem]
  have b1 : w2.cell? ⟨w1.heap.size, 1, none⟩ = some (.int .i64 b) := by rw [← hw2]; simp [go_sem]
  have b2 : w2.cell? ⟨w1.heap.size, 2, none⟩ = some (.int .u64 (c : Nat)) := by rw [← hw2]; simp [go_sem]
  have g2 : Grw w w2 := by rw [← hw2]; exact g1.alloc _
  have G2 := Lib.hid g2
  have R := Lib.hid (remove_is (H.out.later g2) ⟨a, b, c⟩ HG.out)
  unfold gv at R
  have ne : ¬ tf p mb jb w1.heap.size := fun e => by have := lt _ e; have := Below.size g1; omega
  have NE := Lib.hid ne
  clear g1 g2 lt ne
  go_wp2_with fail
  refine R.out.mono ?_
  rintro _ w3 ⟨rfl, t3, f3⟩
  have b1' := f3.cell b1 NE.out
  have T := Lib.hid t3
  have F3 := Lib.hid f3
  clear b0 b1 b2 t3 f3 hw2
  go_wp2_with fail
  go_ret2
  exact ⟨rfl, T.out, (G2.out.frm _).trans F3.out (fun _ e => Or.inl e)⟩
set_option maxHeartbeats 1000000 in
set_option maxRecDepth 100000 in
theorem grant_nil (j : Int) (u : Nat) (w : World) : Calls Tryz.prog 32 #[.pointer none, .int .i64 j, .int .u64 (u : Nat)] w fun e w' => e = .returned (.tuple #[.int .i64 0, .int .i64 1]) ∧ w = w' := by
  go_enter Tryz.func32, Tryz.ntmps32
  go_wp2_with fail
  go_ret2
  exact ⟨rfl, rfl⟩
set_option maxHeartbeats 1000000 in
set_option maxRecDepth 100000 in
theorem grant_twice {w : World} {p mb jb last : Nat} {L : List Gr} (h : TB w p mb jb last L) (j : Int) (u : Nat) (hj : Wi j) (hn : (byJ L j).isSome = true) :
    Calls Tryz.prog 32 #[.pointer (some ⟨p, 0, none⟩), .int .i64 j, .int .u64 (u : Nat)] w fun e w' => e = .returned (.tuple #[.int .i64 0, .int .i64 8]) ∧ w = w' := by
  obtain ⟨D, o2, q2⟩ := h.m2
  have c2 := h.c2
  have H := Lib.hid o2
  have K := Lib.hid (Maps.keyOf_int_mk Tryz.underlying3 (wi_wf hj))
  obtain ⟨g, hr⟩ := Option.isSome_iff_exists.1 hn
  obtain ⟨hg, hgj⟩ := byJ_some hr
  have Q := Lib.hid (q2.yes g hg).1
  rw [hgj] at Q
  clear h o2 q2 hj hr hn hg hgj
  go_enter Tryz.func32, Tryz.ntmps32
  go_wp2_with (at_lookup; refine wpList_lookup_own_ok_int _ rfl _ _ 105 rfl 3 3 .i64 law3 Tryz.underlying105 Tryz.underlying3 (zero3 _) jb _ D rfl H.out _ _ rfl K.out ?_; intro v hat hwc; rw [show Maps.has D (Lit.int .i64 j) = true from Q.out])
  go_ret2
  exact ⟨rfl, rfl⟩
theorem TB.add {w x y z : World} {p mb jb last : Nat} {L : List Gr} (h : TB w p mb jb last L) {m : Nat} (hm : last + 1 = m) {j : Int} {u : Nat} (hj : byJ L j = none) (wj : Wi j) (wu : u < 18446744073709551616) (ht : last < 1000000) {D E : DataW Unit}
    (q1 : MapOf Gr.n gd D L) (q2 : MapOf Gr.j nd E L) (hx : w.setCell ⟨p, 0, none⟩ (.int .i64 (m : Nat)) = x)
    (o1 : y.ownsMap Tryz.prog 3 grE mb (last + 1) (D.put (ky m) (gd ⟨m, j, u⟩))) (t1 : Frm (fun k => k = mb) x y)
    (o2 : z.ownsMap Tryz.prog 3 (plainElem Tryz.prog 3) jb (last + 1) (E.put (ky j) (nd ⟨m, j, u⟩))) (t2 : Frm (fun k => k = jb) y z) : TB z p mb jb m (L ++ [⟨m, j, u⟩]) := by
  subst hm
  have f : Frm (fun k => k = mb ∨ k = jb) x z := (t1.mono (fun _ e => Or.inl e)).trans (t2.mono (fun _ e => Or.inr e)) (fun k e => Or.inl e)
  have np : ¬ (p = mb ∨ p = jb) := fun e => e.elim h.n1 h.n2
  have x0 : x.cell? ⟨p, 0, none⟩ = some (.int .i64 ((last + 1 : Nat) : Int)) := by rw [← hx]; exact World.cell?_setCell_same (u := _) _ _ _ h.c0
  have x1 : x.cell? ⟨p, 1, none⟩ = some (.map (some mb)) := by rw [← hx]; exact (World.cell?_setCell_other w ⟨p, 0, none⟩ ⟨p, 1, none⟩ _ (fun e => by injection e with _ e; cases e)).trans h.c1
  have x2 : x.cell? ⟨p, 2, none⟩ = some (.map (some jb)) := by rw [← hx]; exact (World.cell?_setCell_other w ⟨p, 0, none⟩ ⟨p, 2, none⟩ _ (fun e => by injection e with _ e; cases e)).trans h.c2
  have xf : x.frozen? ⟨p, 0, none⟩ = false := by rw [← hx]; simp [h.f0]
  have k := h.ok.add j u (byJ_none hj) wj wu ht
  exact ⟨f.cell x0 np, f.cell x1 np, f.cell x2 np, frz_frm f x0 np xf,
    ⟨_, ownsMap_frm o1 t2 h.n3, MapOf.put (g := ⟨((last + 1 : Nat) : Int), j, u⟩) q1 (fun g hg => by have := (h.ok.rng g hg).2; show g.n ≠ ((last + 1 : Nat) : Int); omega)⟩, ⟨_, o2, MapOf.put (g := ⟨((last + 1 : Nat) : Int), j, u⟩) q2 (byJ_none hj)⟩, k, h.n1, h.n2, h.n3⟩
set_option maxHeartbeats 2000000 in
set_option maxRecDepth 100000 in
theorem grant_yes {w : World} {p mb jb last : Nat} {L : List Gr} (h : TB w p mb jb last L) (j : Int) (u m : Nat) (hm : last + 1 = m) (wj : Wi j) (wu : u < 18446744073709551616) (hj : byJ L j = none) (ht : last < 1000000) :
    Calls Tryz.prog 32 #[.pointer (some ⟨p, 0, none⟩), .int .i64 j, .int .u64 (u : Nat)] w fun e w' => e = .returned (.tuple #[.int .i64 (m : Nat), .int .i64 0]) ∧ TB w' p mb jb m (L ++ [⟨m, j, u⟩]) ∧ Frm (tf p mb jb) w w' := by
  obtain ⟨D, o1, q1⟩ := h.m1
  obtain ⟨E, o2, q2⟩ := h.m2
  have q3 : IntKind.i64.wrap ((last : Int) + 1) = (m : Int) := by rw [← hm]; simp [IntKind.wrap_i64]; omega
  have hn : Wi (m : Int) := by unfold Wi; omega
  have k1 := Maps.keyOf_int_mk Tryz.underlying3 (wi_wf hn)
  have k2 := Maps.keyOf_int_mk Tryz.underlying3 (wi_wf wj)
  obtain ⟨w1, hw1⟩ : ∃ w1, w.setCell ⟨p, 0, none⟩ (.int .i64 (m : Nat)) = w1 := ⟨_, rfl⟩
  have fs : Frm (fun k => k = p) w w1 := by rw [← hw1]; exact frm_set w ⟨p, 0, none⟩ _ rfl
  have o1' := (ownsMap_frm o1 fs (fun e => h.n1 e.symm)).drew
  obtain ⟨w2, hrun1, o3, t1⟩ := o1'.store law3 Tryz.underlying104 (by have : maxLen = 9223372036854775807 := rfl; omega) k1 (grE_mk ⟨m, j, u⟩)
  have f1 := turned_frm t1
  have fd : Frm (fun k => k = mb) w1 w2 := ((Frm.rfl' _ w1).drew).trans f1 (fun _ e => Or.inl e)
  have o2' := (ownsMap_frm (ownsMap_frm o2 fs (fun e => h.n2 e.symm)) fd (fun e => h.n3 e.symm)).drew
  obtain ⟨w3, hrun2, o4, t2⟩ := o2'.store law3 Tryz.underlying105 (by have : maxLen = 9223372036854775807 := rfl; omega) k2 (plainElem_int Tryz.underlying3 (wi_wf hn))
  have f2 := turned_frm t2
  have fd2 : Frm (fun k => k = jb) w2 w3 := ((Frm.rfl' _ w2).drew).trans f2 (fun _ e => Or.inl e)
  have T := h.add hm hj wj wu ht q1 q2 hw1 o3 fd o4 fd2
  have R := Lib.hid T
  have FR : Hid (Frm (tf p mb jb) w w3) := ((fs.mono (G := tf p mb jb) (fun k e => Or.inl e)).trans ((fd.mono (G := tf p mb jb) (fun k e => Or.inr (Or.inl e))).trans (fd2.mono (G := tf p mb jb) (fun k e => Or.inr (Or.inr e))) (fun k e => Or.inl e)) (fun k e => Or.inl e) : Frm (tf p mb jb) w w3)
  have H := Lib.hid o2
  have K := Lib.hid k2
  have Q := Lib.hid (q2.no j (byJ_none hj)).1
  have x0 : w1.cell? ⟨p, 0, none⟩ = some (.int .i64 (m : Nat)) := by rw [← hw1]; exact World.cell?_setCell_same (u := _) _ _ _ h.c0
  have x1 : w1.cell? ⟨p, 1, none⟩ = some (.map (some mb)) := by rw [← hw1]; exact (World.cell?_setCell_other w ⟨p, 0, none⟩ ⟨p, 1, none⟩ _ (fun e => by injection e with _ e; cases e)).trans h.c1
  have y0 := fd.cell x0 h.n1
  have y2 : w2.cell? ⟨p, 2, none⟩ = some (.map (some jb)) := fd.cell (by rw [← hw1]; exact (World.cell?_setCell_other w ⟨p, 0, none⟩ ⟨p, 2, none⟩ _ (fun e => by injection e with _ e; cases e)).trans h.c2) h.n1
  have z0 := T.c0
  have c0 := h.c0
  have c2 := h.c2
  have cf := h.f0
  clear h o1 o2 q1 q2 hn k1 k2 fs o1' o2' o3 o4 t1 t2 f1 f2 fd fd2 T hj wj wu ht hm
  unfold gv at hrun1
  simp only at hrun1
  go_enter Tryz.func32, Tryz.ntmps32
  go_wp2_with (at_lookup; refine wpList_lookup_own_ok_int _ rfl _ _ 105 rfl 3 3 .i64 law3 Tryz.underlying105 Tryz.underlying3 (zero3 _) jb _ E rfl H.out _ _ rfl K.out ?_; intro v hat hwc; rw [show Maps.has E (Lit.int .i64 j) = false from Q.out]; clear hat hwc)
  go_region
  go_wp2_with fail
  go_region
  go_wp2_with fail
  go_ret2
  exact ⟨rfl, R.out, FR.out⟩
end LE
end Go.Proofs.YtlopijcpnfkcgaaGreat
