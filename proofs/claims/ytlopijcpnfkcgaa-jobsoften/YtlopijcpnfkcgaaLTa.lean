/- The table in memory; the contracts of lease.New, Look, Of, Len and of a nil table at this program. -/
import Derived.Test.YtlopijcpnfkcgaaProg
import Derived.Test.YtlopijcpnfkcgaaFt
import Derived.Test.YtlopijcpnfkcgaaLLm
namespace Go.Proofs.Ytlopijcpnfkcgaa
namespace LE
open Go.RowKit
open Go.Maps (Keyed IsMap Tidy)
set_option linter.unusedSimpArgs false

theorem frz_frm {F : Nat → Prop} {w x : World} {a : Addr} {v : Value} (f : Frm F w x) (hc : w.cell? a = some v) (hn : ¬ F a.block) (h : w.frozen? a = false) : x.frozen? a = false := by
  have e := f.block a.block (World.block_lt_of_cell? w a hc) hn
  unfold World.frozen? at *
  rw [e]; exact h
theorem ownsMap_block {H : Type} {P : Program} {k : TypeId} {R : Value → Option (DataW H × List MemPlace)} {w x : World} {b n : Nat} {D : DataW H} (h : w.ownsMap P k R b n D) (e : x.heap[b]? = w.heap[b]?) : x.ownsMap P k R b n D := by
  obtain ⟨es, clock, hb, r⟩ := h
  exact ⟨es, clock, by rw [e]; exact hb, r⟩
theorem ownsMap_frm {H : Type} {P : Program} {k : TypeId} {R : Value → Option (DataW H × List MemPlace)} {F : Nat → Prop} {w x : World} {b n : Nat} {D : DataW H} (h : w.ownsMap P k R b n D) (f : Frm F w x) (hn : ¬ F b) : x.ownsMap P k R b n D :=
  ownsMap_block h (f.block b h.lt hn)
theorem law3 : Keyed Try.prog 3 := Maps.int_keyed Try.underlying3
theorem zero39 (w : World) : (zeroValue 79).run Try.prog w = .ok (.agg #[.int .i64 0, .int .i64 0, .int .u64 0]) w := by kernel_rfl
theorem zero3 (w : World) : (zeroValue 3).run Try.prog w = .ok (.int .i64 0) w := by kernel_rfl
def g0 : Gr := ⟨0, 0, 0⟩
def nd (g : Gr) : DataW Unit := .lit (.int .i64 g.n)

/-- the table at block p: its leases L in the order of their numbers; maps in blocks mb, jb. -/
structure TB (w : World) (p mb jb : Nat) (last : Nat) (L : List Gr) : Prop where
  c0 : w.cell? ⟨p, 0, none⟩ = some (.int .i64 (last : Nat))
  c1 : w.cell? ⟨p, 1, none⟩ = some (.map (some mb))
  c2 : w.cell? ⟨p, 2, none⟩ = some (.map (some jb))
  f0 : w.frozen? ⟨p, 0, none⟩ = false
  m1 : ∃ D, w.ownsMap Try.prog 3 grE mb last D ∧ MapOf Gr.n gd D L
  m2 : ∃ D, w.ownsMap Try.prog 3 (plainElem Try.prog 3) jb last D ∧ MapOf Gr.j nd D L
  ok : Ok last L
  n1 : p ≠ mb
  n2 : p ≠ jb
  n3 : mb ≠ jb
def tf (p mb jb : Nat) (k : Nat) : Prop := k = p ∨ k = mb ∨ k = jb
theorem TB.keep {w x : World} {p mb jb last : Nat} {L : List Gr} (h : TB w p mb jb last L) {F : Nat → Prop} (f : Frm F w x) (hn : ∀ k, tf p mb jb k → ¬ F k) : TB x p mb jb last L := by
  obtain ⟨D, o1, q1⟩ := h.m1
  obtain ⟨E, o2, q2⟩ := h.m2
  have np := hn p (Or.inl rfl)
  exact ⟨f.cell h.c0 np, f.cell h.c1 np, f.cell h.c2 np, frz_frm f h.c0 np h.f0, ⟨D, ownsMap_frm o1 f (hn mb (Or.inr (Or.inl rfl))), q1⟩, ⟨E, ownsMap_frm o2 f (hn jb (Or.inr (Or.inr rfl))), q2⟩, h.ok, h.n1, h.n2, h.n3⟩
theorem TB.later {w x : World} {p mb jb last : Nat} {L : List Gr} (h : TB w p mb jb last L) (g : Grw w x) : TB x p mb jb last L :=
  h.keep (g.frm (fun _ => False)) (fun _ _ e => e)
theorem TB.lt {w : World} {p mb jb last : Nat} {L : List Gr} (h : TB w p mb jb last L) : ∀ k, tf p mb jb k → k < w.heap.size := by
  obtain ⟨D, o1, q1⟩ := h.m1
  obtain ⟨E, o2, q2⟩ := h.m2
  rintro k (rfl | rfl | rfl)
  · exact World.block_lt_of_cell? _ _ h.c0
  · exact o1.lt
  · exact o2.lt
/-- the table is made since w0. -/
structure TM (w0 w : World) (p mb jb : Nat) (last : Nat) (L : List Gr) : Prop where
  t : TB w p mb jb last L
  g : Grw w0 w
  new : ∀ k, tf p mb jb k → w0.heap.size ≤ k
theorem TM.later {w0 w x : World} {p mb jb last : Nat} {L : List Gr} (h : TM w0 w p mb jb last L) (g : Grw w x) : TM w0 x p mb jb last L :=
  ⟨h.t.later g, h.g.trans g, h.new⟩
theorem TM.step {w0 w x : World} {p mb jb last last' : Nat} {L L' : List Gr} (h : TM w0 w p mb jb last L) (t : TB x p mb jb last' L') (f : Frm (tf p mb jb) w x) : TM w0 x p mb jb last' L' :=
  ⟨t, f.grw h.g h.new, h.new⟩
theorem mk59 (w : World) : (Instr.makeMap 87 none).run Try.prog w = .ok (.map (some w.heap.size)) (w.alloc (.map #[] 0)) := by
  simp [Instr.makeMap, run_underlying Try.underlying87]
theorem mk60 (w : World) : (Instr.makeMap 25 none).run Try.prog w = .ok (.map (some w.heap.size)) (w.alloc (.map #[] 0)) := by
  simp [Instr.makeMap, run_underlying Try.underlying25]
theorem new_tb (w : World) : TB (((w.alloc (.map #[] 0)).alloc (.map #[] 0)).alloc (.cells #[.int .i64 0, .map (some w.heap.size), .map (some (w.heap.size + 1))] 89)) (w.heap.size + 2) w.heap.size (w.heap.size + 1) 0 [] := by
  refine ⟨by simp [go_sem], by simp [go_sem], by simp [go_sem], by simp [go_sem], ⟨.map [], ?_, MapOf.nil⟩, ⟨.map [], ?_, MapOf.nil⟩, Ok.nil, by omega, by omega, by omega⟩
  · exact ((World.ownsMap_made (H := Unit) w Try.prog 3 grE).alloc _).alloc _
  · have := (World.ownsMap_made (H := Unit) (w.alloc (.map #[] 0)) Try.prog 3 (plainElem Try.prog 3)).alloc (.cells #[.int .i64 0, .map (some w.heap.size), .map (some (w.heap.size + 1))] 89)
    rw [size_new] at this
    exact this
set_option maxHeartbeats 1000000 in
set_option maxRecDepth 100000 in
theorem new_is (w : World) : Calls Try.prog 23 #[] w fun e w' => ∃ p mb jb, e = .returned (.pointer (some ⟨p, 0, none⟩)) ∧ TM w w' p mb jb 0 [] := by
  have R := Lib.hid (new_tb w)
  have h1 := mk59
  have h2 := mk60
  go_enter Try.func23, Try.ntmps23
  go_wp2_with fail
  go_ret
  exact ⟨_, _, _, rfl, R.out, (((Grw.rfl' w).alloc _).alloc _).alloc _, by rintro k (rfl | rfl | rfl) <;> omega⟩
set_option maxHeartbeats 1000000 in
set_option maxRecDepth 100000 in
theorem of_is {w : World} {p mb jb last : Nat} {L : List Gr} (h : TB w p mb jb last L) (i : Int) (hi : Wi i) :
    Calls Try.prog 30 #[.pointer (some ⟨p, 0, none⟩), .int .i64 i] w fun e w' => e = .returned (.tuple #[.int .i64 (((byJ L i).getD g0).n), .bool (byJ L i).isSome]) ∧ w = w' := by
  obtain ⟨D, o2, q2⟩ := h.m2
  have c2 := h.c2
  have H := Lib.hid o2
  have K := Lib.hid (Maps.keyOf_int_mk Try.underlying3 (wi_wf hi))
  obtain ⟨r, hr⟩ : ∃ r, byJ L i = r := ⟨_, rfl⟩
  have Q : Hid (Maps.has D (ky i) = r.isSome ∧ D.atKey (ky i) (.lit (.int .i64 0)) = .lit (.int .i64 (r.getD g0).n)) := by
    refine (?_ : Maps.has D (ky i) = r.isSome ∧ D.atKey (ky i) (.lit (.int .i64 0)) = .lit (.int .i64 (r.getD g0).n))
    rcases r with _ | g
    · have := q2.no i (byJ_none hr)
      exact ⟨this.1, this.2 _⟩
    · obtain ⟨hg, hj⟩ := byJ_some hr
      have := q2.yes g hg
      rw [hj] at this
      exact ⟨this.1, this.2 _⟩
  rw [hr]
  clear h o2 q2 hi hr
  go_enter Try.func30, Try.ntmps30
  go_wp2_with (at_lookup; refine wpList_lookup_own_ok_int _ rfl _ _ 25 rfl 3 3 .i64 law3 Try.underlying25 Try.underlying3 (zero3 _) jb _ D rfl H.out _ _ rfl K.out ?_; intro v hat hwc)
  go_ret2
  have hv : v = (r.getD g0).n := (Lit.int.inj (DataW.lit.inj (hat.symm.trans Q.out.2))).2
  exact ⟨by rw [hv]; show _ = Ending.returned (.tuple #[_, .bool r.isSome]); rw [← Q.out.1]; rfl, rfl⟩
set_option maxHeartbeats 1000000 in
set_option maxRecDepth 100000 in
theorem of_nil (i : Int) (w : World) : Calls Try.prog 30 #[.pointer none, .int .i64 i] w fun e w' => e = .returned (.tuple #[.int .i64 0, .bool false]) ∧ w = w' := by
  go_enter Try.func30, Try.ntmps30
  go_wp2_with fail
  go_ret2
  exact ⟨rfl, rfl⟩
set_option maxHeartbeats 1000000 in
set_option maxRecDepth 100000 in
theorem len_is {w : World} {p mb jb last : Nat} {L : List Gr} (h : TB w p mb jb last L) :
    Calls Try.prog 87 #[.pointer (some ⟨p, 0, none⟩)] w fun e w' => e = .returned (.int .i64 (L.length : Nat)) ∧ w = w' := by
  obtain ⟨D, o1, q1⟩ := h.m1
  have c1 := h.c1
  have H := Lib.hid o1
  have Q := Lib.hid q1.size
  clear h o1 q1
  go_enter Try.func87, Try.ntmps87
  go_wp2_with (at_len; refine wpList_len_own _ rfl _ 87 rfl 3 79 Try.underlying87 _ mb _ D rfl H.out ?_)
  go_ret
  exact ⟨by rw [← Q.out]; rfl, rfl⟩
set_option maxHeartbeats 1000000 in
set_option maxRecDepth 100000 in
theorem len_nil (w : World) : Calls Try.prog 87 #[.pointer none] w fun e w' => e = .returned (.int .i64 0) ∧ w = w' := by
  go_enter Try.func87, Try.ntmps87
  go_wp2_with fail
  go_ret
  exact ⟨rfl, rfl⟩
set_option maxHeartbeats 1000000 in
set_option maxRecDepth 100000 in
theorem look_nil (i : Int) (w : World) : Calls Try.prog 32 #[.pointer none, .int .i64 i] w fun e w' => e = .returned (.tuple #[gv g0, .bool false]) ∧ Grw w w' := by
  go_enter Try.func32, Try.ntmps32
  go_wp2_with fail
  exact bodyPost_ret (v := .tuple #[.agg #[.int .i64 0, .int .i64 0, .int .u64 0], .bool false]) (by simp [results, Try.results32, go_sem]) rfl ⟨rfl, (Grw.rfl' w).alloc _⟩
set_option maxHeartbeats 1000000 in
set_option maxRecDepth 100000 in
theorem look_is {w : World} {p mb jb last : Nat} {L : List Gr} (h : TB w p mb jb last L) (i : Int) (hi : Wi i) :
    Calls Try.prog 32 #[.pointer (some ⟨p, 0, none⟩), .int .i64 i] w fun e w' => e = .returned (.tuple #[gv ((byN L i).getD g0), .bool (byN L i).isSome]) ∧ Grw w w' := by
  obtain ⟨D, o1, q1⟩ := h.m1
  have c1' := h.c1
  have c1 : ∀ o, (w.alloc o).cell? ⟨p, 1, none⟩ = some (.map (some mb)) := fun o => ((Grw.rfl' w).alloc o).cell c1'
  clear c1'
  have H := Lib.hid (o1.alloc (.cells #[.int .i64 0, .int .i64 0, .int .u64 0] 79))
  have K := Lib.hid (Maps.keyOf_int_mk Try.underlying3 (wi_wf hi))
  obtain ⟨r, hr⟩ : ∃ r, byN L i = r := ⟨_, rfl⟩
  have Q : Hid (Maps.has D (ky i) = r.isSome ∧ D.atKey (ky i) (gd g0) = gd (r.getD g0)) := by
    refine (?_ : Maps.has D (ky i) = r.isSome ∧ D.atKey (ky i) (gd g0) = gd (r.getD g0))
    rcases r with _ | g
    · have := q1.no i (byN_none hr)
      exact ⟨this.1, this.2 _⟩
    · obtain ⟨hg, hj⟩ := byN_some hr
      have := q1.yes g hg
      rw [hj] at this
      exact ⟨this.1, this.2 _⟩
  rw [hr]
  clear h o1 q1 hi hr
  go_enter Try.func32, Try.ntmps32
  go_wp2_with (at_lookup; refine wpList_lookup_own_ok _ rfl _ _ 87 rfl 3 79 law3 Try.underlying87 grE (zero39 _) (gd g0) [] (grE_mk g0) mb _ D rfl H.out _ _ rfl K.out ?_; intro v ps hv; obtain ⟨g, rfl, hz⟩ := grE_inv hv; have HZ := Lib.hid hz; clear hv hz; unfold gv)
  exact bodyPost_ret (v := .tuple #[.agg #[.int .i64 g.n, .int .i64 g.j, .int .u64 (g.u : Nat)], .bool (Maps.has D (ky i))]) (by simp [results, Try.results32, go_sem, ky]) rfl ⟨by rw [← (gd_inj ((congrArg Prod.fst HZ.out).symm.trans Q.out.2) : g = r.getD g0), ← Q.out.1]; rfl, by repeat (first | with_reducible exact Grw.rfl' _ | with_reducible refine Grw.alloc ?_ _ | with_reducible refine Grw.set ?_ (by simp [go_sem]) _)⟩
end LE
end Go.Proofs.Ytlopijcpnfkcgaa
