/- The queue's Take and Drop. -/
import Derived.Test.YtlopijcpnfkcgaaQQh
namespace Go.Proofs.Ytlopijcpnfkcgaa
namespace QQ
open Go.RowKit
set_option linter.unusedSimpArgs false

def rem (L : List Wt) (k : Nat) : List Wt := L.take k ++ L.drop (k + 1)
theorem rem_perm {L : List Wt} {k : Nat} (hk : k < L.length) : L.Perm (rem L k ++ [gt L k]) := by
  have : L = L.take k ++ gt L k :: L.drop (k + 1) := by rw [gt_at hk, ← List.drop_eq_getElem_cons hk, List.take_append_drop]
  conv => lhs; rw [this]
  unfold rem
  rw [List.append_assoc]
  exact List.Perm.append_left _ (List.perm_append_comm (l₁ := [gt L k]) (l₂ := L.drop (k + 1)))
theorem rem_len {L : List Wt} {k : Nat} (hk : k < L.length) : (rem L k).length + 1 = L.length := by
  have := (rem_perm hk).length_eq
  rw [List.length_append, List.length_singleton] at this
  exact this.symm
theorem ids_inj {L : List Wt} (h : (L.map Wt.id).Nodup) {j k : Nat} (hj : j < L.length) (hk : k < L.length) (e : (gt L j).id = (gt L k).id) : j = k := by
  have P := List.pairwise_iff_getElem.1 h
  rw [gt_at hj, gt_at hk] at e
  rcases Nat.lt_trichotomy j k with c | c | c
  · exact absurd (by rw [List.getElem_map, List.getElem_map]; exact e) (P j k (by simpa using hj) (by simpa using hk) c)
  · exact c
  · exact absurd (by rw [List.getElem_map, List.getElem_map]; exact e.symm) (P k j (by simpa using hk) (by simpa using hj) c)
theorem ids_rem {L : List Wt} (h : (L.map Wt.id).Nodup) (k : Nat) (hk : k < L.length) : ((rem L k).map Wt.id).Nodup := by
  have := (rem_perm hk).map Wt.id
  rw [List.map_append] at this
  exact (List.nodup_append.1 (this.nodup_iff.1 h)).1
theorem gt_mem {L : List Wt} {k : Nat} (hk : k < L.length) : gt L k ∈ L := by rw [gt_at hk]; exact List.getElem_mem _
theorem least_is {a : Int} {L : List Wt} {k : Nat} {x : Wt} (hN : (L.map Wt.id).Nodup) (hf : Fst a L k) (hx : x ∈ L) (hm : ∀ y ∈ L, les a y x = false) : x = gt L k := by
  obtain ⟨j, hj, e⟩ := List.mem_iff_getElem.1 hx
  have hk := hf.lt
  have e' : gt L j = x := by rw [gt_at hj]; exact e
  by_cases c : j = k
  · rw [← c, e']
  · exfalso
    have h1 := hf.no j hj
    rw [← gt_at hj, ← gt_at hk] at h1
    have h2 := hm (gt L k) (gt_mem hk)
    rw [← e'] at h2
    have h3 := les_tot h1 (fun e => c (ids_inj hN hj hk e))
    rw [h2] at h3
    cases h3
/-- another count in the queue. -/
theorem QU.bump {w : World} {p : Nat} {a room count : Int} {v : Value} {L : List Wt} (h : QU w p a room count v L) (c : Int) : QU (w.setCell ⟨p, 1, none⟩ (.int .i64 c)) p a room c v L ∧ Frm (qf p v) w (w.setCell ⟨p, 1, none⟩ (.int .i64 c)) := by
  have r := Rest.set p 1 w (.int .i64 c)
  have f : Frm (fun k => k = p) w (w.setCell ⟨p, 1, none⟩ (.int .i64 c)) := frm_set w ⟨p, 1, none⟩ _ rfl
  obtain ⟨l, hl, hp, hh⟩ := h.line
  refine ⟨⟨(r 0 (by decide)).1.trans h.c0, World.cell?_setCell_same (u := _) _ _ _ h.c1, by simp [h.f1], ⟨l, ⟨(r 2 (by decide)).1.trans hl.c0, (r 3 (by decide)).1.trans hl.c1, by simp [hl.f1], ownsRow_frm hl.row f (fun k hk e => hl.ne (by rw [hk, e])), hl.ne⟩, hp, hh⟩, h.ids, h.len⟩, f.mono (fun k e => Or.inl e)⟩
set_option maxHeartbeats 1000000 in
set_option maxRecDepth 100000 in
theorem take_none {p : Nat} {a room count : Int} {v : Value} {w : World} (h : QU w p a room count v []) :
    Calls Try.prog 25 #[.pointer (some ⟨p, 0, none⟩)] w fun e w' => e = .returned (.tuple #[wv ⟨0, 0, 0⟩, .int .i64 12]) ∧ Grw w w' := by
  obtain ⟨l, hl, hp, _⟩ := h.line
  have G := Lib.hid ((Grw.rfl' w).alloc (.cells #[.int .i64 0, .int .i64 0, .int .i64 0] 69))
  have C := Lib.hid ((hl.keep (G.out.frm (fun _ => False)) (fun e => e) (fun _ _ e => e)).len (n := 0) (by rw [hp.length_eq]; rfl))
  have e0 : ∀ u, ((w.alloc (.cells #[.int .i64 0, .int .i64 0, .int .i64 0] 69)).setCell ⟨w.heap.size, 0, none⟩ u).cell? ⟨w.heap.size, 0, none⟩ = some u := fun u => by simp [go_sem]
  clear h hl hp
  go_enter Try.func25, Try.ntmps25
  go_wp2_with fail
  refine C.out.mono ?_
  rintro _ w1 ⟨rfl, rfl⟩
  go_wp2_with fail
  exact bodyPost_ret (v := .tuple #[wv ⟨0, 0, 0⟩, .int .i64 12]) (by simp [results, Try.results25, go_sem, wv]) rfl ⟨rfl, G.out⟩
set_option maxHeartbeats 1000000 in
set_option maxRecDepth 100000 in
theorem take_nil (w : World) :
    Calls Try.prog 25 #[.pointer none] w fun e w' => e = .returned (.tuple #[wv ⟨0, 0, 0⟩, .int .i64 1]) ∧ Grw w w' := by
  have G := Lib.hid ((Grw.rfl' w).alloc (.cells #[.int .i64 0, .int .i64 0, .int .i64 0] 69))
  go_enter Try.func25, Try.ntmps25
  go_wp2_with fail
  exact bodyPost_ret (v := .tuple #[wv ⟨0, 0, 0⟩, .int .i64 1]) (by simp [results, Try.results25, go_sem, wv]) rfl ⟨rfl, G.out⟩
set_option maxHeartbeats 1000000 in
set_option maxRecDepth 100000 in
theorem take_some {p : Nat} {a room count : Int} {v : Value} {L : List Wt} {w : World} (h : QU w p a room count v L) {k : Nat} (hf : Fst a L k) (h0 : 0 ≤ count) (h1 : count ≤ 4611686018427387904) :
    Calls Try.prog 25 #[.pointer (some ⟨p, 0, none⟩)] w fun e w' => e = .returned (.tuple #[wv (gt L k), .int .i64 0]) ∧ ∃ v', QU w' p a room (count + 1) v' (rem L k) ∧ Frm (qf p v) w w' ∧ v'.ownBlock = v.ownBlock := by
  obtain ⟨n, hn⟩ : ∃ n, L.length = n + 1 := ⟨L.length - 1, by have := hf.lt; omega⟩
  have hps := World.block_lt_of_cell? _ _ h.c1
  simp only at hps
  have g0 : ∀ u, Grw w (w.alloc u) := fun u => (Grw.rfl' w).alloc u
  have Q0 := h.later (g0 (.cells #[.int .i64 0, .int .i64 0, .int .i64 0] 69))
  obtain ⟨Q1, f1⟩ := Q0.bump (count + 1)
  have c1 : ∀ u, (w.alloc u).cell? ⟨p, 1, none⟩ = some (.int .i64 count) := fun u => (g0 u).cell h.c1
  have z1 : ∀ u, (w.alloc u).frozen? ⟨p, 1, none⟩ = false := fun u => frz_frm ((g0 u).frm (fun _ => False)) h.c1 (fun e => e) h.f1
  obtain ⟨l, hl, hp, hh⟩ := Q1.line
  obtain ⟨l0, hl0, hp0, _⟩ := h.line
  have q1 : IntKind.i64.wrap (count + 1) = count + 1 := by simp [IntKind.wrap_i64]; omega
  have CL := Lib.hid ((hl0.keep ((g0 (.cells #[.int .i64 0, .int .i64 0, .int .i64 0] 69)).frm (fun _ => False)) (fun e => e) (fun _ _ e => e)).len (n := n + 1) (hp0.length_eq.trans hn))
  obtain ⟨m, hm⟩ : ∃ m, n + 1 = m := ⟨_, rfl⟩
  have e0 : ((m : Int) == 0) = false := by simp; omega
  rw [hm] at CL
  have PO := Lib.hid (heap_pop p 2 a v l n _ hl (hp.length_eq.trans hn) (by have := h.len; omega) (by rw [← hn, ← hp.length_eq]; exact hh))
  have R := Lib.hid (And.intro hp (And.intro hn hf))
  have F1 := Lib.hid ((g0 (.cells #[.int .i64 0, .int .i64 0, .int .i64 0] 69)).frm (qf p v) |>.trans f1 (fun k e => Or.inl e))
  have QQ := Lib.hid Q1
  have B0 : Hid (Bx ((w.alloc (.cells #[.int .i64 0, .int .i64 0, .int .i64 0] 69)).setCell ⟨p, 1, none⟩ (.int .i64 (count + 1))) w.heap.size (.int .i64 0) (.int .i64 0) (.int .i64 0) ∧ ∀ k, ((w.alloc (.cells #[.int .i64 0, .int .i64 0, .int .i64 0] 69)).setCell ⟨p, 1, none⟩ (.int .i64 (count + 1))).frozen? ⟨w.heap.size, k, none⟩ = false) :=
    (⟨⟨by simp [go_sem], by simp [go_sem], by simp [go_sem]⟩, fun k => by simp [go_sem]⟩ : Bx ((w.alloc (.cells #[.int .i64 0, .int .i64 0, .int .i64 0] 69)).setCell ⟨p, 1, none⟩ (.int .i64 (count + 1))) w.heap.size (.int .i64 0) (.int .i64 0) (.int .i64 0) ∧ ∀ k, ((w.alloc (.cells #[.int .i64 0, .int .i64 0, .int .i64 0] 69)).setCell ⟨p, 1, none⟩ (.int .i64 (count + 1))).frozen? ⟨w.heap.size, k, none⟩ = false)
  have OB : Hid (∀ k, v.ownBlock = some k → k < w.heap.size) := (fun k hk => (hl0.row.lt k hk).2 : ∀ k, v.ownBlock = some k → k < w.heap.size)
  have PS := Lib.hid hps
  clear h hl hp hh hl0 hp0 hn hm Q0 Q1 f1 hf hps g0
  go_enter Try.func25, Try.ntmps25
  go_wp2_with fail
  refine CL.out.mono ?_
  rintro _ w1 ⟨rfl, rfl⟩
  go_wp2_with fail
  refine PO.out.mono ?_
  rintro _ w3 ⟨x, rfl, v', l', hr⟩
  have HR := Lib.hid hr
  have nF : ¬ (w.heap.size = p ∨ v.ownBlock = some w.heap.size) := by
    rintro (e | e)
    · have := PS.out; omega
    · have := OB.out _ e; omega
  have x0 := hr.2.1.cell B0.out.1.c0 nF
  have x1 := hr.2.1.cell B0.out.1.c1 nF
  have x2 := hr.2.1.cell B0.out.1.c2 nF
  have y0 := frz_frm hr.2.1 B0.out.1.c0 nF (B0.out.2 0)
  have y1 := frz_frm hr.2.1 B0.out.1.c1 nF (B0.out.2 1)
  have y2 := frz_frm hr.2.1 B0.out.1.c2 nF (B0.out.2 2)
  clear hr nF
  obtain ⟨xi, xc, xm⟩ := x
  have as37 := assert37 (.agg #[.int .i64 xi, .int .i64 xc, .int .i64 xm])
  simp only [wv]
  go_wp2_with fail
  obtain ⟨hlv, hfr, hob, hpm, hhp, hln, hmin, hrs⟩ := HR.out
  obtain ⟨hp, hn, hf⟩ := R.out
  have hxe : (⟨xi, xc, xm⟩ : Wt) = gt L k := by
    refine least_is QQ.out.ids hf (hp.mem_iff.1 (hpm.mem_iff.1 (by simp))) (fun y hy => hmin y (hp.mem_iff.2 hy))
  have hpl : l'.Perm (rem L k) := by
    have := (hpm.trans hp).trans (rem_perm hf.lt)
    rw [hxe] at this
    exact (List.perm_append_right_iff _).1 this
  have Q3 : QU w3 p a room (count + 1) v' (rem L k) :=
    ⟨(hrs 0 (by decide)).1.trans QQ.out.c0, (hrs 1 (by decide)).1.trans QQ.out.c1, (hrs 1 (by decide)).2.trans QQ.out.f1, ⟨l', hlv, hpl, by rw [hln]; exact hhp⟩, ids_rem QQ.out.ids k hf.lt, by have := QQ.out.len; have := rem_len hf.lt; omega⟩
  have fS : ∀ u0 u1 u2, Frm (fun k => k = w.heap.size) w3 (((w3.setCell ⟨w.heap.size, 0, none⟩ u0).setCell ⟨w.heap.size, 1, none⟩ u1).setCell ⟨w.heap.size, 2, none⟩ u2) := fun u0 u1 u2 =>
    (((Frm.rfl' (fun k => k = w.heap.size) w3).set _ _ (Or.inl rfl)).set _ _ (Or.inl rfl)).set _ _ (Or.inl rfl)
  have hq : ∀ k, qf p v' k → ¬ k = w.heap.size := by
    rintro k (e | e) c
    · have := PS.out; omega
    · rw [hob] at e; have := OB.out _ e; omega
  refine bodyPost_ret (v := .tuple #[wv (gt L k), .int .i64 0]) (by rw [← hxe]; simp [results, Try.results25, go_sem, wv, x0, x1, x2]) rfl ⟨rfl, v', Q3.keep (fS _ _ _) hq, ?_, hob⟩
  exact (F1.out.trans (hfr.mono (G := qf p v) (fun k e => e)) (fun k e => Or.inl e)).trans (fS _ _ _) (fun k e => Or.inr (by omega))
set_option maxHeartbeats 1000000 in
set_option maxRecDepth 100000 in
theorem drop_nil (id : Int) (w : World) :
    Calls Try.prog 29 #[.pointer none, .int .i64 id] w fun e w' => e = .returned (.bool false) ∧ w = w' := by
  go_enter Try.func29, Try.ntmps29
  go_wp2_with fail
  go_ret
  exact ⟨rfl, rfl⟩
set_option maxHeartbeats 1000000 in
set_option maxRecDepth 100000 in
theorem drop_no {p : Nat} {a room count : Int} {v : Value} {L : List Wt} {w : World} (h : QU w p a room count v L) (id : Int) (ht : ∀ j, j < L.length → (gt L j).id ≠ id) :
    Calls Try.prog 29 #[.pointer (some ⟨p, 0, none⟩), .int .i64 id] w fun e w' => e = .returned (.bool false) ∧ Grw w w' := by
  obtain ⟨l, hl, hp, _⟩ := h.line
  have C := Lib.hid (place_is p 2 a v l id w hl (by have := hp.length_eq; have := h.len; omega))
  have HP := Lib.hid hp
  have HT := Lib.hid ht
  clear h hl hp ht
  go_enter Try.func29, Try.ntmps29
  go_wp2_with fail
  refine C.out.mono ?_
  rintro _ w1 ⟨r, rfl, ha, hw⟩
  have G := Lib.hid hw
  have d3 : decide (r < 0) = true := by
    rcases ha.perm HP.out with ⟨_, _, j, hj, e, _⟩ | ⟨c, _⟩
    · exact absurd e (HT.out j hj)
    · subst c; rfl
  clear ha hw
  go_wp2_with fail
  go_ret
  exact ⟨rfl, G.out⟩
set_option maxHeartbeats 1000000 in
set_option maxRecDepth 100000 in
theorem drop_yes {p : Nat} {a room count : Int} {v : Value} {L : List Wt} {w : World} (h : QU w p a room count v L) (id : Int) {j : Nat} (hj : j < L.length) (he : (gt L j).id = id) :
    Calls Try.prog 29 #[.pointer (some ⟨p, 0, none⟩), .int .i64 id] w fun e w' => e = .returned (.bool true) ∧ ∃ v', QU w' p a room count v' (rem L j) ∧ Frm (qf p v) w w' ∧ v'.ownBlock = v.ownBlock := by
  obtain ⟨l, hl, hp, hh⟩ := h.line
  obtain ⟨n, hn⟩ : ∃ n, L.length = n + 1 := ⟨L.length - 1, by omega⟩
  have C := Lib.hid (place_is p 2 a v l id w hl (by have := hp.length_eq; have := h.len; omega))
  have R := Lib.hid (And.intro hp (And.intro hn (And.intro hj he)))
  have H := Lib.hid h
  have RM := Lib.hid (fun i w1 (g : Grw w w1) hi => heap_remove p 2 a v l n i w1 (hl.keep (g.frm (fun _ => False)) (fun e => e) (fun _ _ e => e)) (hp.length_eq.trans hn) hi (by have := h.len; omega) (by rw [← hn, ← hp.length_eq]; exact hh))
  clear h hl hp hh hn hj he
  go_enter Try.func29, Try.ntmps29
  go_wp2_with fail
  refine C.out.mono ?_
  rintro _ w1 ⟨r, rfl, ha, hw⟩
  have G := Lib.hid hw
  obtain ⟨i, hi, hl', hg⟩ : ∃ i : Nat, r = i ∧ i < l.length ∧ gt L j = gt l i := by
    obtain ⟨hp, hn, hj, he⟩ := R.out
    rcases ha.perm hp with ⟨h0, h1, k, hk, e, e2⟩ | ⟨_, c⟩
    · obtain rfl := ids_inj H.out.ids hj hk (by rw [he, e])
      exact ⟨r.toNat, by omega, by omega, e2⟩
    · exact absurd he (c j hj)
  subst hi
  have d3 : decide ((i : Int) < 0) = false := by simp
  have HG := Lib.hid (And.intro hl' hg)
  have P1 := Lib.hid (RM.out i w1 hw (by have := R.out.1.length_eq; have := R.out.2.1; omega))
  clear ha hw hl' hg
  go_wp2_with fail
  refine P1.out.mono ?_
  rintro _ w2 ⟨u, rfl, v', l', hr⟩
  have HR := Lib.hid hr
  clear hr
  go_wp2_with fail
  go_ret
  obtain ⟨hlv, hfr, hob, hpm, hhp, hln, hrs⟩ := HR.out
  obtain ⟨hp, hn, hj, he⟩ := R.out
  have hpl : l'.Perm (rem L j) := by
    have := (hpm.trans hp).trans (rem_perm hj)
    rw [HG.out.2] at this
    exact (List.perm_append_right_iff _).1 this
  have Q1 := H.out.later G.out
  refine ⟨rfl, v', ⟨(hrs 0 (by decide)).1.trans Q1.c0, (hrs 1 (by decide)).1.trans Q1.c1, (hrs 1 (by decide)).2.trans Q1.f1, ⟨l', hlv, hpl, by rw [hln]; exact hhp⟩, ids_rem Q1.ids j hj, by have := Q1.len; have := rem_len hj; omega⟩, ?_, hob⟩
  exact (G.out.frm (qf p v)).trans (hfr.mono (G := qf p v) (fun k e => e)) (fun k e => Or.inl e)
end QQ
end Go.Proofs.Ytlopijcpnfkcgaa
