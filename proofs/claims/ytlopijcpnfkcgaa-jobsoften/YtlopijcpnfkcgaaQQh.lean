/- The queue's Put and Drop. -/
import Derived.Test.YtlopijcpnfkcgaaQQg
namespace Go.Proofs.Ytlopijcpnfkcgaa
namespace QQ
open Go.RowKit
set_option linter.unusedSimpArgs false

set_option maxHeartbeats 1000000 in
set_option maxRecDepth 100000 in
theorem put_nil (id cl : Int) (w : World) :
    Calls Try.prog 24 #[.pointer none, .int .i64 id, .int .i64 cl] w fun e w' => e = .returned (.int .i64 1) ∧ w = w' := by
  go_enter Try.func24, Try.ntmps24
  go_wp2_with fail
  go_ret
  exact ⟨rfl, rfl⟩
set_option maxHeartbeats 1000000 in
set_option maxRecDepth 100000 in
theorem put_bad (p : Nat) (id cl : Int) (w : World) (h : ¬ (0 ≤ cl ∧ cl < 8)) :
    Calls Try.prog 24 #[.pointer (some ⟨p, 0, none⟩), .int .i64 id, .int .i64 cl] w fun e w' => e = .returned (.int .i64 1) ∧ w = w' := by
  by_cases h1 : cl < 0
  · have d1 : decide (cl < 0) = true := by simp [h1]
    go_enter Try.func24, Try.ntmps24
    go_wp2_with fail
    go_ret
    exact ⟨rfl, rfl⟩
  · have d1 : decide (cl < 0) = false := by simp; omega
    have d2 : decide (8 ≤ cl) = true := by simp; omega
    clear h
    go_enter Try.func24, Try.ntmps24
    go_wp2_with fail
    go_ret
    exact ⟨rfl, rfl⟩
theorem perm_gt {l L : List Wt} (h : l.Perm L) {k : Nat} (hk : k < l.length) : ∃ j, j < L.length ∧ gt L j = gt l k := by
  have : gt l k ∈ L := h.mem_iff.1 (by rw [gt_at hk]; exact List.getElem_mem _)
  obtain ⟨j, hj, e⟩ := List.mem_iff_getElem.1 this
  exact ⟨j, hj, by rw [gt_at hj]; exact e⟩
theorem At.perm {l L : List Wt} (h : l.Perm L) {id r : Int} (a : At l id r) : (0 ≤ r ∧ r < l.length ∧ ∃ j, j < L.length ∧ (gt L j).id = id ∧ gt L j = gt l r.toNat) ∨ (r = -1 ∧ ∀ j, j < L.length → (gt L j).id ≠ id) := by
  rcases a with ⟨k, hk, rfl, e⟩ | ⟨e, hn⟩
  · obtain ⟨j, hj, g⟩ := perm_gt h hk
    exact Or.inl ⟨by omega, by omega, j, hj, by rw [g]; exact e, by rw [g]; simp⟩
  · refine Or.inr ⟨e, fun j hj c => ?_⟩
    obtain ⟨k, hk, g⟩ := perm_gt h.symm hj
    exact hn k hk (by rw [g]; exact c)
theorem QU.nof {w : World} {p : Nat} {a room count : Int} {v : Value} {L : List Wt} (h : QU w p a room count v L) (q : GW w) : QU q.x p a room count v L := h.later q.h

set_option maxHeartbeats 1000000 in
set_option maxRecDepth 100000 in
theorem put_twice {p : Nat} {a room count : Int} {v : Value} {L : List Wt} {w : World} (h : QU w p a room count v L) (id cl : Int) (h1 : 0 ≤ cl) (h2 : cl < 8) (ht : ∃ j, j < L.length ∧ (gt L j).id = id) :
    Calls Try.prog 24 #[.pointer (some ⟨p, 0, none⟩), .int .i64 id, .int .i64 cl] w fun e w' => e = .returned (.int .i64 8) ∧ Grw w w' := by
  obtain ⟨l, hl, hp, _⟩ := h.line
  have C := Lib.hid (place_is p 2 a v l id w hl (by have := hp.length_eq; have := h.len; omega))
  have HP := Lib.hid hp
  have HT := Lib.hid ht
  have d1 : decide (cl < 0) = false := by simp; omega
  have d2 : decide (8 ≤ cl) = false := by simp; omega
  clear h hl hp ht h1 h2
  go_enter Try.func24, Try.ntmps24
  go_wp2_with fail
  refine C.out.mono ?_
  rintro _ w1 ⟨r, rfl, ha, hw⟩
  have G := Lib.hid hw
  have d3 : decide ((0 : Int) ≤ r) = true := by
    rcases ha.perm HP.out with ⟨c, _⟩ | ⟨_, c⟩
    · simp [c]
    · obtain ⟨j, hj, e⟩ := HT.out; exact absurd e (c j hj)
  clear ha hw
  go_wp2_with fail
  go_ret
  exact ⟨rfl, G.out⟩
set_option maxHeartbeats 1000000 in
set_option maxRecDepth 100000 in
theorem put_full {p : Nat} {a room count : Int} {v : Value} {L : List Wt} {w : World} (h : QU w p a room count v L) (id cl : Int) (h1 : 0 ≤ cl) (h2 : cl < 8) (ht : ∀ j, j < L.length → (gt L j).id ≠ id) (hf : room ≤ L.length) :
    Calls Try.prog 24 #[.pointer (some ⟨p, 0, none⟩), .int .i64 id, .int .i64 cl] w fun e w' => e = .returned (.int .i64 10) ∧ Grw w w' := by
  obtain ⟨l, hl, hp, _⟩ := h.line
  have C := Lib.hid (place_is p 2 a v l id w hl (by have := hp.length_eq; have := h.len; omega))
  have HP := Lib.hid hp
  have HT := Lib.hid ht
  have H := Lib.hid h
  have HL := Lib.hid hl
  obtain ⟨n, hn⟩ : ∃ n, L.length = n := ⟨_, rfl⟩
  have HN := Lib.hid (hp.length_eq.trans hn)
  have d1 : decide (cl < 0) = false := by simp; omega
  have d2 : decide (8 ≤ cl) = false := by simp; omega
  have d4 : decide (room ≤ (n : Int)) = true := by simp; omega
  clear h hl hp ht h1 h2 hn hf
  go_enter Try.func24, Try.ntmps24
  go_wp2_with fail
  refine C.out.mono ?_
  rintro _ w1 ⟨r, rfl, ha, hw⟩
  have G := Lib.hid hw
  have d3 : decide ((0 : Int) ≤ r) = false := by
    rcases ha.perm HP.out with ⟨_, _, j, hj, e, _⟩ | ⟨c, _⟩
    · exact absurd e (HT.out j hj)
    · subst c; rfl
  have CL := Lib.hid ((HL.out.keep (hw.frm (fun _ => False)) (fun e => e) (fun _ _ e => e)).len' HN.out)
  have m0 := gw_cell (hw.cell H.out.c0)
  clear ha hw
  go_wp2_with fail
  refine wp_region_grown (by kernel_rfl) (by kernel_rfl) ?_
  repeat (go_big_quiet_step (first | (go_at_call 37; with_reducible exact calls_grown_same (CL.out _))))
  refine wpQuiet_nil ?_
  rintro _ ⟨q, rfl⟩
  have G2 := Lib.hid (G.out.trans q.h)
  clear m0
  go_wp2_with fail
  go_ret
  exact ⟨rfl, G2.out⟩
set_option maxHeartbeats 1000000 in
set_option maxRecDepth 100000 in
theorem put_yes {p : Nat} {a room count : Int} {v : Value} {L : List Wt} {w : World} (h : QU w p a room count v L) (id cl : Int) (h1 : 0 ≤ cl) (h2 : cl < 8) (ht : ∀ j, j < L.length → (gt L j).id ≠ id) (hf : (L.length : Int) < room) (hb : L.length < 10000) :
    Calls Try.prog 24 #[.pointer (some ⟨p, 0, none⟩), .int .i64 id, .int .i64 cl] w fun e w' => e = .returned (.int .i64 0) ∧ ∃ v', QU w' p a room count v' (L ++ [⟨id, cl, count⟩]) ∧ Frm (qf p v) w w' ∧ Near w v v' := by
  obtain ⟨l, hl, hp, hh⟩ := h.line
  have hb' : l.length ≤ 100000 := by have := hp.length_eq; omega
  have C := Lib.hid (place_is p 2 a v l id w hl (by omega))
  have HP := Lib.hid hp
  have HT := Lib.hid ht
  have H := Lib.hid h
  have HL := Lib.hid hl
  have HH := Lib.hid hh
  have HB := Lib.hid (And.intro hb hb')
  obtain ⟨n, hn⟩ : ∃ n, L.length = n := ⟨_, rfl⟩
  have HN := Lib.hid (hp.length_eq.trans hn)
  have d1 : decide (cl < 0) = false := by simp; omega
  have d2 : decide (8 ≤ cl) = false := by simp; omega
  have d4 : decide (room ≤ (n : Int)) = false := by simp; omega
  clear h hl hp ht h1 h2 hn hf hh hb hb'
  go_enter Try.func24, Try.ntmps24
  go_wp2_with fail
  refine C.out.mono ?_
  rintro _ w1 ⟨r, rfl, ha, hw⟩
  have G := Lib.hid hw
  have d3 : decide ((0 : Int) ≤ r) = false := by
    rcases ha.perm HP.out with ⟨_, _, j, hj, e, _⟩ | ⟨c, _⟩
    · exact absurd e (HT.out j hj)
    · subst c; rfl
  have CL := Lib.hid ((HL.out.keep (hw.frm (fun _ => False)) (fun e => e) (fun _ _ e => e)).len' HN.out)
  have m0 := gw_cell (hw.cell H.out.c0)
  clear ha hw
  go_wp2_with fail
  refine wp_region_grown (by kernel_rfl) (by kernel_rfl) ?_
  repeat (go_big_quiet_step (first | (go_at_call 37; with_reducible exact calls_grown_same (CL.out _))))
  refine wpQuiet_nil ?_
  rintro _ ⟨q, rfl⟩
  have G2 := Lib.hid (G.out.trans q.h)
  obtain ⟨w2, hw2⟩ : ∃ w2, q.x = w2 := ⟨_, rfl⟩
  rw [hw2] at G2
  have Q2 := Lib.hid (H.out.later G2.out)
  have c1 := Q2.out.c1
  have PU := Lib.hid (fun u (g : Grw w2 u) => heap_push p 2 a v l ⟨id, cl, count⟩ u (HL.out.keep ((G2.out.trans g).frm (fun _ => False)) (fun e => e) (fun _ _ e => e)) HB.out.2 HH.out)
  clear m0 
  rw [hw2]
  clear hw2
  go_wp2_with fail
  go_region_held3 (fun u => u.cell? ⟨p, 1, none⟩ = some (.int .i64 count)) (assumption) (first | (go_at_call 38; refine (PU.out _ ((Grw.rfl' _).drew)).mono ?_; rintro _ w3 ⟨rfl, v', l', hr⟩; have cc : w3.cell? ⟨p, 1, none⟩ = some (.int .i64 count) := (hr.2.2.2.2.2 1 (by decide)).1.trans c1; have HR := Lib.hid hr; clear hr))
  have CC := Lib.hid cc
  clear cc c1
  go_wp2_with fail
  go_ret
  obtain ⟨hv, hf, hn, hpm, hhp, hrs⟩ := HR.out
  have f2 : Frm (qf p v) w w3 := (G2.out.frm (qf p v)).trans (a := w) ((Frm.rfl' (qf p v) w2).drew.trans hf (fun k e => Or.inl (by rcases e with e | e; exact Or.inl e; exact Or.inr e))) (fun k e => Or.inl e)
  refine ⟨rfl, v', ⟨?_, CC.out, ?_, ⟨l', hv, hpm.trans (HP.out.append_right _), hhp⟩, ?_, ?_⟩, f2, ?_⟩
  · exact (hrs 0 (by decide)).1.trans Q2.out.c0
  · exact (hrs 1 (by decide)).2.trans Q2.out.f1
  · rw [List.map_append, List.map_cons, List.map_nil]
    refine List.nodup_append.2 ⟨H.out.ids, by simp, ?_⟩
    intro x hx y hy e
    obtain rfl : y = id := by simpa using hy
    obtain ⟨z, hz, e2⟩ := List.mem_map.1 hx
    obtain ⟨j, hj, e3⟩ := List.mem_iff_getElem.1 hz
    exact HT.out j hj (by rw [gt_at hj, e3, e2, e])
  · rw [List.length_append]; have := HB.out.1; simp; omega
  · rcases hn with hn | ⟨k, hk, hw⟩
    · exact Or.inl hn
    · exact Or.inr ⟨k, hk, Nat.le_trans (Below.size G2.out) hw⟩
end QQ
end Go.Proofs.Ytlopijcpnfkcgaa
