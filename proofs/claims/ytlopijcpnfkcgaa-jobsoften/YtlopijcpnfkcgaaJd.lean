/- The contracts of jobs.Add and Fetch at this program. -/
import Derived.Test.YtlopijcpnfkcgaaJc
namespace Go.Proofs.Ytlopijcpnfkcgaa
open Go.RowKit
open Go.Maps (Keyed IsMap Tidy)
set_option linter.unusedSimpArgs false
variable {w x : World} {B : BB} {a room n count : Int} {v : Value} {last sz : Nat} {L : List QQ.Wt} {G : List LE.Gr} {J : List Jb}
theorem OM.len {ob : Nat} (h : OM w ob sz J) {m : Nat} (hm : J.length = m) (ty : TypeId) : (Builtin.len_ #[62] ty #[.map (some ob)]).run Try.prog w = .ok (.int .i64 m) w := by
  obtain ⟨D, k, hk, o, mj⟩ := h
  rw [o.len Try.underlying62 ty, mj.size, hm]
set_option maxHeartbeats 1000000 in
set_option maxRecDepth 100000 in
theorem add_nil (i cl : Int) (w : World) : Calls Try.prog 9 #[.pointer none, .int .i64 i, .int .i64 cl] w fun e w' => e = .returned (.int .i64 1) ∧ w = w' := by
  go_enter Try.func9, Try.ntmps9
  go_wp2_with fail
  go_ret
  exact ⟨rfl, rfl⟩
set_option maxHeartbeats 1000000 in
set_option maxRecDepth 100000 in
theorem add_bad (p : Nat) (i cl : Int) (w : World) (h : ¬ (0 ≤ cl ∧ cl < 8)) : Calls Try.prog 9 #[.pointer (some ⟨p, 0, none⟩), .int .i64 i, .int .i64 cl] w fun e w' => e = .returned (.int .i64 1) ∧ w = w' := by
  by_cases h1 : cl < 0
  · have d1 : decide (cl < 0) = true := by simp [h1]
    go_enter Try.func9, Try.ntmps9
    go_wp2_with fail
    go_ret
    exact ⟨rfl, rfl⟩
  · have d1 : decide (cl < 0) = false := by simp; omega
    have d2 : decide (8 ≤ cl) = true := by simp; omega
    clear h
    go_enter Try.func9, Try.ntmps9
    go_wp2_with fail
    go_ret
    exact ⟨rfl, rfl⟩
set_option maxHeartbeats 1000000 in
set_option maxRecDepth 100000 in
theorem add_twice (h : BK w B a room n count v last sz L G J) {i cl : Int} (hi : LE.Wi i) (h0 : 0 ≤ cl) (h8 : cl < 8) (hf : (fnd J i).isSome = true) :
    Calls Try.prog 9 #[.pointer (some ⟨B.p, 0, none⟩), .int .i64 i, .int .i64 cl] w fun e w' => e = .returned (.int .i64 8) ∧ Grw w w' := by
  have c2 := h.c2
  obtain ⟨y, hy⟩ : ∃ y, (fnd J i).getD j0 = y := ⟨_, rfl⟩
  have lk := h.op.look hi hy hf
  obtain ⟨yi, yc, ys, yu⟩ := y
  simp only at lk
  have d1 : decide (cl < 0) = false := by simp; omega
  have d2 : decide (8 ≤ cl) = false := by simp; omega
  clear h hi hf hy h0 h8
  go_enter Try.func9, Try.ntmps9
  go_wp2_with fail
  go_ret
  exact ⟨rfl, (Grw.rfl' w).alloc _⟩
set_option maxHeartbeats 1000000 in
set_option maxRecDepth 100000 in
theorem add_full (h : BK w B a room n count v last sz L G J) {i cl : Int} (hi : LE.Wi i) (h0 : 0 ≤ cl) (h8 : cl < 8) (hf : fnd J i = none) (hr : room ≤ J.length) :
    Calls Try.prog 9 #[.pointer (some ⟨B.p, 0, none⟩), .int .i64 i, .int .i64 cl] w fun e w' => e = .returned (.int .i64 10) ∧ Grw w w' := by
  have c2 := h.c2
  have lk := h.op.look hi (y := j0) (by rw [hf]; rfl) (b := false) (by rw [hf]; rfl)
  unfold j0 at lk
  simp only at lk
  have ga : ∀ o, Grw w (w.alloc o) := fun o => (Grw.rfl' w).alloc o
  have g1 := ga (.cells #[.int .i64 0, .int .i64 0, .int .i64 0] 66)
  have c2' : ∀ o, (w.alloc o).cell? ⟨B.p, 2, none⟩ = some (.map (some B.ob)) := fun o => (ga o).cell h.c2
  have c3' : ∀ o, (w.alloc o).cell? ⟨B.p, 3, none⟩ = some (.int .i64 room) := fun o => (ga o).cell h.c3
  obtain ⟨m, hm⟩ : ∃ m, J.length = m := ⟨_, rfl⟩
  have ln := fun o ty => (h.later (ga o).drew).op.len hm ty
  have d1 : decide (cl < 0) = false := by simp; omega
  have d2 : decide (8 ≤ cl) = false := by simp; omega
  have d3 : decide (room ≤ (m : Int)) = true := by rw [← hm]; simp [hr]
  have G1 := Lib.hid g1
  clear h hi hf h0 h8 hr hm g1 ga
  go_enter Try.func9, Try.ntmps9
  go_wp2_with fail
  go_region
  go_wp2_with fail
  go_ret
  exact ⟨rfl, G1.out.drew⟩
set_option maxHeartbeats 2000000 in
set_option maxRecDepth 100000 in
theorem add_yes (h : BK w B a room n count v last sz L G J) {i cl : Int} (hi : LE.Wi i) (h0 : 0 ≤ cl) (h8 : cl < 8) (hf : fnd J i = none) (hr : (J.length : Int) < room) (hL : ∀ j, j < L.length → (QQ.gt L j).id ≠ i) (hl : L.length ≤ J.length) (hb : J.length ≤ 1000) (hz : sz < 1000000000) :
    Calls Try.prog 9 #[.pointer (some ⟨B.p, 0, none⟩), .int .i64 i, .int .i64 cl] w fun e w' => e = .returned (.int .i64 0) ∧ ∃ v', BK w' B a room n count v' last (sz + 1) (L ++ [⟨i, cl, count⟩]) G (J ++ [⟨i, cl, 1, 0⟩]) ∧ Stp B v v' w w' := by
  have c2 := h.c2
  have lk := h.op.look hi (y := j0) (by rw [hf]; rfl) (b := false) (by rw [hf]; rfl)
  unfold j0 at lk
  simp only at lk
  have ga : ∀ o, Grw w (w.alloc o) := fun o => (Grw.rfl' w).alloc o
  have g1 := ga (.cells #[.int .i64 0, .int .i64 0, .int .i64 0] 66)
  have c2' : ∀ o, (w.alloc o).cell? ⟨B.p, 2, none⟩ = some (.map (some B.ob)) := fun o => (ga o).cell h.c2
  have c3' : ∀ o, (w.alloc o).cell? ⟨B.p, 3, none⟩ = some (.int .i64 room) := fun o => (ga o).cell h.c3
  obtain ⟨m, hm⟩ : ∃ m, J.length = m := ⟨_, rfl⟩
  have B1 := h.later g1.drew
  have ln := fun o ty => (h.later (ga o).drew).op.len hm ty
  obtain ⟨D, kk, hk, o, mj⟩ := B1.op
  obtain ⟨w2, hrun, o3, t3⟩ := o.store LE.law3 Try.underlying62 (by have : maxLen = 9223372036854775807 := rfl; omega) (Maps.keyOf_int_mk Try.underlying3 (LE.wi_wf hi)) (jbE_mk ⟨i, cl, 1, 0⟩)
  have f3 := LE.turned_frm t3
  have B2 := B1.withO (sz' := sz + 1) (J' := J ++ [(⟨i, cl, 1, 0⟩ : Jb)]) ⟨D.put (LE.ky i) (jd ⟨i, cl, 1, 0⟩), kk + 1, by omega, o3, MapJ.put mj (g := ⟨i, cl, 1, 0⟩) (fnd_none hf)⟩ f3
  have c0 := B2.1.c0
  have PU := Lib.hid (QQ.put_yes B2.1.qu i cl h0 h8 hL (by omega) (by omega))
  have BB := Lib.hid B2
  have d1 : decide (cl < 0) = false := by simp; omega
  have d2 : decide (8 ≤ cl) = false := by simp; omega
  have d3 : decide (room ≤ (m : Int)) = false := by rw [← hm]; simp; omega
  have G1 := Lib.hid g1
  unfold jv at hrun
  simp only at hrun
  clear h hi hf h0 h8 hr hm g1 ga B1 hk o mj o3 t3 f3 B2 hL hl hb hz
  go_enter Try.func9, Try.ntmps9
  go_wp2_with fail
  go_region
  go_wp2_with fail
  refine PU.out.mono ?_
  rintro _ w3 ⟨rfl, v', q3, f3, n3⟩
  have R := Lib.hid (BB.out.1.withQ q3 f3 n3)
  clear q3 f3 n3
  go_wp2_with fail
  go_ret
  exact ⟨rfl, v', R.out.1, ((Stp.of B v G1.out.drew).trans BB.out.2).trans R.out.2⟩
set_option maxHeartbeats 1000000 in
set_option maxRecDepth 100000 in
theorem fetch_nil (t : Nat) (w : World) : Calls Try.prog 10 #[.pointer none, .int .u64 (t : Nat)] w fun e w' => e = .returned (.tuple #[lv 0 0 0 0, .int .i64 1]) ∧ Grw w w' := by
  go_enter Try.func10, Try.ntmps10
  go_wp2_with fail
  exact bodyPost_ret (v := .tuple #[lv 0 0 0 0, .int .i64 1]) (by simp [results, Try.results10, go_sem, lv]) rfl ⟨rfl, (Grw.rfl' w).alloc _⟩
set_option maxHeartbeats 1000000 in
set_option maxRecDepth 100000 in
theorem fetch_none (h : BK w B a room n count v last sz [] G J) (t : Nat) : Calls Try.prog 10 #[.pointer (some ⟨B.p, 0, none⟩), .int .u64 (t : Nat)] w fun e w' => e = .returned (.tuple #[lv 0 0 0 0, .int .i64 12]) ∧ Grw w w' := by
  have ga := (Grw.rfl' w).alloc (.cells #[.int .i64 0, .int .i64 0, .int .i64 0, .int .i64 0, .int .i64 0, .int .u64 0] 33)
  have GA := Lib.hid ga
  have c0 : ∀ o, (w.alloc o).cell? ⟨B.p, 0, none⟩ = some (.pointer (some ⟨B.q, 0, none⟩)) := fun o => ((Grw.rfl' w).alloc o).cell h.c0
  have C := Lib.hid (QQ.take_none (h.later ga).qu)
  unfold QQ.wv at C
  simp only at C
  have S := Lib.hid (Six.new w (.int .i64 0) (.int .i64 0) (.int .i64 0) (.int .i64 0) (.int .i64 0) (.int .u64 0) 33)
  clear h ga
  go_enter Try.func10, Try.ntmps10
  go_wp2_with fail
  refine C.out.mono ?_
  rintro _ w1 ⟨rfl, hw⟩
  have G1 := Lib.hid (GA.out.trans hw)
  have s := S.out.later hw (by rw [size_new]; omega)
  have s' := s.later ((Grw.rfl' w1).alloc (.cells #[.int .i64 0, .int .i64 0, .int .i64 0] 69)) (by have := Below.size hw; rw [size_new] at this; omega)
  obtain ⟨z0, z1, z2, z3, z4, z5, k0, k1, k2, k3, k4, k5⟩ := s'
  clear hw s c0
  go_wp2_with fail
  exact bodyPost_ret (v := .tuple #[lv 0 0 0 0, .int .i64 12]) (by simp [results, Try.results10, go_sem, lv, z0, z1, z2, z3, z4, z5]) rfl ⟨rfl, by repeat (first | with_reducible exact G1.out | with_reducible refine Grw.alloc ?_ _ | with_reducible refine Grw.set ?_ (Nat.le_refl _) _)⟩
end Go.Proofs.Ytlopijcpnfkcgaa
