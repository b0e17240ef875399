/- The contracts of jobs.Add and Fetch at this program. -/
import Derived.Test.YtlopijcpnfkcgaaGreatJc
namespace Go.Proofs.YtlopijcpnfkcgaaGreat
open Go.RowKit
open Go.Maps (Keyed IsMap Tidy)
set_option linter.unusedSimpArgs false
variable {w x : World} {B : BB} {a room n count : Int} {v : Value} {last sz : Nat} {L : List QQ.Wt} {G : List LE.Gr} {J : List Jb}
theorem OM.len {ob : Nat} (h : OM w ob sz J) {m : Nat} (hm : J.length = m) (ty : TypeId) : (Builtin.len_ #[57] ty #[.map (some ob)]).run Tryz.prog w = .ok (.int .i64 m) w := by
  obtain ⟨D, k, hk, o, mj⟩ := h
  rw [o.len Tryz.underlying57 ty, mj.size, hm]
set_option maxHeartbeats 1000000 in
set_option maxRecDepth 100000 in
theorem add_nil (i cl : Int) (w : World) : Calls Tryz.prog 9 #[.pointer none, .int .i64 i, .int .i64 cl] w fun e w' => e = .returned (.int .i64 1) ∧ w = w' := by
  go_enter Tryz.func9, Tryz.ntmps9
  go_wp2_with fail
  go_ret
  exact ⟨rfl, rfl⟩
set_option maxHeartbeats 1000000 in
set_option maxRecDepth 100000 in
theorem add_bad (p : Nat) (i cl : Int) (w : World) (h : ¬ (0 ≤ cl ∧ cl < 8)) : Calls Tryz.prog 9 #[.pointer (some ⟨p, 0, none⟩), .int .i64 i, .int .i64 cl] w fun e w' => e = .returned (.int .i64 1) ∧ w = w' := by
  by_cases h1 : cl < 0
  · have d1 : decide (cl < 0) = true := by simp [h1]
    go_enter Tryz.func9, Tryz.ntmps9
    go_wp2_with fail
    go_ret
    exact ⟨rfl, rfl⟩
  · have d1 : decide (cl < 0) = false := by simp; omega
    have d2 : decide (8 ≤ cl) = true := by simp; omega
    clear h
    go_enter Tryz.func9, Tryz.ntmps9
    go_wp2_with fail
    go_ret
    exact ⟨rfl, rfl⟩
set_option maxHeartbeats 1000000 in
set_option maxRecDepth 100000 in
theorem add_twice (h : BK w B a room n count v last sz L G J) {i cl : Int} (hi : LE.Wi i) (h0 : 0 ≤ cl) (h8 : cl < 8) (hf : (fnd J i).isSome = true) :
    Calls Tryz.prog 9 #[.pointer (some ⟨B.p, 0, none⟩), .int .i64 i, .int .i64 cl] w fun e w' => e = .returned (.int .i64 8) ∧ Grw w w' := by
  have c2 := h.c2
  obtain ⟨y, hy⟩ : ∃ y, (fnd J i).getD j0 = y := ⟨_, rfl⟩
  have lk := h.op.look hi hy hf
  obtain ⟨yi, yc, ys, yu⟩ := y
  simp only at lk
  have d1 : decide (cl < 0) = false := by simp; omega
  have d2 : decide (8 ≤ cl) = false := by simp; omega
  clear h hi hf hy h0 h8
  go_enter Tryz.func9, Tryz.ntmps9
  go_wp2_with fail
  go_ret
  exact ⟨rfl, (Grw.rfl' w).alloc _⟩
set_option maxHeartbeats 1000000 in
set_option maxRecDepth 100000 in
theorem add_full (h : BK w B a room n count v last sz L G J) {i cl : Int} (hi : LE.Wi i) (h0 : 0 ≤ cl) (h8 : cl < 8) (hf : fnd J i = none) (hr : room ≤ J.length) :
    Calls Tryz.prog 9 #[.pointer (some ⟨B.p, 0, none⟩), .int .i64 i, .int .i64 cl] w fun e w' => e = .returned (.int .i64 10) ∧ Grw w w' := by
  have c2 := h.c2
  have lk := h.op.look hi (y := j0) (by rw [hf]; rfl) (b := false) (by rw [hf]; rfl)
  unfold j0 at lk
  simp only at lk
  have ga : ∀ o, Grw w (w.alloc o) := fun o => (Grw.rfl' w).alloc o
  have g1 := ga (.cells #[.int .i64 0, .int .i64 0, .int .i64 0] 72)
  have c2' : ∀ o, (w.alloc o).cell? ⟨B.p, 2, none⟩ = some (.map (some B.ob)) := fun o => (ga o).cell h.c2
  have c3' : ∀ o, (w.alloc o).cell? ⟨B.p, 3, none⟩ = some (.int .i64 room) := fun o => (ga o).cell h.c3
  obtain ⟨m, hm⟩ : ∃ m, J.length = m := ⟨_, rfl⟩
  have ln := fun o ty => (h.later (ga o).drew).op.len hm ty
  have d1 : decide (cl < 0) = false := by simp; omega
  have d2 : decide (8 ≤ cl) = false := by simp; omega
  have d3 : decide (room ≤ (m : Int)) = true := by rw [← hm]; simp [hr]
  have G1 := Lib.hid g1
  clear h hi hf h0 h8 hr hm g1 ga
  go_enter Tryz.func9, Tryz.ntmps9
  go_wp2_with fail
  go_region
  go_wp2_with fail
  go_ret
  exact ⟨rfl, G1.out.drew⟩
set_option maxHeartbeats 2000000 in
set_option maxRecDepth 100000 in
theorem add_yes (h : BK w B a room n count v last sz L G J) {i cl : Int} (hi : LE.Wi i) (h0 : 0 ≤ cl) (h8 : cl < 8) (hf : fnd J i = none) (hr : (J.length : Int) < room) (hL : ∀ j, j < L.length → (QQ.gt L j).id ≠ i) (hl : L.length ≤ J.length) (hb : J.length ≤ 1000) (hz : sz < 1000000000) :
    Calls Tryz.prog 9 #[.pointer (some ⟨B.p, 0, none⟩), .int .i64 i, .int .i64 cl] w fun e w' => e = .returned (.int .i64 0) ∧ ∃ v', BK w' B a room n count v' last (sz + 1) (L ++ [⟨i, cl, count⟩]) G (J ++ [⟨i, cl, 1, 0⟩]) ∧ Stp B v v' w w' := by
  have c2 := h.c2
  have lk := h.op.look hi (y := j0) (by rw [hf]; rfl) (b := false) (by rw [hf]; rfl)
  unfold j0 at lk
  simp only at lk
  have ga : ∀ o, Grw w (w.alloc o) := fun o => (Grw.rfl' w).alloc o
  have g1 := ga (.cells #[.int .i64 0, .int .i64 0, .int .i64 0] 72)
  have c2' : ∀ o, (w.alloc o).cell? ⟨B.p, 2, none⟩ = some (.map (some B.ob)) := fun o => (ga o).cell h.c2
  have c3' : ∀ o, (w.alloc o).cell? ⟨B.p, 3, none⟩ = some (.int .i64 room) := fun o => (ga o).cell h.c3
  obtain ⟨m, hm⟩ : ∃ m, J.length = m := ⟨_, rfl⟩
  have B1 := h.later g1.drew
  have ln := fun o ty => (h.later (ga o).drew).op.len hm ty
  obtain ⟨D, kk, hk, o, mj⟩ := B1.op
  obtain ⟨w2, hrun, o3, t3⟩ := o.store LE.law3 Tryz.underlying57 (by have : maxLen = 9223372036854775807 := rfl; omega) (Maps.keyOf_int_mk Tryz.underlying3 (LE.wi_wf hi)) (jbE_mk ⟨i, cl, 1, 0⟩)
  have f3 := LE.turned_frm t3
  have B2 := B1.withO (sz' := sz + 1) (J' := J ++ [(⟨i, cl, 1, 0⟩ : Jb)]) ⟨D.put (LE.ky i) (jd ⟨i, cl, 1, 0⟩), kk + 1, by omega, o3, MapJ.put mj (g := ⟨i, cl, 1, 0⟩) (fnd_none hf)⟩ f3
  have c0 := B2.1.c0
  have PU := Lib.hid (QQ.put_yes B2.1.qu i cl h0 h8 hL (by omega) (by omega))
  have BB := Lib.hid B2
  have d1 : decide (cl < 0) = false := by simp; omega
  have d2 : decide (8 ≤ cl) = false := by simp; omega
  have d3 : decide (room ≤ (m : Int)) = false := by rw [← hm]; simp; omega
  have G1 := Lib.hid g1
  unfold jv at hrun
  simp only at hrun
  clear h hi hf h0 h8 hr hm g1 ga B1 hk o mj o3 t3 f3 B2 hL hl hb hz
  go_enter Tryz.func9, Tryz.ntmps9
  go_wp2_with fail
  go_region
  go_wp2_with fail
  refine PU.out.mono ?_
  rintro _ w3 ⟨rfl, v', q3, f3, n3⟩
  have R := Lib.hid (BB.out.1.withQ q3 f3 n3)
  clear q3 f3 n3
  go_wp2_with fail
  go_ret
  exact ⟨rfl, v', R.out.1, ((Stp.of B v G1.out.drew).trans BB.out.2).trans R.out.2⟩
set_option maxHeartbeats 1000000 in
set_option maxRecDepth 100000 in
theorem fetch_nil (t : Nat) (w : World) : Calls Tryz.prog 11 #[.pointer none, .int .u64 (t : Nat)] w fun e w' => e = .returned (.tuple #[lv 0 0 0 0, .int .i64 1]) ∧ Grw w w' := by
  go_enter Tryz.func11, Tryz.ntmps11
  go_wp2_with fail
  exact bodyPost_ret (v := .tuple #[lv 0 0 0 0, .int .i64 1]) (by simp [results, Tryz.results11, go_sem, lv]) rfl ⟨rfl, (Grw.rfl' w).alloc _⟩
set_option maxHeartbeats 1000000 in
set_option maxRecDepth 100000 in
theorem fetch_none (h : BK w B a room n count v last sz [] G J) (t : Nat) : Calls Tryz.prog 11 #[.pointer (some ⟨B.p, 0, none⟩), .int .u64 (t : Nat)] w fun e w' => e = .returned (.tuple #[lv 0 0 0 0, .int .i64 12]) ∧ Grw w w' := by
  have ga := (Grw.rfl' w).alloc (.cells #[.int .i64 0, .int .i64 0, .int .i64 0, .int .i64 0, .int .i64 0, .int .u64 0] 38)
  have GA := Lib.hid ga
  have c0 : ∀ o, (w.alloc o).cell? ⟨B.p, 0, none⟩ = some (.pointer (some ⟨B.q, 0, none⟩)) := fun o => ((Grw.rfl' w).alloc o).cell h.c0
  have C := Lib.hid (QQ.take_none (h.later ga).qu)
  unfold QQ.wv at C
  simp only at C
  have S := Lib.hid (Six.new w (.int .i64 0) (.int .i64 0) (.int .i64 0) (.int .i64 0) (.int .i64 0) (.int .u64 0) 38)
  clear h ga
  go_enter Tryz.func11, Tryz.ntmps11
  go_wp2_with fail
  refine C.out.mono ?_
  rintro _ w1 ⟨rfl, hw⟩
  have G1 := Lib.hid (GA.out.trans hw)
  have s := S.out.later hw (by rw [size_new]; omega)
  have s' := s.later ((Grw.rfl' w1).alloc (.cells #[.int .i64 0, .int .i64 0, .int .i64 0] 77)) (by have := Below.size hw; rw [size_new] at this; omega)
  obtain ⟨z0, z1, z2, z3, z4, z5, k0, k1, k2, k3, k4, k5⟩ := s'
  clear hw s c0
  go_wp2_with fail
  exact bodyPost_ret (v := .tuple #[lv 0 0 0 0, .int .i64 12]) (by simp [results, Tryz.results11, go_sem, lv, z0, z1, z2, z3, z4, z5]) rfl ⟨rfl, by repeat (first | with_reducible exact G1.out | with_reducible refine Grw.alloc ?_ _ | with_reducible refine Grw.set ?_ (Nat.le_refl _) _)⟩
end Go.Proofs.YtlopijcpnfkcgaaGreat

/- The contract of jobs.Fetch where it leases; of jobs.end. -/
namespace Go.Proofs.YtlopijcpnfkcgaaGreat
open Go.RowKit
open Go.Maps (Keyed IsMap Tidy)
set_option linter.unusedSimpArgs false
variable {w x : World} {B : BB} {a room n count : Int} {v : Value} {last sz : Nat} {L : List QQ.Wt} {G : List LE.Gr} {J : List Jb}
theorem Six.frm {w x : World} {b : Nat} {v0 v1 v2 v3 v4 v5 : Value} (t : Six w b v0 v1 v2 v3 v4 v5) {F : Nat → Prop} (f : Frm F w x) (hn : ¬ F b) : Six x b v0 v1 v2 v3 v4 v5 :=
  ⟨f.cell t.c0 hn, f.cell t.c1 hn, f.cell t.c2 hn, f.cell t.c3 hn, f.cell t.c4 hn, f.cell t.c5 hn, LE.frz_frm f t.c0 hn t.f0, LE.frz_frm f t.c1 hn t.f1, LE.frz_frm f t.c2 hn t.f2, LE.frz_frm f t.c3 hn t.f3, LE.frz_frm f t.c4 hn t.f4, LE.frz_frm f t.c5 hn t.f5⟩
theorem Stp.set' {v' : Value} (h : Stp B v v' w x) {b : Nat} (hb : w.heap.size ≤ b) (o : Nat) (u : Value) : Stp B v v' w (x.setCell ⟨b, o, none⟩ u) := ⟨h.f.set _ _ (Or.inr hb), h.n⟩
theorem fnd_upd {J : List Jb} (h : Ids J) {z : Jb} (hz : ∃ y ∈ J, y.id = z.id) : fnd (upd J z) z.id = some z := fnd_of (h.upd z) (mem_upd.2 (Or.inr ⟨rfl, hz⟩))
theorem Ids.wn {last : Nat} {G : List LE.Gr} (h : LE.Ok last G) {g : LE.Gr} (hg : g ∈ G) : LE.Wi g.n := by have := h.rng g hg; have := h.top; unfold LE.Wi; omega
theorem st_1 {n u : Int} (h : RE.gd n 1 u = true) : RE.st n 1 u 1 = (2, u + 1, true) := by unfold RE.st; rw [h]; simp
theorem st_2 {n u : Int} (h : RE.gd n 2 u = true) : RE.st n 2 u 2 = (4, u, true) := by unfold RE.st; rw [h]; simp
theorem st_3 {n u : Int} (h : RE.gd n 2 u = true) (hu : u ≤ n) : RE.st n 2 u 3 = (3, u, true) := by unfold RE.st; rw [h]; simp [hu]
theorem st_5 {n u : Int} (h : RE.gd n 2 u = true) (hu : ¬ u ≤ n) : RE.st n 2 u 3 = (5, u, true) := by unfold RE.st; rw [h]; simp [hu]
theorem st_4 {n u : Int} (h : RE.gd n 3 u = true) : RE.st n 3 u 4 = (1, u, true) := by unfold RE.st; rw [h]; simp
set_option maxHeartbeats 2000000 in
set_option maxRecDepth 100000 in
theorem fetch_some (h : BK w B a room n count v last sz L G J) (bi : BI n J L G) {k : Nat} (hf : QQ.Fst a L k) (h0 : 0 ≤ count) (h1 : count ≤ 4611686018427387904) {y : Jb} (hy : fnd J (QQ.gt L k).id = some y) (hs : y.s = 1) {t m : Nat} (hm : last + 1 = m) (ht : t < 18446744073709551616) (hl : last < 1000000) (hz : sz < 1000000000) :
    Calls Tryz.prog 11 #[.pointer (some ⟨B.p, 0, none⟩), .int .u64 (t : Nat)] w fun e w' => e = .returned (.tuple #[lv m y.id (y.u + 1) t, .int .i64 0]) ∧
      ∃ v', BK w' B a room n (count + 1) v' m (sz + 1) (QQ.rem L k) (G ++ [⟨m, y.id, t⟩]) (upd J ⟨y.id, y.cl, 2, y.u + 1⟩) ∧ Stp B v v' w w' := by
  obtain ⟨hyJ, hid⟩ := fnd_some hy
  have gy := bi.good y hyJ
  obtain ⟨⟨gi, gc, gm⟩, hg⟩ : ∃ z, QQ.gt L k = z := ⟨_, rfl⟩
  obtain ⟨yi, yc, ys, yu⟩ := y
  rw [hg] at hid hy
  simp only at hid hs gy hy
  subst hs hid
  have hst := st_1 gy.2.2.2.1
  have hj : LE.byJ G yi = none := LE.byJ_no (bi.not_l hyJ (by simp))
  have ga := (Grw.rfl' w).alloc (.cells #[.int .i64 0, .int .i64 0, .int .i64 0, .int .i64 0, .int .i64 0, .int .u64 0] 38)
  have c0 : ∀ o, (w.alloc o).cell? ⟨B.p, 0, none⟩ = some (.pointer (some ⟨B.q, 0, none⟩)) := fun o => ((Grw.rfl' w).alloc o).cell h.c0
  have H0 := Lib.hid (h.later ga)
  have C := Lib.hid (QQ.take_some H0.out.qu hf h0 h1)
  rw [hg] at C
  unfold QQ.wv at C
  simp only at C
  have S := Lib.hid (Six.new w (.int .i64 0) (.int .i64 0) (.int .i64 0) (.int .i64 0) (.int .i64 0) (.int .u64 0) 38)
  have GA := Lib.hid ga
  have NB : Hid (¬ bf B v w.heap.size) := (fun e => Nat.lt_irrefl _ (h.lt _ e) : ¬ bf B v w.heap.size)
  have HH := Lib.hid (And.intro hy (And.intro hst (And.intro hj (And.intro gy.1 (And.intro bi.ids hyJ)))))
  have HM := Lib.hid (And.intro hm (And.intro ht (And.intro hl hz)))
  clear h bi hf h0 h1 hy gy hst hj ga hyJ hg hm ht hl hz
  go_enter Tryz.func11, Tryz.ntmps11
  go_wp2_with fail
  refine C.out.mono ?_
  rintro _ w1 ⟨rfl, v', q1, f1, o1⟩
  have R1 := Lib.hid (H0.out.withQ q1 f1 (Or.inl o1))
  have N1 : Hid (¬ bf B v' w1.heap.size) := (fun e => Nat.lt_irrefl _ (R1.out.1.lt _ e) : ¬ bf B v' w1.heap.size)
  obtain ⟨w2, hw2⟩ : ∃ w2, w1.alloc (.cells #[.int .i64 yi, .int .i64 gc, .int .i64 gm] 77) = w2 := ⟨_, rfl⟩
  have g2 : Grw w1 w2 := by rw [← hw2]; exact (Grw.rfl' w1).alloc _
  have b0 : w2.cell? ⟨w1.heap.size, 0, none⟩ = some (.int .i64 yi) := by rw [← hw2]; simp [go_sem]
  have G2 := Lib.hid g2
  have ST := Lib.hid (step_stay (R1.out.1.later g2) HH.out.2.2.2.1 HH.out.1 HH.out.2.1 rfl rfl HM.out.2.2.2)
  simp only at ST
  clear q1 f1 o1 g2
  go_wp2_with fail
  refine ST.out.mono ?_
  rintro _ w3 ⟨rfl, b3, s3⟩
  have R3 := Lib.hid (And.intro b3 ((R1.out.2.trans (Stp.of B v' G2.out)).trans s3))
  have b0' := s3.f.cell b0 N1.out
  have b1' := b3.c1
  have GR := Lib.hid (LE.grant_yes (b3.tb.later ((Grw.rfl' w3).drew)) yi t m HM.out.1 HH.out.2.2.2.1 HM.out.2.1 HH.out.2.2.1 HM.out.2.2.1)
  have TP : Hid (¬ LE.tf B.t B.mb B.jb B.p ∧ ¬ LE.tf B.t B.mb B.jb w1.heap.size) := (⟨fun e => (b3.ap.dt _ e).1 rfl, fun e => N1.out (Or.inr (Or.inr (Or.inl e)))⟩ : ¬ LE.tf B.t B.mb B.jb B.p ∧ ¬ LE.tf B.t B.mb B.jb w1.heap.size)
  clear b3 s3 b0 c0 hw2
  unfold RE.tv
  go_wp2_with fail
  go_region_held3 (fun u => u.cell? ⟨B.p, 1, none⟩ = some (.pointer (some ⟨B.t, 0, none⟩)) ∧ u.cell? ⟨w1.heap.size, 0, none⟩ = some (.int .i64 yi)) (first | exact ⟨b1', b0'⟩ | exact ⟨b1'', b0''⟩) (first | (go_at_call 32; refine GR.out.mono ?_; rintro _ w4 ⟨rfl, t4, f4⟩; have b1'' := f4.cell (w := w3.drew) b1' TP.out.1; have b0'' := f4.cell (w := w3.drew) b0' TP.out.2; have R4 := Lib.hid ((R3.out.1.later ((Grw.rfl' w3).drew)).withT t4 f4); clear t4 f4))
  have LS := Lib.hid (lease_is R4.out.1 (Ids.wn R4.out.1.tb.ok (g := ⟨m, yi, t⟩) (by simp)) (LE.byN_of (g := ⟨m, yi, t⟩) R4.out.1.tb.ok (by simp)) (y := ⟨yi, yc, 2, yu + 1⟩) (by rw [fnd_upd (z := ⟨yi, yc, 2, yu + 1⟩) HH.out.2.2.2.2.1 ⟨_, HH.out.2.2.2.2.2, rfl⟩]; rfl))
  simp only at LS
  have X4 := Lib.hid ((R3.out.2.trans (Stp.of B v' ((Grw.rfl' w3).drew))).trans R4.out.2)
  clear b1' b0' b1'' b0''
  go_wp2_with fail
  refine LS.out.mono ?_
  rintro _ w5 ⟨rfl, g5⟩
  have hlt : w.heap.size < w5.heap.size := by have h1 := X4.out.f.size; have h2 := Below.size g5; rw [size_new] at h1; omega
  have s' := ((S.out.frm X4.out.f NB.out).later g5 (by have h1 := X4.out.f.size; rw [size_new] at h1; omega)).later ((Grw.rfl' w5).alloc (.cells #[.int .i64 m, .int .i64 yi, .int .i64 0, .int .i64 0, .int .i64 (yu + 1), .int .u64 (t : Nat)] 38)) hlt
  obtain ⟨z0, z1, z2, z3, z4, z5, k0, k1, k2, k3, k4, k5⟩ := s'
  have R5 := Lib.hid (And.intro (R4.out.1.later (g5.alloc (.cells #[.int .i64 m, .int .i64 yi, .int .i64 0, .int .i64 0, .int .i64 (yu + 1), .int .u64 (t : Nat)] 38))) (((Stp.of B v GA.out).trans X4.out).trans (Stp.of B v' (g5.alloc (.cells #[.int .i64 m, .int .i64 yi, .int .i64 0, .int .i64 0, .int .i64 (yu + 1), .int .u64 (t : Nat)] 38)))))
  have NV : Hid (¬ bf B v' w.heap.size) := (fun e => (near_bf X4.out.n e).elim NB.out (fun c => by rw [size_new] at c; omega) : ¬ bf B v' w.heap.size)
  unfold lv
  clear g5 hlt
  go_wp2_with fail
  exact bodyPost_ret (v := .tuple #[lv m yi (yu + 1) t, .int .i64 0]) (by simp [results, Tryz.results11, go_sem, lv, z0, z1, z2, z3, z4, z5]) rfl ⟨rfl, v', by repeat (first | with_reducible exact R5.out.1 | with_reducible refine BK.off ?_ NV.out _ _), by repeat (first | with_reducible exact R5.out.2 | with_reducible refine Stp.set' ?_ (Nat.le_refl _) _ _)⟩
end Go.Proofs.YtlopijcpnfkcgaaGreat
