/- The contracts of jobs.end, Answer, Fail at this program. -/
import Derived.Test.YtlopijcpnfkcgaaGreatJe
namespace Go.Proofs.YtlopijcpnfkcgaaGreat
open Go.RowKit
open Go.Maps (Keyed IsMap Tidy)
set_option linter.unusedSimpArgs false
variable {w x : World} {B : BB} {a room n count : Int} {v : Value} {last sz : Nat} {L : List QQ.Wt} {G : List LE.Gr} {J : List Jb}
theorem BK.drew (h : BK w B a room n count v last sz L G J) : BK w.drew B a room n count v last sz L G J := h.later ((Grw.rfl' w).drew)
theorem Stp.drew {v' : Value} (h : Stp B v v' w x) : Stp B v v' w x.drew := h.trans (Stp.of B v' ((Grw.rfl' x).drew))
/-- what jobs.end tells. -/
def ev (j s u e : Int) : Value := .tuple #[.int .i64 j, .agg #[.int .i64 s, .int .i64 u], .int .i64 e]
set_option maxHeartbeats 1000000 in
set_option maxRecDepth 100000 in
theorem end_nil (i k : Int) (w : World) : Calls Tryz.prog 38 #[.pointer none, .int .i64 i, .int .i64 k] w fun e w' => e = .returned (ev 0 0 0 1) ∧ Grw w w' := by
  go_enter Tryz.func38, Tryz.ntmps38
  go_wp2_with fail
  exact bodyPost_ret (v := ev 0 0 0 1) (by simp [results, Tryz.results38, go_sem, ev]) rfl ⟨rfl, (Grw.rfl' w).alloc _⟩
set_option maxHeartbeats 1000000 in
set_option maxRecDepth 100000 in
theorem end_no (h : BK w B a room n count v last sz L G J) {i : Int} (k : Int) (hi : LE.Wi i) (hb : LE.byN G i = none) :
    Calls Tryz.prog 38 #[.pointer (some ⟨B.p, 0, none⟩), .int .i64 i, .int .i64 k] w fun e w' => e = .returned (ev 0 0 0 13) ∧ Grw w w' := by
  have ga := (Grw.rfl' w).alloc (.cells #[.int .i64 0, .int .i64 0] 48)
  have GA := Lib.hid ga
  have c1 : ∀ o, (w.alloc o).cell? ⟨B.p, 1, none⟩ = some (.pointer (some ⟨B.t, 0, none⟩)) := fun o => ((Grw.rfl' w).alloc o).cell h.c1
  have C := Lib.hid (LE.drop_no (h.later ga).tb i hi hb)
  have S := Lib.hid (Two.new w (.int .i64 0) (.int .i64 0) 48)
  clear h hi hb ga
  go_enter Tryz.func38, Tryz.ntmps38
  go_wp2_with fail
  refine C.out.mono ?_
  rintro _ w1 ⟨rfl, hw⟩
  have G1 := Lib.hid (GA.out.trans hw)
  obtain ⟨z0, z1, k0, k1⟩ := S.out.later hw (by rw [size_new]; omega)
  clear hw c1
  go_wp2_with fail
  exact bodyPost_ret (v := ev 0 0 0 13) (by simp [results, Tryz.results38, go_sem, ev, z0, z1]) rfl ⟨rfl, by repeat (first | with_reducible exact G1.out | with_reducible refine Grw.set ?_ (Nat.le_refl _) _)⟩
set_option maxHeartbeats 2000000 in
set_option maxRecDepth 100000 in
theorem end_yes (h : BK w B a room n count v last sz L G J) {i k : Int} (hi : LE.Wi i) {g : LE.Gr} (hb : LE.byN G i = some g) {s u : Int} {sz' : Nat} {J' : List Jb}
    (A : ∀ w1, BK w1 B a room n count v last sz L (LE.off [g] G) J → Calls Tryz.prog 31 #[.pointer (some ⟨B.p, 0, none⟩), .int .i64 g.j, .int .i64 k] w1 fun e w' => e = .returned (RE.tv s u true) ∧ BK w' B a room n count v last sz' L (LE.off [g] G) J' ∧ Stp B v v w1 w') :
    Calls Tryz.prog 38 #[.pointer (some ⟨B.p, 0, none⟩), .int .i64 i, .int .i64 k] w fun e w' => e = .returned (ev g.j s u 0) ∧ BK w' B a room n count v last sz' L (LE.off [g] G) J' ∧ Stp B v v w w' := by
  have ga := (Grw.rfl' w).alloc (.cells #[.int .i64 0, .int .i64 0] 48)
  have GA := Lib.hid ga
  have c1 : ∀ o, (w.alloc o).cell? ⟨B.p, 1, none⟩ = some (.pointer (some ⟨B.t, 0, none⟩)) := fun o => ((Grw.rfl' w).alloc o).cell h.c1
  have H0 := Lib.hid (h.later ga)
  have C := Lib.hid (LE.drop_yes H0.out.tb i hi hb)
  have S := Lib.hid (Two.new w (.int .i64 0) (.int .i64 0) 48)
  have NB : Hid (¬ bf B v w.heap.size) := (fun e => Nat.lt_irrefl _ (h.lt _ e) : ¬ bf B v w.heap.size)
  have HA := Lib.hid A
  obtain ⟨gn, gj, gu⟩ := g
  simp only at C HA
  clear h hi hb ga A
  go_enter Tryz.func38, Tryz.ntmps38
  go_wp2_with fail
  refine C.out.mono ?_
  rintro _ w1 ⟨rfl, t1, f1⟩
  have R1 := Lib.hid (H0.out.withT t1 f1)
  have ST := Lib.hid (HA.out w1 R1.out.1)
  clear t1 f1 c1
  go_wp2_with fail
  refine ST.out.mono ?_
  rintro _ w2 ⟨rfl, b2, s2⟩
  have R2 := Lib.hid (And.intro b2 (R1.out.2.trans s2))
  have s' := S.out.frm R2.out.2.f NB.out
  have hlt : w.heap.size < w2.heap.size := by have h1 := R2.out.2.f.size; rw [size_new] at h1; omega
  obtain ⟨w3, hw3⟩ : ∃ w3, w2.alloc (.cells #[.int .i64 s, .int .i64 u] 48) = w3 := ⟨_, rfl⟩
  have g3 : Grw w2 w3 := by rw [← hw3]; exact (Grw.rfl' w2).alloc _
  obtain ⟨z0, z1, k0, k1⟩ := s'.later g3 hlt
  have y0 : w3.cell? ⟨w2.heap.size, 0, none⟩ = some (.int .i64 s) := by rw [← hw3]; simp [go_sem]
  have y1 : w3.cell? ⟨w2.heap.size, 1, none⟩ = some (.int .i64 u) := by rw [← hw3]; simp [go_sem]
  have R3 := Lib.hid (And.intro (R2.out.1.later g3) (((Stp.of B v GA.out).trans R2.out.2).trans (Stp.of B v g3)))
  clear b2 s2 s' hlt g3
  unfold RE.tv
  go_wp2_with fail
  go_region
  go_wp2_with fail
  exact bodyPost_ret (v := ev gj s u 0) (by simp [results, Tryz.results38, go_sem, ev, z0, z1]) rfl ⟨rfl, by repeat (first | with_reducible exact R3.out.1 | with_reducible refine BK.drew ?_ | with_reducible refine BK.off ?_ NB.out _ _), by repeat (first | with_reducible exact R3.out.2 | with_reducible refine Stp.drew ?_ | with_reducible refine Stp.set ?_ (Nat.le_refl _) _ _)⟩
set_option maxHeartbeats 1000000 in
set_option maxRecDepth 100000 in
theorem answer_of (P : World → Prop) (p : Option Addr) (i j s u e : Int) (A : Calls Tryz.prog 38 #[.pointer p, .int .i64 i, .int .i64 2] w fun r w' => r = .returned (ev j s u e) ∧ P w') (hP : ∀ y o, P y → P (y.alloc o)) :
    Calls Tryz.prog 13 #[.pointer p, .int .i64 i] w fun r w' => r = .returned (.tuple #[.int .i64 j, .int .i64 e]) ∧ P w' := by
  have C := Lib.hid A
  have HP := Lib.hid hP
  clear A hP
  go_enter Tryz.func13, Tryz.ntmps13
  go_wp2_with fail
  refine C.out.mono ?_
  rintro _ w1 ⟨rfl, h1⟩
  have P1 := Lib.hid h1
  clear h1
  unfold ev
  go_wp2_with fail
  go_ret2
  exact ⟨rfl, HP.out _ _ P1.out⟩
set_option maxHeartbeats 1000000 in
set_option maxRecDepth 100000 in
theorem fail_of (P : World → Prop) (p : Option Addr) (i j s u e : Int) (A : Calls Tryz.prog 38 #[.pointer p, .int .i64 i, .int .i64 3] w fun r w' => r = .returned (ev j s u e) ∧ P w') (hP : ∀ y o, P y → P (y.alloc o).drew) :
    Calls Tryz.prog 15 #[.pointer p, .int .i64 i] w fun r w' => r = .returned (.tuple #[.int .i64 j, .bool (s == 5), .int .i64 e]) ∧ P w' := by
  have C := Lib.hid A
  have HP := Lib.hid hP
  clear A hP
  go_enter Tryz.func15, Tryz.ntmps15
  go_wp2_with fail
  refine C.out.mono ?_
  rintro _ w1 ⟨rfl, h1⟩
  have P1 := Lib.hid h1
  clear h1
  unfold ev
  go_wp2_with fail
  go_region
  go_wp2_with fail
  exact bodyPost_ret (v := .tuple #[.int .i64 j, .bool (s == 5), .int .i64 e]) (by simp [results, Tryz.results15, go_sem]) rfl ⟨rfl, HP.out _ _ P1.out⟩
end Go.Proofs.YtlopijcpnfkcgaaGreat

/- The contracts of jobs.Rested and Drop at this program. -/
namespace Go.Proofs.YtlopijcpnfkcgaaGreat
open Go.RowKit
open Go.Maps (Keyed IsMap Tidy)
set_option linter.unusedSimpArgs false
variable {w x : World} {B : BB} {a room n count : Int} {v : Value} {last sz : Nat} {L : List QQ.Wt} {G : List LE.Gr} {J : List Jb}
set_option maxHeartbeats 1000000 in
set_option maxRecDepth 100000 in
theorem rested_nil (i : Int) (w : World) : Calls Tryz.prog 17 #[.pointer none, .int .i64 i] w fun e w' => e = .returned (.bool false) ∧ w = w' := by
  go_enter Tryz.func17, Tryz.ntmps17
  go_wp2_with fail
  go_ret
  exact ⟨rfl, rfl⟩
set_option maxHeartbeats 1000000 in
set_option maxRecDepth 100000 in
theorem rested_no (h : BK w B a room n count v last sz L G J) {i : Int} (hi : LE.Wi i) {y : Jb} (hy : (fnd J i).getD j0 = y) (hs : RE.st n y.s y.u 4 = (0, 0, false)) :
    Calls Tryz.prog 17 #[.pointer (some ⟨B.p, 0, none⟩), .int .i64 i] w fun e w' => e = .returned (.bool false) ∧ Grw w w' := by
  have C := Lib.hid (step_no h hi hy hs)
  clear h hi hy hs
  go_enter Tryz.func17, Tryz.ntmps17
  go_wp2_with fail
  refine C.out.mono ?_
  rintro _ w1 ⟨rfl, hw⟩
  have G1 := Lib.hid hw
  clear hw
  unfold RE.tv
  go_wp2_with fail
  go_ret
  exact ⟨rfl, G1.out.alloc _⟩
set_option maxHeartbeats 2000000 in
set_option maxRecDepth 100000 in
theorem rested_yes (h : BK w B a room n count v last sz L G J) (bi : BI n J L G) {i : Int} (hi : LE.Wi i) {y : Jb} (hy : fnd J i = some y) (hs : y.s = 3) (hL : (L.map QQ.Wt.id).Nodup) (hr : (J.length : Int) ≤ room) (hb : J.length ≤ 1000) (hz : sz < 1000000000) :
    Calls Tryz.prog 17 #[.pointer (some ⟨B.p, 0, none⟩), .int .i64 i] w fun e w' => e = .returned (.bool true) ∧ ∃ v', BK w' B a room n count v' last (sz + 1) (L ++ [⟨i, y.cl, count⟩]) G (upd J ⟨i, y.cl, 1, y.u⟩) ∧ Stp B v v' w w' := by
  obtain ⟨hyJ, hid⟩ := fnd_some hy
  have gy := bi.good y hyJ
  have hlt := bi.room' hL hyJ (by omega)
  have hnw := bi.not_w hyJ (by omega)
  obtain ⟨yi, yc, ys, yu⟩ := y
  simp only at hid hs gy hy hnw
  subst hs hid
  have C := Lib.hid (step_stay h hi hy (st_4 gy.2.2.2.1) rfl rfl hz)
  simp only at C
  have HF := Lib.hid (fnd_upd (z := ⟨yi, yc, 1, yu⟩) bi.ids ⟨_, hyJ, rfl⟩)
  have HC := Lib.hid (And.intro gy.2.1 (And.intro gy.2.2.1 (And.intro hnw (And.intro (show (L.length : Int) < room by omega) (And.intro (show L.length < 10000 by omega) hi)))))
  clear h bi hi hy hyJ gy hlt hnw hL hr hb hz
  go_enter Tryz.func17, Tryz.ntmps17
  go_wp2_with fail
  refine C.out.mono ?_
  rintro _ w1 ⟨rfl, b1, s1⟩
  have R1 := Lib.hid (And.intro b1 s1)
  obtain ⟨w2, hw2⟩ : ∃ w2, w1.alloc (.cells #[.int .i64 1, .int .i64 yu] 48) = w2 := ⟨_, rfl⟩
  have g2 : Grw w1 w2 := by rw [← hw2]; exact (Grw.rfl' w1).alloc _
  have R2 := Lib.hid (And.intro (b1.later g2.drew) (s1.trans (Stp.of B v g2.drew)))
  have c0 := g2.cell b1.c0
  have c2 := g2.cell b1.c2
  have lk : (Instr.lookup 57 (.map (some B.ob)) (.int .i64 yi) false).run Tryz.prog w2.drew = .ok (.agg #[.int .i64 yc, .int .i64 1, .int .i64 yu]) w2.drew := R2.out.1.op.get HC.out.2.2.2.2.2 (y := ⟨yi, yc, 1, yu⟩) (by rw [HF.out]; rfl)
  have PU := Lib.hid (QQ.put_yes R2.out.1.qu yi yc HC.out.1 HC.out.2.1 (fun j hj => HC.out.2.2.1 _ (QQ.gt_mem hj)) HC.out.2.2.2.1 HC.out.2.2.2.2.1)
  have fl := fld66_0
  clear b1 s1 g2
  unfold RE.tv
  go_wp2_with fail
  go_region_held3 (fun u => u.cell? ⟨B.p, 0, none⟩ = some (.pointer (some ⟨B.q, 0, none⟩)) ∧ u.cell? ⟨B.p, 2, none⟩ = some (.map (some B.ob))) (first | exact ⟨c0, c2⟩ | exact ⟨c0', c2'⟩) (first | (go_at_call 28; refine PU.out.mono ?_; rintro _ w3 ⟨rfl, v', q3, f3, n3⟩; have R3 := Lib.hid (R2.out.1.withQ q3 f3 n3); have c0' := R3.out.1.c0; have c2' := R3.out.1.c2; clear q3 f3 n3))
  clear c0 c2 c0' c2'
  go_wp2_with fail
  go_ret
  exact ⟨rfl, v', R3.out.1, R2.out.2.trans R3.out.2⟩
set_option maxHeartbeats 1000000 in
set_option maxRecDepth 100000 in
theorem drop_nil (i : Int) (w : World) : Calls Tryz.prog 19 #[.pointer none, .int .i64 i] w fun e w' => e = .returned (.bool false) ∧ Grw w w' := by
  have C := Lib.hid (state_nil i w)
  go_enter Tryz.func19, Tryz.ntmps19
  go_wp2_with fail
  refine C.out.mono ?_
  rintro _ w1 ⟨rfl, hw⟩
  have G1 := Lib.hid hw
  clear hw
  go_wp2_with fail
  go_ret
  exact ⟨rfl, G1.out.alloc _⟩
set_option maxHeartbeats 1000000 in
set_option maxRecDepth 100000 in
theorem drop_no (h : BK w B a room n count v last sz L G J) {i : Int} (hi : LE.Wi i) (hf : fnd J i = none) :
    Calls Tryz.prog 19 #[.pointer (some ⟨B.p, 0, none⟩), .int .i64 i] w fun e w' => e = .returned (.bool false) ∧ Grw w w' := by
  have C := Lib.hid (state_is h hi (y := j0) (by rw [hf]; rfl) (b := false) (by rw [hf]; rfl))
  unfold j0 at C
  simp only at C
  clear h hi hf
  go_enter Tryz.func19, Tryz.ntmps19
  go_wp2_with fail
  refine C.out.mono ?_
  rintro _ w1 ⟨rfl, hw⟩
  have G1 := Lib.hid hw
  clear hw
  go_wp2_with fail
  go_ret
  exact ⟨rfl, G1.out.alloc _⟩
/-- the queue's Drop, whether the job waits or not. -/
theorem qdrop (h : BK w B a room n count v last sz L G J) (i : Int) : ∃ L', (∀ k, (∃ y ∈ L', y.id = k) ↔ (k ≠ i ∧ ∃ y ∈ L, y.id = k)) ∧ (L'.map QQ.Wt.id).Nodup ∧ ((∀ y ∈ L, y.id ≠ i) → L' = L) ∧ (∀ j, j < L.length → (QQ.gt L j).id = i → L' = QQ.rem L j) ∧
    Calls Tryz.prog 41 #[.pointer (some ⟨B.q, 0, none⟩), .int .i64 i] w fun e w' => ∃ b, e = .returned (.bool b) ∧ ∃ v', BK w' B a room n count v' last sz L' G J ∧ Stp B v v' w w' := by
  by_cases c : ∃ j, j < L.length ∧ (QQ.gt L j).id = i
  · obtain ⟨j, hj, e⟩ := c
    refine ⟨QQ.rem L j, fun k => by rw [has_rem h.qu.ids hj, e], QQ.ids_rem h.qu.ids j hj, fun hn => absurd e (hn _ (QQ.gt_mem hj)), fun j' hj' e' => by rw [QQ.ids_inj h.qu.ids hj' hj (by rw [e, e'])], (QQ.drop_yes h.qu i hj e).mono ?_⟩
    rintro r w1 ⟨hr, v', q, f, o⟩
    exact ⟨true, hr, v', h.withQ q f (Or.inl o)⟩
  · have hn : ∀ j, j < L.length → (QQ.gt L j).id ≠ i := fun j hj e => c ⟨j, hj, e⟩
    have hn' : ∀ y ∈ L, y.id ≠ i := fun y hy e => by
      obtain ⟨j, hj, e2⟩ := List.mem_iff_getElem.1 hy
      exact hn j hj (by rw [QQ.gt_at hj, e2, e])
    refine ⟨L, fun k => ⟨fun ⟨y, hy, e⟩ => ⟨fun c => hn' y hy (by rw [e, c]), y, hy, e⟩, fun e => e.2⟩, h.qu.ids, fun _ => rfl, fun j hj e => absurd e (hn j hj), (QQ.drop_no h.qu i hn).mono ?_⟩
    rintro r w1 ⟨hr, g⟩
    exact ⟨false, hr, v, h.later g, Stp.of B v g⟩
/-- the leases that are left when a job goes. -/
def lg (G : List LE.Gr) (i : Int) : List LE.Gr := match LE.byJ G i with
  | none => G
  | some g => LE.off [g] G
set_option maxHeartbeats 2000000 in
set_option maxRecDepth 100000 in
theorem drop_yes (h : BK w B a room n count v last sz L G J) (bi : BI n J L G) {i : Int} (hi : LE.Wi i) {y : Jb} (hy : fnd J i = some y) :
    ∃ L', (∀ k, (∃ y ∈ L', y.id = k) ↔ (k ≠ i ∧ ∃ y ∈ L, y.id = k)) ∧ ((∀ y ∈ L, y.id ≠ i) → L' = L) ∧ (∀ j, j < L.length → (QQ.gt L j).id = i → L' = QQ.rem L j) ∧
    Calls Tryz.prog 19 #[.pointer (some ⟨B.p, 0, none⟩), .int .i64 i] w fun e w' => e = .returned (.bool true) ∧ ∃ v', BK w' B a room n count v' last sz L' (lg G i) (gon J i) ∧ Stp B v v' w w' := by
  have Q := Lib.hid (fun (w1 : World) (h1 : BK w1 B a room n count v last sz L G (gon J i)) => qdrop h1 i)
  obtain ⟨L', l1, _, l3, l4, _⟩ := qdrop h i
  refine ⟨L', l1, l3, l4, ?_⟩
  have U := Lib.hid (show ∀ (w1 : World), BK w1 B a room n count v last sz L G (gon J i) → Calls Tryz.prog 41 #[.pointer (some ⟨B.q, 0, none⟩), .int .i64 i] w1 fun e w' => ∃ b, e = .returned (.bool b) ∧ ∃ v', BK w' B a room n count v' last sz L' G (gon J i) ∧ Stp B v v' w1 w' from fun w1 h1 => by
    obtain ⟨M, m1, _, m3, m4, C⟩ := Q.out w1 h1
    have : M = L' := by
      by_cases c : ∃ j, j < L.length ∧ (QQ.gt L j).id = i
      · obtain ⟨j, hj, e⟩ := c
        rw [m4 j hj e, l4 j hj e]
      · have hn' : ∀ y ∈ L, y.id ≠ i := fun y hy e => by
          obtain ⟨j, hj, e2⟩ := List.mem_iff_getElem.1 hy
          exact c ⟨j, hj, by rw [QQ.gt_at hj, e2, e]⟩
        rw [m3 hn', l3 hn']
    rw [← this]; exact C)
  obtain ⟨hyJ, hid⟩ := fnd_some hy
  have C := Lib.hid (state_is h hi (y := y) (by rw [hy]; rfl) (b := true) (by rw [hy]; rfl))
  have H := Lib.hid h
  have HI := Lib.hid (And.intro hi (And.intro bi.ids (And.intro hyJ hid)))
  have K := Lib.hid (Maps.keyOf_int_mk Tryz.underlying3 (LE.wi_wf hi))
  obtain ⟨yi, yc, ys, yu⟩ := y
  simp only at C
  clear h bi hi hy hyJ hid Q l1 l3 l4
  go_enter Tryz.func19, Tryz.ntmps19
  go_wp2_with fail
  refine C.out.mono ?_
  rintro _ w1 ⟨rfl, hw⟩
  obtain ⟨w2, hw2⟩ : ∃ w2, w1.alloc (.cells #[.int .i64 ys, .int .i64 yu] 48) = w2 := ⟨_, rfl⟩
  have g2 : Grw w w2 := by rw [← hw2]; exact hw.alloc _
  have B2 := Lib.hid (H.out.later g2)
  have G2 := Lib.hid g2
  obtain ⟨D, kk, hk, o, mj⟩ := B2.out.op
  have OW := Lib.hid o
  have MJ := Lib.hid (And.intro hk mj)
  have d2 := B2.out.c2
  clear hw g2 hk o mj
  go_wp2_with (at_delete; refine wpList_delete_own _ rfl _ _ 57 3 rfl 72 LE.law3 Tryz.underlying57 jbE B.ob kk D rfl OW.out _ _ rfl K.out ?_; intro w3 o3 t3; have B3 := Lib.hid (B2.out.withO (J' := gon J i) ⟨_, kk, MJ.out.1, o3, by have := MJ.out.2.del HI.out.2.1 HI.out.2.2.1; rw [HI.out.2.2.2] at this; exact this⟩ (LE.turned_frm t3)); clear o3 t3 d2; have d0 := B3.out.1.c0)
  refine (U.out _ B3.out.1).mono ?_
  rintro _ w4 ⟨b, rfl, v', b4, s4⟩
  have R4 := Lib.hid (And.intro b4 (((Stp.of B v G2.out).trans B3.out.2).trans s4))
  have d1 := b4.c1
  have OF := Lib.hid (LE.of_is b4.tb i HI.out.1)
  clear b4 s4 d0
  rcases hj : LE.byJ G i with _ | g
  · rw [hj] at OF
    simp only [Option.getD_none, Option.isSome_none] at OF
    unfold LE.g0 at OF
    have HL := Lib.hid (show lg G i = G by unfold lg; rw [hj])
    clear hj
    go_wp2_with fail
    refine OF.out.mono ?_
    rintro _ _ ⟨rfl, rfl⟩
    go_wp2_with fail
    go_ret
    exact ⟨rfl, v', by rw [HL.out]; exact R4.out.1, R4.out.2⟩
  · rw [hj] at OF
    simp only [Option.getD_some, Option.isSome_some] at OF
    have HL := Lib.hid (show lg G i = LE.off [g] G by unfold lg; rw [hj])
    have hg := (LE.byJ_some hj).1
    have DR := Lib.hid (LE.drop_yes R4.out.1.tb g.n (Ids.wn R4.out.1.tb.ok hg) (LE.byN_of R4.out.1.tb.ok hg))
    clear hj hg
    go_wp2_with fail
    refine OF.out.mono ?_
    rintro _ _ ⟨rfl, rfl⟩
    go_wp2_with fail
    refine DR.out.mono ?_
    rintro _ w5 ⟨rfl, t5, f5⟩
    have R5 := Lib.hid (R4.out.1.withT t5 f5)
    clear t5 f5 d1
    go_wp2_with fail
    go_ret
    exact ⟨rfl, v', by rw [HL.out]; exact R5.out.1, R4.out.2.trans R5.out.2⟩
end Go.Proofs.YtlopijcpnfkcgaaGreat
