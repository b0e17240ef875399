/- The contracts of jobs.end, Answer, Fail at this program. -/
import Derived.Test.YtlopijcpnfkcgaaJe
namespace Go.Proofs.Ytlopijcpnfkcgaa
open Go.RowKit
open Go.Maps (Keyed IsMap Tidy)
set_option linter.unusedSimpArgs false
variable {w x : World} {B : BB} {a room n count : Int} {v : Value} {last sz : Nat} {L : List QQ.Wt} {G : List LE.Gr} {J : List Jb}
theorem BK.drew (h : BK w B a room n count v last sz L G J) : BK w.drew B a room n count v last sz L G J := h.later ((Grw.rfl' w).drew)
theorem Stp.drew {v' : Value} (h : Stp B v v' w x) : Stp B v v' w x.drew := h.trans (Stp.of B v' ((Grw.rfl' x).drew))
/-- what jobs.end tells. -/
def ev (j s u e : Int) : Value := .tuple #[.int .i64 j, .agg #[.int .i64 s, .int .i64 u], .int .i64 e]
set_option maxHeartbeats 1000000 in
set_option maxRecDepth 100000 in
theorem end_nil (i k : Int) (w : World) : Calls Try.prog 28 #[.pointer none, .int .i64 i, .int .i64 k] w fun e w' => e = .returned (ev 0 0 0 1) ∧ Grw w w' := by
  go_enter Try.func28, Try.ntmps28
  go_wp2_with fail
  exact bodyPost_ret (v := ev 0 0 0 1) (by simp [results, Try.results28, go_sem, ev]) rfl ⟨rfl, (Grw.rfl' w).alloc _⟩
set_option maxHeartbeats 1000000 in
set_option maxRecDepth 100000 in
theorem end_no (h : BK w B a room n count v last sz L G J) {i : Int} (k : Int) (hi : LE.Wi i) (hb : LE.byN G i = none) :
    Calls Try.prog 28 #[.pointer (some ⟨B.p, 0, none⟩), .int .i64 i, .int .i64 k] w fun e w' => e = .returned (ev 0 0 0 13) ∧ Grw w w' := by
  have ga := (Grw.rfl' w).alloc (.cells #[.int .i64 0, .int .i64 0] 48)
  have GA := Lib.hid ga
  have c1 : ∀ o, (w.alloc o).cell? ⟨B.p, 1, none⟩ = some (.pointer (some ⟨B.t, 0, none⟩)) := fun o => ((Grw.rfl' w).alloc o).cell h.c1
  have C := Lib.hid (LE.drop_no (h.later ga).tb i hi hb)
  have S := Lib.hid (Two.new w (.int .i64 0) (.int .i64 0) 48)
  clear h hi hb ga
  go_enter Try.func28, Try.ntmps28
  go_wp2_with fail
  refine C.out.mono ?_
  rintro _ w1 ⟨rfl, hw⟩
  have G1 := Lib.hid (GA.out.trans hw)
  obtain ⟨z0, z1, k0, k1⟩ := S.out.later hw (by rw [size_new]; omega)
  clear hw c1
  go_wp2_with fail
  exact bodyPost_ret (v := ev 0 0 0 13) (by simp [results, Try.results28, go_sem, ev, z0, z1]) rfl ⟨rfl, by repeat (first | with_reducible exact G1.out | with_reducible refine Grw.set ?_ (Nat.le_refl _) _)⟩
set_option maxHeartbeats 2000000 in
set_option maxRecDepth 100000 in
theorem end_yes (h : BK w B a room n count v last sz L G J) {i k : Int} (hi : LE.Wi i) {g : LE.Gr} (hb : LE.byN G i = some g) {s u : Int} {sz' : Nat} {J' : List Jb}
    (A : ∀ w1, BK w1 B a room n count v last sz L (LE.off [g] G) J → Calls Try.prog 26 #[.pointer (some ⟨B.p, 0, none⟩), .int .i64 g.j, .int .i64 k] w1 fun e w' => e = .returned (RE.tv s u true) ∧ BK w' B a room n count v last sz' L (LE.off [g] G) J' ∧ Stp B v v w1 w') :
    Calls Try.prog 28 #[.pointer (some ⟨B.p, 0, none⟩), .int .i64 i, .int .i64 k] w fun e w' => e = .returned (ev g.j s u 0) ∧ BK w' B a room n count v last sz' L (LE.off [g] G) J' ∧ Stp B v v w w' := by
  have ga := (Grw.rfl' w).alloc (.cells #[.int .i64 0, .int .i64 0] 48)
  have GA := Lib.hid ga
  have c1 : ∀ o, (w.alloc o).cell? ⟨B.p, 1, none⟩ = some (.pointer (some ⟨B.t, 0, none⟩)) := fun o => ((Grw.rfl' w).alloc o).cell h.c1
  have H0 := Lib.hid (h.later ga)
  have C := Lib.hid (LE.drop_yes H0.out.tb i hi hb)
  have S := Lib.hid (Two.new w (.int .i64 0) (.int .i64 0) 48)
  have NB : Hid (¬ bf B v w.heap.size) := (fun e => Nat.lt_irrefl _ (h.lt _ e) : ¬ bf B v w.heap.size)
  have HA := Lib.hid A
  obtain ⟨gn, gj, gu⟩ := g
  simp only at C HA
  clear h hi hb ga A
  go_enter Try.func28, Try.ntmps28
  go_wp2_with fail
  refine C.out.mono ?_
  rintro _ w1 ⟨rfl, t1, f1⟩
  have R1 := Lib.hid (H0.out.withT t1 f1)
  have ST := Lib.hid (HA.out w1 R1.out.1)
  clear t1 f1 c1
  go_wp2_with fail
  refine ST.out.mono ?_
  rintro _ w2 ⟨rfl, b2, s2⟩
  have R2 := Lib.hid (And.intro b2 (R1.out.2.trans s2))
  have s' := S.out.frm R2.out.2.f NB.out
  have hlt : w.heap.size < w2.heap.size := by have h1 := R2.out.2.f.size; rw [size_new] at h1; omega
  obtain ⟨w3, hw3⟩ : ∃ w3, w2.alloc (.cells #[.int .i64 s, .int .i64 u] 48) = w3 := ⟨_, rfl⟩
  have g3 : Grw w2 w3 := by rw [← hw3]; exact (Grw.rfl' w2).alloc _
  obtain ⟨z0, z1, k0, k1⟩ := s'.later g3 hlt
  have y0 : w3.cell? ⟨w2.heap.size, 0, none⟩ = some (.int .i64 s) := by rw [← hw3]; simp [go_sem]
  have y1 : w3.cell? ⟨w2.heap.size, 1, none⟩ = some (.int .i64 u) := by rw [← hw3]; simp [go_sem]
  have R3 := Lib.hid (And.intro (R2.out.1.later g3) (((Stp.of B v GA.out).trans R2.out.2).trans (Stp.of B v g3)))
  clear b2 s2 s' hlt g3
  unfold RE.tv
  go_wp2_with fail
  go_region
  go_wp2_with fail
  exact bodyPost_ret (v := ev gj s u 0) (by simp [results, Try.results28, go_sem, ev, z0, z1]) rfl ⟨rfl, by repeat (first | with_reducible exact R3.out.1 | with_reducible refine BK.drew ?_ | with_reducible refine BK.off ?_ NB.out _ _), by repeat (first | with_reducible exact R3.out.2 | with_reducible refine Stp.drew ?_ | with_reducible refine Stp.set ?_ (Nat.le_refl _) _ _)⟩
set_option maxHeartbeats 1000000 in
set_option maxRecDepth 100000 in
theorem answer_of (P : World → Prop) (p : Option Addr) (i j s u e : Int) (A : Calls Try.prog 28 #[.pointer p, .int .i64 i, .int .i64 2] w fun r w' => r = .returned (ev j s u e) ∧ P w') (hP : ∀ y o, P y → P (y.alloc o)) :
    Calls Try.prog 11 #[.pointer p, .int .i64 i] w fun r w' => r = .returned (.tuple #[.int .i64 j, .int .i64 e]) ∧ P w' := by
  have C := Lib.hid A
  have HP := Lib.hid hP
  clear A hP
  go_enter Try.func11, Try.ntmps11
  go_wp2_with fail
  refine C.out.mono ?_
  rintro _ w1 ⟨rfl, h1⟩
  have P1 := Lib.hid h1
  clear h1
  unfold ev
  go_wp2_with fail
  go_ret2
  exact ⟨rfl, HP.out _ _ P1.out⟩
set_option maxHeartbeats 1000000 in
set_option maxRecDepth 100000 in
theorem fail_of (P : World → Prop) (p : Option Addr) (i j s u e : Int) (A : Calls Try.prog 28 #[.pointer p, .int .i64 i, .int .i64 3] w fun r w' => r = .returned (ev j s u e) ∧ P w') (hP : ∀ y o, P y → P (y.alloc o).drew) :
    Calls Try.prog 12 #[.pointer p, .int .i64 i] w fun r w' => r = .returned (.tuple #[.int .i64 j, .bool (s == 5), .int .i64 e]) ∧ P w' := by
  have C := Lib.hid A
  have HP := Lib.hid hP
  clear A hP
  go_enter Try.func12, Try.ntmps12
  go_wp2_with fail
  refine C.out.mono ?_
  rintro _ w1 ⟨rfl, h1⟩
  have P1 := Lib.hid h1
  clear h1
  unfold ev
  go_wp2_with fail
  go_region
  go_wp2_with fail
  exact bodyPost_ret (v := .tuple #[.int .i64 j, .bool (s == 5), .int .i64 e]) (by simp [results, Try.results12, go_sem]) rfl ⟨rfl, HP.out _ _ P1.out⟩
end Go.Proofs.Ytlopijcpnfkcgaa
