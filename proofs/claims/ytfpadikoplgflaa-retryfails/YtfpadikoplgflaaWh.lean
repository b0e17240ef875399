/- The contract of the law's wakes at this program. -/
import Derived.Test.YtfpadikoplgflaaWg
namespace Go.Proofs.Ytfpadikoplgflaa
open Go.RowKit
set_option linter.unusedSimpArgs false

theorem laid {w : World} {x : World} (l : List Int) (T : TypeId) (h : x = w.alloc (.cells (ci l).toArray T)) : Lies x (some ⟨w.heap.size, 0, none⟩) (ci l) := by
  subst h
  refine Or.inr ⟨w.heap.size, 0, rfl, by rw [size_new]; omega, fun j u hj => ?_⟩
  simp only [Nat.zero_add]
  simp [go_sem, hj]
theorem run_laid (n s u : Int) (l : List Int) (m : Nat) (a b e : Int) (o : Nat) (hm : l.length = m) (hb : l.length ≤ 1000000) (hr : rn n s u l = (a, b, o)) (he : (o : Int) = e) (w x : World) (p : Nat) (hp : w.heap.size = p) (hx : x = w.alloc (.cells (ci l).toArray 3)) :
    Calls Try.prog 15 #[.int .i64 n, .agg #[.int .i64 s, .int .i64 u], .slice (some ⟨p, 0, none⟩) m m] x fun e' w' => e' = .returned (.tuple #[.agg #[.int .i64 a, .int .i64 b], .int .i64 e]) ∧ Grw x w' := by
  subst hp he
  exact run_is n s u _ m m l a b o x (laid l 3 hx) hm hb hr
set_option maxHeartbeats 2000000 in
set_option maxRecDepth 100000 in
theorem wakes_any (w : World) : Calls Try.prog 14 #[] w fun e w' => e = .returned (.bool true) ∧ Grw w w' := by
  have R1 := Lib.hid (run_laid 1 1 0 [1, 3, 4, 1, 3] 5 5 2 0 0 rfl (by decide) (by decide) rfl)
  have R2 := Lib.hid (run_laid 1 1 0 [2, 1, 2] 3 4 1 1 1 rfl (by decide) (by decide) rfl)
  have L := Lib.hid (fun w => left_is 1 1 0 5 w (by decide))
  have T0 := Lib.hid (Two.new w (.int .i64 1) (.int .i64 0) 23)
  have G0 := Lib.hid ((Grw.rfl' w).alloc (.cells #[.int .i64 1, .int .i64 0] 23))
  obtain ⟨b, hb⟩ : ∃ b, w.heap.size = b := ⟨_, rfl⟩
  have HB : Hid (b < (w.alloc (.cells #[.int .i64 1, .int .i64 0] 23)).heap.size) := (by rw [size_new]; omega : b < (w.alloc (.cells #[.int .i64 1, .int .i64 0] 23)).heap.size)
  rw [hb] at T0
  go_enter Try.func14, Try.ntmps14
  go_wp2_with fail
  refine (R1.out _ _ _ (by simp [go_sem, hb]) rfl).mono ?_
  rintro _ w1 ⟨rfl, hw⟩
  have hw := hw.two
  have T1 := Lib.hid (T0.out.later hw HB.out)
  have G1 := Lib.hid (G0.out.trans hw)
  have HB1 := Lib.hid (Nat.lt_of_lt_of_le HB.out (Below.size hw))
  clear hw hb
  have T2 := Lib.hid (fun o => T1.out.later ((Grw.rfl' w1).alloc o) HB1.out)
  have c0 : ∀ o, (w1.alloc o).cell? ⟨b, 0, none⟩ = some (.int .i64 1) := fun o => (T2.out o).c0
  have c1 : ∀ o, (w1.alloc o).cell? ⟨b, 1, none⟩ = some (.int .i64 0) := fun o => (T2.out o).c1
  obtain ⟨d, hd⟩ : ∃ d, w1.heap.size = d := ⟨_, rfl⟩
  have U0 : Hid (Two (w1.alloc (.cells #[.int .i64 5, .int .i64 2] 23)) d (.int .i64 5) (.int .i64 2)) := (by rw [← hd]; exact Two.new _ _ _ _ : Two (w1.alloc (.cells #[.int .i64 5, .int .i64 2] 23)) d (.int .i64 5) (.int .i64 2))
  have HD : Hid (d < (w1.alloc (.cells #[.int .i64 5, .int .i64 2] 23)).heap.size) := (by rw [size_new]; omega : d < (w1.alloc (.cells #[.int .i64 5, .int .i64 2] 23)).heap.size)
  go_wp2_with fail
  refine (R2.out _ _ _ (by simp [go_sem, hd]) rfl).mono ?_
  rintro _ w2 ⟨rfl, hw⟩
  have hw := hw.two
  have T3 := Lib.hid ((T2.out _).later hw (by have := HB1.out; simp [go_sem]; omega))
  have U1 := Lib.hid (U0.out.later hw HD.out)
  have G2 := Lib.hid ((G1.out.alloc _).trans hw)
  have HD1 := Lib.hid (Nat.lt_of_lt_of_le HD.out (Below.size hw))
  have HB2 := Lib.hid (Nat.lt_of_lt_of_le (Nat.lt_of_lt_of_le HB1.out (by simp [go_sem])) (Below.size hw))
  clear hw hd c0 c1
  have T4 := Lib.hid (fun o => T3.out.later ((Grw.rfl' w2).alloc o) HB2.out)
  have U2 := Lib.hid (fun o => U1.out.later ((Grw.rfl' w2).alloc o) HD1.out)
  have c0 : ∀ o, (w2.alloc o).cell? ⟨b, 0, none⟩ = some (.int .i64 1) := fun o => (T4.out o).c0
  have c1 : ∀ o, (w2.alloc o).cell? ⟨b, 1, none⟩ = some (.int .i64 0) := fun o => (T4.out o).c1
  have d0 : ∀ o, (w2.alloc o).cell? ⟨d, 0, none⟩ = some (.int .i64 5) := fun o => (U2.out o).c0
  have d1 : ∀ o, (w2.alloc o).cell? ⟨d, 1, none⟩ = some (.int .i64 2) := fun o => (U2.out o).c1
  go_wp2_with fail
  refine (L.out _).mono ?_
  rintro _ w3 ⟨rfl, hw⟩
  have G3 := Lib.hid ((G2.out.alloc _).trans hw)
  clear hw c0 c1 d0 d1
  go_wp2_with fail
  go_ret
  exact ⟨rfl, G3.out⟩
end Go.Proofs.Ytfpadikoplgflaa
