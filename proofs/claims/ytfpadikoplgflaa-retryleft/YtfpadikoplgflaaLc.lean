/- The law RetryLeft, walked. -/
import Derived.Test.YtfpadikoplgflaaWh
namespace Go.Proofs.Ytfpadikoplgflaa
open Go.RowKit
set_option linter.unusedSimpArgs false

/-- the most of what the happenings from -1 on leave. -/
def my (n s u : Int) : Nat → Int
  | 0 => 0
  | j + 1 => max (my n s u j) (pot n s u ((j : Int) - 1))
theorem my_range (n s u : Int) (j : Nat) : 0 ≤ my n s u j ∧ my n s u j ≤ 40 := by
  induction j with
  | zero => simp [my]
  | succ j ih =>
    have h1 := pot_le n s u ((j : Int) - 1)
    have h2 := (lf_range n s u).2
    simp only [my]
    omega
theorem my_all (n s u : Int) : my n s u 8 = lf n s u := by
  have h := mx_four n s u
  have e : mx n s u 4 = max (max (max (max 0 (pot n s u 1)) (pot n s u 2)) (pot n s u 3)) (pot n s u 4) := by simp [mx]
  have p0 : pot n s u (-1) = 0 := pot_none (by omega)
  have p1 : pot n s u 0 = 0 := pot_none (by omega)
  have p5 : pot n s u 5 = 0 := pot_none (by omega)
  have p6 : pot n s u 6 = 0 := pot_none (by omega)
  have e2 : my n s u 8 = max (max (max (max (max (max (max (max 0 (pot n s u (-1))) (pot n s u 0)) (pot n s u 1)) (pot n s u 2)) (pot n s u 3)) (pot n s u 4)) (pot n s u 5)) (pot n s u 6) := by simp [my]
  rw [e2, p0, p1, p5, p6, ← h, e]
  omega
theorem my_no {n s u : Int} {j : Nat} (h : (st n s u ((j : Int) - 1)).2.2 = false) : my n s u (j + 1) = my n s u j := by
  have := (my_range n s u j).1
  simp only [my, pot, h]
  simp
  omega
theorem my_yes {n s u : Int} {j : Nat} (h : (st n s u ((j : Int) - 1)).2.2 = true) : my n s u (j + 1) = max (my n s u j) (1 + lf n (st n s u ((j : Int) - 1)).1 (st n s u ((j : Int) - 1)).2.1) := by
  simp only [my, pot, h]
  simp

set_option maxHeartbeats 4000000 in
set_option maxRecDepth 100000 in
theorem left_walk (n s u : Int) (w : World) :
    Calls Try.prog 6 #[.int .i64 n, .agg #[.int .i64 s, .int .i64 u]] w fun e w' => e = .returned (.bool true) ∧ Grw w w' := by
  have WK := Lib.hid wakes_any
  obtain ⟨f, hf⟩ : ∃ f, lf n s u = f := ⟨_, rfl⟩
  have C := Lib.hid (fun w => left_is n s u f w hf)
  have HF := Lib.hid hf
  have HR := Lib.hid (show 0 ≤ f ∧ f ≤ 40 from hf ▸ lf_range n s u)
  have T1 := Lib.hid (Two.new w (.int .i64 s) (.int .i64 u) 23)
  have GG := Lib.hid ((Grw.rfl' w).alloc (.cells #[.int .i64 s, .int .i64 u] 23))
  clear hf
  go_enter Try.func6, Try.ntmps6
  go_wp2_with fail
  refine (C.out _).mono ?_
  rintro _ w1 ⟨rfl, hw⟩
  have G := Lib.hid (GG.out.trans hw)
  have u1 := Lib.hid (T1.out.later hw (by simp [go_sem]))
  have BL := Lib.hid (show w.heap.size < w1.heap.size by have := Below.size hw; simp [go_sem] at this; omega)
  obtain ⟨b, hb⟩ : ∃ b, w.heap.size = b := ⟨_, rfl⟩
  rw [hb] at u1 BL
  clear hw
  go_wp2_with fail
  clear hb
  go_loopw [6, 7, 8] (fun x z y wr => ∃ j : Nat, j ≤ 8 ∧ x = .int .i64 (my n s u j) ∧ z = .bool (decide (0 < my n s u j)) ∧ y = .int .i64 ((j : Int) - 1) ∧ Two wr b (.int .i64 s) (.int .i64 u) ∧ b < wr.heap.size ∧ Grw w wr) (fun _ _ y _ => (7 - intOf y).toNat)
  case atStart => exact ⟨0, by omega, rfl, rfl, rfl, u1.out, BL.out, G.out⟩
  case round =>
    obtain ⟨j, hj, rfl, rfl, rfl, ht, hbl, hg⟩ := hrel
    by_cases hj8 : j < 8
    · have hd : decide ((j : Int) - 1 < 7) = true := by simp; omega
      have hq : IntKind.i64.wrap ((j : Int) - 1 + 1) = ((j + 1 : Nat) : Int) - 1 := by simp [IntKind.wrap_i64]; omega
      obtain ⟨p, hp⟩ : ∃ p, st n s u ((j : Int) - 1) = p := ⟨_, rfl⟩
      obtain ⟨a, b', c⟩ := p
      have S := Lib.hid (fun w => step_is n s u ((j : Int) - 1) a b' c w hp)
      have HP := Lib.hid hp
      have c0 := ht.c0
      have c1 := ht.c1
      have TT := Lib.hid (And.intro ht (And.intro hbl hg))
      obtain ⟨k, hk⟩ : ∃ k, (j : Int) - 1 = k := ⟨_, rfl⟩
      rw [hk] at S hd hq
      rw [hk]
      obtain ⟨y, hy⟩ : ∃ y, my n s u j = y := ⟨_, rfl⟩
      rw [hy]
      have HY := Lib.hid hy
      have HK := Lib.hid hk
      obtain ⟨d, hdd⟩ : ∃ d, decide (0 < y) = d := ⟨_, rfl⟩
      rw [hdd]
      have HD := Lib.hid hdd
      clear hp ht hbl hg hy hk hdd
      cases c with
      | false =>
        go_wp2_with fail
        refine (S.out _).mono ?_
        rintro _ w2 ⟨rfl, hw⟩
        have HW := Lib.hid hw
        clear hw c0 c1
        unfold tv
        go_wp2_with fail
        go_roundw
        case rel => exact ⟨j + 1, by omega, by rw [my_no (by rw [HP.out]), HY.out], by rw [my_no (by rw [HP.out]), HY.out, HD.out], by first | rfl | go_num, (TT.out.1.later HW.out TT.out.2.1).later ((Grw.rfl' _).alloc _) (Nat.lt_of_lt_of_le TT.out.2.1 (Below.size HW.out)), by have := Below.size HW.out; have := TT.out.2.1; simp [go_sem]; omega, (TT.out.2.2.trans HW.out).alloc _⟩
        case measure => have := HK.out; simp [intOf]; omega
      | true =>
        obtain ⟨z, hz⟩ : ∃ z, lf n a b' = z := ⟨_, rfl⟩
        have hst : (st n s u ((j : Int) - 1)).2.2 = true := by rw [HP.out]
        have hlt := lf_less hst
        rw [HP.out] at hlt
        simp only at hlt
        rw [hz, HF.out] at hlt
        have hz0 := lf_range n a b'
        rw [hz] at hz0
        have R := Lib.hid (fun w => left_is n a b' z w hz)
        obtain ⟨x, hx⟩ : ∃ x, z + 1 = x := ⟨_, rfl⟩
        have hq1 : IntKind.i64.wrap (z + 1) = x := by rw [← hx]; simp [IntKind.wrap_i64]; omega
        have d1 : decide (z < 0) = false := by simp; omega
        have d2 : decide (z ≥ f) = false := by simp; omega
        have HM : Hid (my n s u (j + 1) = max y x) := (by rw [my_yes hst, HP.out, HY.out, ← hx, ← hz]; simp only; omega : my n s u (j + 1) = max y x)
        have HX := Lib.hid (show 0 < x by omega)
        clear hst hlt hz0 hz hx
        go_wp2_with fail
        refine (S.out _).mono ?_
        rintro _ w2 ⟨rfl, hw⟩
        have HW := Lib.hid hw
        clear hw c0 c1
        unfold tv
        go_wp2_with fail
        refine (R.out _).mono ?_
        rintro _ w3 ⟨rfl, hw⟩
        have HX' := Lib.hid hw
        clear hw
        go_wp2_with fail
        go_roundw
        case rel => exact ⟨j + 1, by omega, by rw [HM.out]; congr 1; split <;> omega, by rw [HM.out]; congr 1; have := HX.out; simp; omega, by first | rfl | go_num, ((TT.out.1.later HW.out TT.out.2.1).later ((Grw.rfl' _).alloc _) (Nat.lt_of_lt_of_le TT.out.2.1 (Below.size HW.out))).later HX'.out (by have := Below.size HW.out; have := TT.out.2.1; simp [go_sem]; omega), by have := Below.size HW.out; have := Below.size HX'.out; have := TT.out.2.1; simp [go_sem] at *; omega, ((TT.out.2.2.trans HW.out).alloc _).trans HX'.out⟩
        case measure => have := HK.out; simp [intOf]; omega
    · obtain rfl : j = 8 := by omega
      have e : my n s u 8 = f := by rw [my_all]; exact HF.out
      rw [e]
      have GX := Lib.hid hg
      have e1 : (decide (0 < f) == decide (f > 0)) = true := by simp
      have e2 : (f == f) = true := by simp
      clear ht hbl hg e
      go_wp2_with fail
      refine (WK.out _).mono ?_
      rintro _ w2 ⟨rfl, hw⟩
      have G2 := Lib.hid (GX.out.trans hw)
      clear hw
      go_wp2_with fail
      go_ret
      exact ⟨rfl, G2.out⟩
end Go.Proofs.Ytfpadikoplgflaa
