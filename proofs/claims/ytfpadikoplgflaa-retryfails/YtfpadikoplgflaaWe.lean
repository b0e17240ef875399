/- The contracts of retry.Left and of the document's Left at this program. -/
import Derived.Test.YtfpadikoplgflaaWd
namespace Go.Proofs.Ytfpadikoplgflaa
open Go.RowKit
set_option linter.unusedSimpArgs false

set_option maxHeartbeats 2000000 in
set_option maxRecDepth 100000 in
theorem left_w (n u r m1 m2 : Int) (w : World) (h : gd n 1 u = true) (q1 : IntKind.i64.wrap (n - u) = m1) (q2 : IntKind.i64.wrap (3 * m1) = m2) (q3 : IntKind.i64.wrap (m2 + 2) = r) :
    Calls Try.prog 12 #[.int .i64 n, .agg #[.int .i64 1, .int .i64 u]] w fun e w' => e = .returned (.int .i64 r) ∧ Grw w w' := by
  have C := Lib.hid (fun w => good_is n 1 u true w h)
  have T1 := Lib.hid (Two.new w (.int .i64 1) (.int .i64 u) 23)
  have GG := Lib.hid ((Grw.rfl' w).alloc (.cells #[.int .i64 1, .int .i64 u] 23))
  clear h
  go_enter Try.func12, Try.ntmps12
  go_wp2_with fail
  refine (C.out _).mono ?_
  rintro _ w1 ⟨rfl, hw⟩
  have G := Lib.hid (GG.out.trans hw)
  have u1 := T1.out.later hw (by simp [go_sem])
  have c0 := u1.c0
  have c1 := u1.c1
  clear hw u1
  go_wp2_with fail
  go_ret
  exact ⟨rfl, G.out⟩
set_option maxHeartbeats 2000000 in
set_option maxRecDepth 100000 in
theorem left_l (n u r m0 m1 m2 : Int) (w : World) (h : gd n 2 u = true) (q0 : IntKind.i64.wrap (n + 1) = m0) (q1 : IntKind.i64.wrap (m0 - u) = m1) (q2 : IntKind.i64.wrap (3 * m1) = m2) (q3 : IntKind.i64.wrap (m2 + 1) = r) :
    Calls Try.prog 12 #[.int .i64 n, .agg #[.int .i64 2, .int .i64 u]] w fun e w' => e = .returned (.int .i64 r) ∧ Grw w w' := by
  have C := Lib.hid (fun w => good_is n 2 u true w h)
  have T1 := Lib.hid (Two.new w (.int .i64 2) (.int .i64 u) 23)
  have GG := Lib.hid ((Grw.rfl' w).alloc (.cells #[.int .i64 2, .int .i64 u] 23))
  clear h
  go_enter Try.func12, Try.ntmps12
  go_wp2_with fail
  refine (C.out _).mono ?_
  rintro _ w1 ⟨rfl, hw⟩
  have G := Lib.hid (GG.out.trans hw)
  have u1 := T1.out.later hw (by simp [go_sem])
  have c0 := u1.c0
  have c1 := u1.c1
  clear hw u1
  go_wp2_with fail
  go_ret
  exact ⟨rfl, G.out⟩
set_option maxHeartbeats 2000000 in
set_option maxRecDepth 100000 in
theorem left_r (n u r m : Int) (w : World) (h : gd n 3 u = true) (A : ∀ w, Calls Try.prog 12 #[.int .i64 n, .agg #[.int .i64 1, .int .i64 u]] w fun e w' => e = .returned (.int .i64 m) ∧ Grw w w') (q3 : IntKind.i64.wrap (m + 1) = r) :
    Calls Try.prog 12 #[.int .i64 n, .agg #[.int .i64 3, .int .i64 u]] w fun e w' => e = .returned (.int .i64 r) ∧ Grw w w' := by
  have C := Lib.hid (fun w => good_is n 3 u true w h)
  have A := Lib.hid A
  have T1 := Lib.hid (Two.new w (.int .i64 3) (.int .i64 u) 23)
  have GG := Lib.hid ((Grw.rfl' w).alloc (.cells #[.int .i64 3, .int .i64 u] 23))
  clear h
  go_enter Try.func12, Try.ntmps12
  go_wp2_with fail
  refine (C.out _).mono ?_
  rintro _ w1 ⟨rfl, hw⟩
  have G := Lib.hid (GG.out.trans hw)
  have u1 := T1.out.later hw (by simp [go_sem])
  have c0 := u1.c0
  have c1 := u1.c1
  clear hw u1
  go_wp2_with fail
  refine (A.out _).mono ?_
  rintro _ w2 ⟨rfl, hw⟩
  have G2 := Lib.hid (G.out.trans hw)
  clear hw c0 c1
  go_wp2_with fail
  go_ret
  exact ⟨rfl, G2.out⟩
set_option maxHeartbeats 2000000 in
set_option maxRecDepth 100000 in
theorem left_b (n s u : Int) (w : World) (h : gd n s u = false) :
    Calls Try.prog 12 #[.int .i64 n, .agg #[.int .i64 s, .int .i64 u]] w fun e w' => e = .returned (.int .i64 0) ∧ Grw w w' := by
  have C := Lib.hid (fun w => good_is n s u false w h)
  have GG := Lib.hid ((Grw.rfl' w).alloc (.cells #[.int .i64 s, .int .i64 u] 23))
  clear h
  go_enter Try.func12, Try.ntmps12
  go_wp2_with fail
  refine (C.out _).mono ?_
  rintro _ w1 ⟨rfl, hw⟩
  have G := Lib.hid (GG.out.trans hw)
  clear hw
  go_wp2_with fail
  go_ret
  exact ⟨rfl, G.out⟩
set_option maxHeartbeats 2000000 in
set_option maxRecDepth 100000 in
theorem left_o (n s u : Int) (w : World) (h : gd n s u = true) (h1 : (s == 1) = false) (h2 : (s == 2) = false) (h3 : (s == 3) = false) :
    Calls Try.prog 12 #[.int .i64 n, .agg #[.int .i64 s, .int .i64 u]] w fun e w' => e = .returned (.int .i64 0) ∧ Grw w w' := by
  have C := Lib.hid (fun w => good_is n s u true w h)
  have T1 := Lib.hid (Two.new w (.int .i64 s) (.int .i64 u) 23)
  have GG := Lib.hid ((Grw.rfl' w).alloc (.cells #[.int .i64 s, .int .i64 u] 23))
  clear h
  go_enter Try.func12, Try.ntmps12
  go_wp2_with fail
  refine (C.out _).mono ?_
  rintro _ w1 ⟨rfl, hw⟩
  have G := Lib.hid (GG.out.trans hw)
  have u1 := T1.out.later hw (by simp [go_sem])
  have c0 := u1.c0
  have c1 := u1.c1
  clear hw u1
  go_wp2_with fail
  go_ret
  exact ⟨rfl, G.out⟩
theorem left_is (n s u r : Int) (w : World) (h : lf n s u = r) :
    Calls Try.prog 12 #[.int .i64 n, .agg #[.int .i64 s, .int .i64 u]] w fun e w' => e = .returned (.int .i64 r) ∧ Grw w w' := by
  have W : ∀ x : Int, -100 ≤ x → x ≤ 100 → IntKind.i64.wrap x = x := fun x h1 h2 => by simp [IntKind.wrap_i64]; omega
  cases hg : gd n s u with
  | false =>
    rw [lf_bad hg] at h
    subst h
    exact left_b n s u w hg
  | true =>
    have hr := gd_t.1 hg
    have one : ∀ v w, gd n 1 v = true → Calls Try.prog 12 #[.int .i64 n, .agg #[.int .i64 1, .int .i64 v]] w fun e w' => e = .returned (.int .i64 (3 * (n - v) + 2)) ∧ Grw w w' := fun v w hv => by
      have hz := gd_t.1 hv
      exact left_w n v _ (n - v) (3 * (n - v)) w hv (W _ (by omega) (by omega)) (W _ (by omega) (by omega)) (W _ (by omega) (by omega))
    rw [lf_of hg] at h
    by_cases s1 : s = 1
    · subst s1
      simp only [if_true] at h
      subst h
      exact one u w hg
    by_cases s2 : s = 2
    · subst s2
      simp only [if_true] at h
      rw [if_neg (by decide)] at h
      subst h
      exact left_l n u _ (n + 1) (n + 1 - u) (3 * (n + 1 - u)) w hg (W _ (by omega) (by omega)) (W _ (by omega) (by omega)) (W _ (by omega) (by omega)) (W _ (by omega) (by omega))
    by_cases s3 : s = 3
    · subst s3
      simp only [if_true] at h
      rw [if_neg (by decide), if_neg (by decide)] at h
      subst h
      refine left_r n u _ (3 * (n - u) + 2) w hg (fun w => one u w (by rw [gd_t]; omega)) ?_
      rw [W _ (by omega) (by omega)]
      omega
    rw [if_neg s1, if_neg s2, if_neg s3] at h
    subst h
    exact left_o n s u w hg (tst s1) (tst s2) (tst s3)

/-- the most of what the first j happenings leave. -/
def mx (n s u : Int) : Nat → Int
  | 0 => 0
  | j + 1 => max (mx n s u j) (pot n s u ((j : Int) + 1))
theorem mx_range (n s u : Int) (j : Nat) : 0 ≤ mx n s u j ∧ mx n s u j ≤ 40 := by
  induction j with
  | zero => simp [mx]
  | succ j ih =>
    have h1 := pot_le n s u ((j : Int) + 1)
    have h2 := (lf_range n s u).2
    simp only [mx]
    omega
theorem mx_four (n s u : Int) : mx n s u 4 = lf n s u := by
  have h := pot_most n s u
  have h1 : 0 ≤ pot n s u 1 := by
    unfold pot; split
    · have := (lf_range n (st n s u 1).1 (st n s u 1).2.1).1; omega
    · omega
  have e : mx n s u 4 = max (max (max (max 0 (pot n s u 1)) (pot n s u 2)) (pot n s u 3)) (pot n s u 4) := by simp [mx]
  rw [e, ← h]
  omega
theorem mx_no {n s u : Int} {j : Nat} (h : (st n s u ((j : Int) + 1)).2.2 = false) : mx n s u (j + 1) = mx n s u j := by
  have := (mx_range n s u j).1
  simp only [mx, pot, h]
  simp
  omega
theorem mx_yes {n s u : Int} {j : Nat} (h : (st n s u ((j : Int) + 1)).2.2 = true) : mx n s u (j + 1) = max (mx n s u j) (1 + lf n (st n s u ((j : Int) + 1)).1 (st n s u ((j : Int) + 1)).2.1) := by
  simp only [mx, pot, h]
  simp

set_option maxHeartbeats 2000000 in
set_option maxRecDepth 100000 in
theorem rleft_upto (N : Nat) : ∀ (n s u r : Int) (w : World), lf n s u = r → r.toNat ≤ N →
    Calls Try.prog 13 #[.int .i64 n, .agg #[.int .i64 s, .int .i64 u]] w fun e w' => e = .returned (.int .i64 r) ∧ Grw w w' := by
  induction N using Nat.strongRecOn with
  | _ N ih =>
  intro n s u r w h hN
  obtain ⟨g, hg⟩ : ∃ g, gd n s u = g := ⟨_, rfl⟩
  have C := Lib.hid (fun w => rgood_is n s u g w hg)
  have T1 := Lib.hid (Two.new w (.int .i64 s) (.int .i64 u) 23)
  have GG := Lib.hid ((Grw.rfl' w).alloc (.cells #[.int .i64 s, .int .i64 u] 23))
  cases g with
  | false =>
    have HR : Hid (r = 0) := (by rw [← h, lf_bad hg] : r = 0)
    clear h hg ih hN
    go_enter Try.func13, Try.ntmps13
    go_wp2_with fail
    refine (C.out _).mono ?_
    rintro _ w1 ⟨rfl, hw⟩
    have G := Lib.hid (GG.out.trans hw)
    clear hw
    go_wp2_with fail
    go_ret
    exact ⟨by rw [HR.out]; rfl, G.out⟩
  | true =>
    have HL := Lib.hid h
    have HB := Lib.hid hN
    have IH := Lib.hid ih
    clear h hg ih hN
    go_enter Try.func13, Try.ntmps13
    go_wp2_with fail
    refine (C.out _).mono ?_
    rintro _ w1 ⟨rfl, hw⟩
    have G := Lib.hid (GG.out.trans hw)
    have u1 := Lib.hid (T1.out.later hw (by simp [go_sem]))
    have BL := Lib.hid (show w.heap.size < w1.heap.size by have := Below.size hw; simp [go_sem] at this; omega)
    obtain ⟨b, hb⟩ : ∃ b, w.heap.size = b := ⟨_, rfl⟩
    rw [hb] at u1 BL
    clear hw
    go_wp2_with fail
    clear hb
    go_loopw [5, 6] (fun x y wr => ∃ j : Nat, j ≤ 4 ∧ x = .int .i64 (mx n s u j) ∧ y = .int .i64 ((j : Int) + 1) ∧ Two wr b (.int .i64 s) (.int .i64 u) ∧ b < wr.heap.size ∧ Grw w wr) (fun _ y _ => 5 - (intOf y).toNat)
    case atStart => exact ⟨0, by omega, rfl, rfl, u1.out, BL.out, G.out⟩
    case round =>
      obtain ⟨j, hj, rfl, rfl, ht, hbl, hg⟩ := hrel
      by_cases hj4 : j < 4
      · have hd : decide ((j : Int) + 1 ≤ 4) = true := by simp; omega
        have hq : IntKind.i64.wrap ((j : Int) + 1 + 1) = ((j + 1 : Nat) : Int) + 1 := by simp [IntKind.wrap_i64]; omega
        obtain ⟨p, hp⟩ : ∃ p, st n s u ((j : Int) + 1) = p := ⟨_, rfl⟩
        obtain ⟨a, b', c⟩ := p
        have S := Lib.hid (fun w => rstep_is n s u ((j : Int) + 1) a b' c w hp)
        have HP := Lib.hid hp
        have c0 := ht.c0
        have c1 := ht.c1
        have TT := Lib.hid (And.intro ht (And.intro hbl hg))
        obtain ⟨k, hk⟩ : ∃ k, (j : Int) + 1 = k := ⟨_, rfl⟩
        rw [hk] at S hd hq
        rw [hk]
        obtain ⟨y, hy⟩ : ∃ y, mx n s u j = y := ⟨_, rfl⟩
        rw [hy]
        have HY := Lib.hid hy
        have HK := Lib.hid hk
        clear hp ht hbl hg hy hk
        cases c with
        | false =>
          go_wp2_with fail
          refine (S.out _).mono ?_
          rintro _ w2 ⟨rfl, hw⟩
          have HW := Lib.hid hw
          clear hw c0 c1
          unfold rv
          go_wp2_with fail
          go_roundw
          case rel => exact ⟨j + 1, by omega, by rw [mx_no (by rw [HP.out]), HY.out], by first | rfl | go_num, (TT.out.1.later HW.out TT.out.2.1).later ((Grw.rfl' _).alloc _) (Nat.lt_of_lt_of_le TT.out.2.1 (Below.size HW.out)), by have := Below.size HW.out; have := TT.out.2.1; simp [go_sem]; omega, (TT.out.2.2.trans HW.out).alloc _⟩
          case measure => have := HK.out; simp [intOf]; omega
        | true =>
          obtain ⟨z, hz⟩ : ∃ z, lf n a b' = z := ⟨_, rfl⟩
          have hst : (st n s u ((j : Int) + 1)).2.2 = true := by rw [HP.out]
          have hlt := lf_less hst
          rw [HP.out] at hlt
          simp only at hlt
          rw [hz, HL.out] at hlt
          have hz0 := lf_range n a b'
          rw [hz] at hz0
          have R := Lib.hid (fun w => IH.out z.toNat (by have := HB.out; omega) n a b' z w hz (Nat.le_refl _))
          obtain ⟨x, hx⟩ : ∃ x, 1 + z = x := ⟨_, rfl⟩
          have hq1 : IntKind.i64.wrap (1 + z) = x := by rw [← hx]; simp [IntKind.wrap_i64]; omega
          have HM : Hid (mx n s u (j + 1) = max y x) := (by rw [mx_yes hst, HP.out, HY.out, ← hx, ← hz] : mx n s u (j + 1) = max y x)
          clear hst hlt hz0 hz hx
          go_wp2_with fail
          refine (S.out _).mono ?_
          rintro _ w2 ⟨rfl, hw⟩
          have HW := Lib.hid hw
          clear hw c0 c1
          unfold rv
          go_wp2_with fail
          refine (R.out _).mono ?_
          rintro _ w3 ⟨rfl, hw⟩
          have HX := Lib.hid hw
          clear hw
          go_wp2_with fail
          go_roundw
          case rel => exact ⟨j + 1, by omega, by rw [HM.out]; congr 1; split <;> omega, by first | rfl | go_num, ((TT.out.1.later HW.out TT.out.2.1).later ((Grw.rfl' _).alloc _) (Nat.lt_of_lt_of_le TT.out.2.1 (Below.size HW.out))).later HX.out (by have := Below.size HW.out; have := TT.out.2.1; simp [go_sem]; omega), by have := Below.size HW.out; have := Below.size HX.out; have := TT.out.2.1; simp [go_sem] at *; omega, ((TT.out.2.2.trans HW.out).alloc _).trans HX.out⟩
          case measure => have := HK.out; simp [intOf]; omega
      · obtain rfl : j = 4 := by omega
        have e : mx n s u 4 = r := by rw [mx_four]; exact HL.out
        rw [e]
        have G := Lib.hid hg
        clear ht hbl hg e
        go_wp2_with fail
        go_ret
        exact ⟨rfl, G.out⟩
theorem rleft_is (n s u r : Int) (w : World) (h : lf n s u = r) :
    Calls Try.prog 13 #[.int .i64 n, .agg #[.int .i64 s, .int .i64 u]] w fun e w' => e = .returned (.int .i64 r) ∧ Grw w w' :=
  rleft_upto r.toNat n s u r w h (Nat.le_refl _)
end Go.Proofs.Ytfpadikoplgflaa
