/- The law RetryOften, walked. -/
import Derived.Test.YtfpadikoplgflaaWh
namespace Go.Proofs.Ytfpadikoplgflaa
open Go.RowKit
set_option linter.unusedSimpArgs false

set_option maxRecDepth 100000 in
theorem mod_any (n : Int) (m : Nat) (w : World) (h0 : 0 < m) (hm : m ≤ 64) :
    Calls Try.prog 17 #[.int .i64 n, .int .i64 (m : Int)] w fun e w' => e = .returned (.int .i64 (n % (m : Int))) ∧ w = w' := by
  have hr : n.tmod (m : Int) = n % (m : Int) ∨ (n.tmod (m : Int) < 0 ∧ n.tmod (m : Int) + m = n % (m : Int)) := by
    have ha : ∀ k : Nat, 0 < k → ∀ z : Int, z.tmod (k : Int) = z % (k : Int) ∨ (z.tmod (k : Int) < 0 ∧ z.tmod (k : Int) + k = z % (k : Int)) := by
      intro k hk z
      by_cases hz : 0 ≤ z
      · left; exact Int.tmod_eq_emod_of_nonneg hz
      · rw [Int.tmod_eq_emod]
        have hkz : (k : Int) ≠ 0 := by omega
        have h3 := Int.emod_nonneg z hkz
        have h4 := Int.emod_lt_of_pos z (by omega : (0 : Int) < k)
        by_cases hd : (k : Int) ∣ z
        · left
          rw [if_pos (Or.inr hd)]; omega
        · right
          rw [if_neg (by intro h; rcases h with h | h; exact hz h; exact hd h)]
          have : (k : Int).natAbs = k := by simp
          omega
    exact ha m h0 n
  have h3 := Int.emod_nonneg n (show (m : Int) ≠ 0 by omega)
  have h4 := Int.emod_lt_of_pos n (show (0 : Int) < m by omega)
  have hne : ¬ (m : Int) = 0 := by omega
  have hn1 : ¬ (m : Int) = -1 := by omega
  obtain ⟨r, hre⟩ : ∃ r, n.tmod (m : Int) = r := ⟨_, rfl⟩
  obtain ⟨q, hq⟩ : ∃ q, n % (m : Int) = q := ⟨_, rfl⟩
  rw [hq] at hr h3 h4 ⊢
  rw [hre] at hr
  have HQ := Lib.hid hq
  clear hq
  rcases hr with rfl | ⟨hr1, hr2⟩
  · have hlt : decide (r < 0) = false := by simp; omega
    have hge : ¬ r < 0 := by omega
    go_enter Try.func17, Try.ntmps17
    go_wp2_with fail
    go_ret
    exact ⟨rfl, rfl⟩
  · have HR := Lib.hid hr2
    clear h4
    have hw : wrap64 (r + (m : Int)) = r + (m : Int) := by unfold wrap64; omega
    go_enter Try.func17, Try.ntmps17
    go_wp2_with fail
    go_ret
    exact ⟨by rw [← HR.out]; rfl, rfl⟩

set_option maxHeartbeats 4000000 in
set_option maxRecDepth 100000 in
theorem often_walk (t : Nat) (ao : Option Addr) (m cap : Nat) (l : List Int) (w : World) (ht : t < 256) (hl : Lies w ao (ci l)) (hm : l.length = m) :
    Calls Try.prog 5 #[.int .u8 (t : Nat), .slice ao m cap] w fun e w' => e = .returned (.bool true) ∧ Grw w w' := by
  have WK := Lib.hid wakes_any
  obtain ⟨n, hn⟩ : ∃ n : Int, (t : Int) % 10 = n := ⟨_, rfl⟩
  have q1 : IntKind.i64.wrap (t : Int) = t := by simp [IntKind.wrap_i64]; omega
  have hn0 : 0 ≤ n := by omega
  have hn9 : n ≤ 9 := by omega
  obtain ⟨n1, hn1⟩ : ∃ n1, n + 1 = n1 := ⟨_, rfl⟩
  have qn : IntKind.i64.wrap (n + 1) = n1 := by rw [hn1]; simp [IntKind.wrap_i64]; omega
  have HN := Lib.hid (And.intro hn0 (And.intro hn9 hn1))
  have LI := Lib.hid hl
  have HM := Lib.hid hm
  obtain ⟨b, hb⟩ : ∃ b, w.heap.size = b := ⟨_, rfl⟩
  have T0 : Hid (Two (w.alloc (.cells #[.int .i64 1, .int .i64 0] 23)) b (.int .i64 1) (.int .i64 0)) := (by rw [← hb]; exact Two.new _ _ _ _ : Two (w.alloc (.cells #[.int .i64 1, .int .i64 0] 23)) b (.int .i64 1) (.int .i64 0))
  have BW : Hid (b < (w.alloc (.cells #[.int .i64 1, .int .i64 0] 23)).heap.size) := (by rw [size_new]; omega : b < (w.alloc (.cells #[.int .i64 1, .int .i64 0] 23)).heap.size)
  have HB := Lib.hid hb
  have MO := Lib.hid (fun x w => mod_any x 4 w (by decide) (by decide))
  clear hl hm hn1 hn0 hn9
  go_enter Try.func5, Try.ntmps5
  go_wp2_with fail
  rw [hn]
  clear hn hb
  go_loopw [7, 8] (fun x y wr => ∃ (j : Nat) (s u : Int), j ≤ m ∧ j ≤ 100 ∧ gd n s u = true ∧ x = .int .i64 u ∧ y = .int .i64 (j : Nat) ∧ Two wr b (.int .i64 s) (.int .i64 u) ∧ b < wr.heap.size ∧ Grw w wr) (fun _ y _ => 100 - (intOf y).toNat)
  case atStart => exact ⟨0, 1, 0, Nat.zero_le _, Nat.zero_le _, by rw [gd_t]; have := HN.out; omega, rfl, rfl, T0.out, BW.out, (Grw.rfl' _).alloc _⟩
  case round =>
    obtain ⟨j, s, u, hj, hj100, hgd, rfl, rfl, ht1, hbl, hg⟩ := hrel
    have GX := Lib.hid hg
    by_cases hjm : j < m
    · by_cases hjc : j < 100
      · have k1 : decide ((j : Int) < (m : Int)) = true := by simp; omega
        have k2 : decide ((j : Int) < 100) = true := by simp; omega
        have hki : (j : Int) < (m : Int) := by omega
        have hkl : j < l.length := by rw [HM.out]; exact hjm
        obtain ⟨bb, off, rfl, x0⟩ := ilies_at (LI.out.later hg) hkl
        obtain ⟨x, hx⟩ : ∃ x, l[j] = x := ⟨_, rfl⟩
        rw [hx] at x0
        have q2 : IntKind.i64.wrap ((j : Int) + 1) = ((j + 1 : Nat) : Int) := by simp [IntKind.wrap_i64]; omega
        have TT := Lib.hid (And.intro ht1 (And.intro hbl hgd))
        clear ht1 hbl hg hgd hx
        have c0 := TT.out.1.c0
        have c1 := TT.out.1.c1
        by_cases h0 : x < 0
        · have d0 : decide (x < 0) = true := by simp [h0]
          have hr0 := Int.emod_nonneg x (show (4 : Int) ≠ 0 by decide)
          have hr1 := Int.emod_lt_of_pos x (show (0 : Int) < 4 by decide)
          have MX : Hid (∀ w, Calls Try.prog 17 #[.int .i64 x, .int .i64 4] w fun e w' => e = .returned (.int .i64 (x % 4)) ∧ w = w') := (fun w => MO.out x w : ∀ w, Calls Try.prog 17 #[.int .i64 x, .int .i64 4] w fun e w' => e = .returned (.int .i64 (x % 4)) ∧ w = w')
          obtain ⟨r, hr⟩ : ∃ r, x % 4 = r := ⟨_, rfl⟩
          rw [hr] at MX hr0 hr1
          obtain ⟨k, hk⟩ : ∃ k, 1 + r = k := ⟨_, rfl⟩
          have qr : IntKind.i64.wrap (1 + r) = k := by rw [← hk]; simp [IntKind.wrap_i64]; omega
          clear hr hr0 hr1 hk
          go_wp2_with fail
          refine (MX.out _).mono ?_
          rintro _ _ ⟨rfl, rfl⟩
          go_wp2_with fail
          clear MX qr
          clear x0 d0 h0
          obtain ⟨p, hp⟩ : ∃ p, st n s u k = p := ⟨_, rfl⟩
          obtain ⟨a, b', c⟩ := p
          have S := Lib.hid (fun w => step_is n s u k a b' c w hp)
          refine (S.out _).mono ?_
          rintro _ w2 ⟨rfl, hw⟩
          have HW := Lib.hid hw
          clear hw c0 c1
          unfold tv
          cases c with
          | false =>
            have h0 := st_none (n := n) (s := s) (u := u) (k := k) (by rw [hp])
            rw [hp] at h0
            injection h0 with h1 h0
            injection h0 with h2 h3
            subst h1 h2
            clear hp
            go_wp2_with fail
            go_roundw
            case rel => exact ⟨j + 1, s, u, by omega, by omega, TT.out.2.2, rfl, by first | rfl | go_num, (TT.out.1.later HW.out TT.out.2.1).later ((Grw.rfl' _).alloc _) (Nat.lt_of_lt_of_le TT.out.2.1 (Below.size HW.out)), by have := Below.size HW.out; have := TT.out.2.1; simp [go_sem]; omega, (GX.out.trans HW.out).alloc _⟩
            case measure => simp [intOf]; omega
          | true =>
            have hok : (st n s u k).2.2 = true := by rw [hp]
            have hgo := st_good hok
            obtain ⟨_, hway⟩ := st_of hok
            rw [hp] at hgo hway
            simp only at hgo
            have GD := Lib.hid (fun w => good_is n a b' true w hgo)
            have HG := Lib.hid hgo
            have hgt := gd_t.1 hgo
            have hus := gd_t.1 TT.out.2.2
            have e4 : (s == 4) = false := tst (by omega)
            have e5 : (s == 5) = false := tst (by omega)
            have eb : decide (b' > n1) = false := by have := HN.out; simp; omega
            have HW2 := Lib.hid hway
            have B2 := Lib.hid (Nat.lt_of_lt_of_le TT.out.2.1 (Below.size HW.out))
            have T2 := Lib.hid (fun o => (TT.out.1.later HW.out TT.out.2.1).later ((Grw.rfl' w2).alloc o) B2.out)
            have c0 : ∀ o, (w2.alloc o).cell? ⟨b, 0, none⟩ = some (.int .i64 s) := fun o => (T2.out o).c0
            have c1 : ∀ o, (w2.alloc o).cell? ⟨b, 1, none⟩ = some (.int .i64 u) := fun o => (T2.out o).c1
            have N2 := Lib.hid (Two.new w2 (.int .i64 a) (.int .i64 b') 23)
            by_cases a5 : a = 5
            · have ea : (a == 5) = true := by simp [a5]
              have kk : (k == 1) = false := tst (fun e => by rcases hway with ⟨h1, h2, h3⟩ | ⟨h1, h2, h3⟩ | ⟨h1, h2, _, h3⟩ | ⟨h1, h2, _, h3⟩ | ⟨h1, h2, h3⟩ <;> injection h3 with h3 h4 <;> omega)
              have eu : b' = u := by rcases hway with ⟨h1, h2, h3⟩ | ⟨h1, h2, h3⟩ | ⟨h1, h2, _, h3⟩ | ⟨h1, h2, _, h3⟩ | ⟨h1, h2, h3⟩ <;> injection h3 with h3 h4 <;> injection h4 with h4 h5 <;> omega
              have h9' : b' = n1 := by have := HN.out; omega
              have en : (b' != n1) = false := by simp [h9']
              clear h9'
              subst eu
              clear hp hok hgo hway hgt hus a5
              go_wp2_with fail
              refine (GD.out _).mono ?_
              rintro _ w3 ⟨rfl, hw⟩
              have T3 := Lib.hid ((T2.out _).later hw (by have := B2.out; simp [go_sem]; omega))
              have N3 := Lib.hid (N2.out.later hw (by simp [go_sem]))
              have G3 := Lib.hid (((GX.out.trans HW.out).alloc _).trans hw)
              have B3 := Lib.hid (Nat.lt_of_lt_of_le (Nat.lt_of_lt_of_le B2.out (by simp [go_sem])) (Below.size hw))
              clear hw c0 c1
              have x0 := T3.out.c0
              have x1 := T3.out.c1
              have x2 := T3.out.f0
              have x3 := T3.out.f1
              have y0 := N3.out.c0
              have y1 := N3.out.c1
              go_wp2_with fail
              go_roundw
              case rel => exact ⟨j + 1, a, b', by omega, by omega, HG.out, rfl, by first | rfl | go_num, T3.out.set2 _ _, by have := B3.out; simp [go_sem]; omega, (G3.out.set (Nat.le_of_eq HB.out) _).set (Nat.le_of_eq HB.out) _⟩
              case measure => simp [intOf]; omega
            · have ea : (a == 5) = false := tst a5
              by_cases hk1 : k = 1
              · have kk : (k == 1) = true := by simp [hk1]
                have eu : b' = u + 1 := by rcases hway with ⟨h1, h2, h3⟩ | ⟨h1, h2, h3⟩ | ⟨h1, h2, _, h3⟩ | ⟨h1, h2, _, h3⟩ | ⟨h1, h2, h3⟩ <;> injection h3 with h3 h4 <;> injection h4 with h4 h5 <;> omega
                have qu : IntKind.i64.wrap (u + 1) = b' := by rw [eu]; simp [IntKind.wrap_i64]; omega
                clear hp hok hgo hway hgt hus a5 eu hk1
                go_wp2_with fail
                refine (GD.out _).mono ?_
                rintro _ w3 ⟨rfl, hw⟩
                have T3 := Lib.hid ((T2.out _).later hw (by have := B2.out; simp [go_sem]; omega))
                have N3 := Lib.hid (N2.out.later hw (by simp [go_sem]))
                have G3 := Lib.hid (((GX.out.trans HW.out).alloc _).trans hw)
                have B3 := Lib.hid (Nat.lt_of_lt_of_le (Nat.lt_of_lt_of_le B2.out (by simp [go_sem])) (Below.size hw))
                clear hw c0 c1
                have x0 := T3.out.c0
                have x1 := T3.out.c1
                have x2 := T3.out.f0
                have x3 := T3.out.f1
                have y0 := N3.out.c0
                have y1 := N3.out.c1
                go_wp2_with fail
                go_roundw
                case rel => exact ⟨j + 1, a, b', by omega, by omega, HG.out, rfl, by first | rfl | go_num, T3.out.set2 _ _, by have := B3.out; simp [go_sem]; omega, (G3.out.set (Nat.le_of_eq HB.out) _).set (Nat.le_of_eq HB.out) _⟩
                case measure => simp [intOf]; omega
              · have kk : (k == 1) = false := tst hk1
                have eu : b' = u := by rcases hway with ⟨h1, h2, h3⟩ | ⟨h1, h2, h3⟩ | ⟨h1, h2, _, h3⟩ | ⟨h1, h2, _, h3⟩ | ⟨h1, h2, h3⟩ <;> injection h3 with h3 h4 <;> injection h4 with h4 h5 <;> omega
                subst eu
                clear hp hok hgo hway hgt hus a5 hk1
                go_wp2_with fail
                refine (GD.out _).mono ?_
                rintro _ w3 ⟨rfl, hw⟩
                have T3 := Lib.hid ((T2.out _).later hw (by have := B2.out; simp [go_sem]; omega))
                have N3 := Lib.hid (N2.out.later hw (by simp [go_sem]))
                have G3 := Lib.hid (((GX.out.trans HW.out).alloc _).trans hw)
                have B3 := Lib.hid (Nat.lt_of_lt_of_le (Nat.lt_of_lt_of_le B2.out (by simp [go_sem])) (Below.size hw))
                clear hw c0 c1
                have x0 := T3.out.c0
                have x1 := T3.out.c1
                have x2 := T3.out.f0
                have x3 := T3.out.f1
                have y0 := N3.out.c0
                have y1 := N3.out.c1
                go_wp2_with fail
                go_roundw
                case rel => exact ⟨j + 1, a, b', by omega, by omega, HG.out, rfl, by first | rfl | go_num, T3.out.set2 _ _, by have := B3.out; simp [go_sem]; omega, (G3.out.set (Nat.le_of_eq HB.out) _).set (Nat.le_of_eq HB.out) _⟩
                case measure => simp [intOf]; omega
        · have d0 : decide (x < 0) = false := by simp; omega
          by_cases h9 : 9 < x
          · have d9 : decide (x > 9) = true := by simp; omega
            have hr0 := Int.emod_nonneg x (show (4 : Int) ≠ 0 by decide)
            have hr1 := Int.emod_lt_of_pos x (show (0 : Int) < 4 by decide)
            have MX : Hid (∀ w, Calls Try.prog 17 #[.int .i64 x, .int .i64 4] w fun e w' => e = .returned (.int .i64 (x % 4)) ∧ w = w') := (fun w => MO.out x w : ∀ w, Calls Try.prog 17 #[.int .i64 x, .int .i64 4] w fun e w' => e = .returned (.int .i64 (x % 4)) ∧ w = w')
            obtain ⟨r, hr⟩ : ∃ r, x % 4 = r := ⟨_, rfl⟩
            rw [hr] at MX hr0 hr1
            obtain ⟨k, hk⟩ : ∃ k, 1 + r = k := ⟨_, rfl⟩
            have qr : IntKind.i64.wrap (1 + r) = k := by rw [← hk]; simp [IntKind.wrap_i64]; omega
            clear hr hr0 hr1 hk
            go_wp2_with fail
            refine (MX.out _).mono ?_
            rintro _ _ ⟨rfl, rfl⟩
            go_wp2_with fail
            clear MX qr
            clear x0 d0 d9 h0 h9
            obtain ⟨p, hp⟩ : ∃ p, st n s u k = p := ⟨_, rfl⟩
            obtain ⟨a, b', c⟩ := p
            have S := Lib.hid (fun w => step_is n s u k a b' c w hp)
            refine (S.out _).mono ?_
            rintro _ w2 ⟨rfl, hw⟩
            have HW := Lib.hid hw
            clear hw c0 c1
            unfold tv
            cases c with
            | false =>
              have h0 := st_none (n := n) (s := s) (u := u) (k := k) (by rw [hp])
              rw [hp] at h0
              injection h0 with h1 h0
              injection h0 with h2 h3
              subst h1 h2
              clear hp
              go_wp2_with fail
              go_roundw
              case rel => exact ⟨j + 1, s, u, by omega, by omega, TT.out.2.2, rfl, by first | rfl | go_num, (TT.out.1.later HW.out TT.out.2.1).later ((Grw.rfl' _).alloc _) (Nat.lt_of_lt_of_le TT.out.2.1 (Below.size HW.out)), by have := Below.size HW.out; have := TT.out.2.1; simp [go_sem]; omega, (GX.out.trans HW.out).alloc _⟩
              case measure => simp [intOf]; omega
            | true =>
              have hok : (st n s u k).2.2 = true := by rw [hp]
              have hgo := st_good hok
              obtain ⟨_, hway⟩ := st_of hok
              rw [hp] at hgo hway
              simp only at hgo
              have GD := Lib.hid (fun w => good_is n a b' true w hgo)
              have HG := Lib.hid hgo
              have hgt := gd_t.1 hgo
              have hus := gd_t.1 TT.out.2.2
              have e4 : (s == 4) = false := tst (by omega)
              have e5 : (s == 5) = false := tst (by omega)
              have eb : decide (b' > n1) = false := by have := HN.out; simp; omega
              have HW2 := Lib.hid hway
              have B2 := Lib.hid (Nat.lt_of_lt_of_le TT.out.2.1 (Below.size HW.out))
              have T2 := Lib.hid (fun o => (TT.out.1.later HW.out TT.out.2.1).later ((Grw.rfl' w2).alloc o) B2.out)
              have c0 : ∀ o, (w2.alloc o).cell? ⟨b, 0, none⟩ = some (.int .i64 s) := fun o => (T2.out o).c0
              have c1 : ∀ o, (w2.alloc o).cell? ⟨b, 1, none⟩ = some (.int .i64 u) := fun o => (T2.out o).c1
              have N2 := Lib.hid (Two.new w2 (.int .i64 a) (.int .i64 b') 23)
              by_cases a5 : a = 5
              · have ea : (a == 5) = true := by simp [a5]
                have kk : (k == 1) = false := tst (fun e => by rcases hway with ⟨h1, h2, h3⟩ | ⟨h1, h2, h3⟩ | ⟨h1, h2, _, h3⟩ | ⟨h1, h2, _, h3⟩ | ⟨h1, h2, h3⟩ <;> injection h3 with h3 h4 <;> omega)
                have eu : b' = u := by rcases hway with ⟨h1, h2, h3⟩ | ⟨h1, h2, h3⟩ | ⟨h1, h2, _, h3⟩ | ⟨h1, h2, _, h3⟩ | ⟨h1, h2, h3⟩ <;> injection h3 with h3 h4 <;> injection h4 with h4 h5 <;> omega
                have h9' : b' = n1 := by have := HN.out; omega
                have en : (b' != n1) = false := by simp [h9']
                clear h9'
                subst eu
                clear hp hok hgo hway hgt hus a5
                go_wp2_with fail
                refine (GD.out _).mono ?_
                rintro _ w3 ⟨rfl, hw⟩
                have T3 := Lib.hid ((T2.out _).later hw (by have := B2.out; simp [go_sem]; omega))
                have N3 := Lib.hid (N2.out.later hw (by simp [go_sem]))
                have G3 := Lib.hid (((GX.out.trans HW.out).alloc _).trans hw)
                have B3 := Lib.hid (Nat.lt_of_lt_of_le (Nat.lt_of_lt_of_le B2.out (by simp [go_sem])) (Below.size hw))
                clear hw c0 c1
                have x0 := T3.out.c0
                have x1 := T3.out.c1
                have x2 := T3.out.f0
                have x3 := T3.out.f1
                have y0 := N3.out.c0
                have y1 := N3.out.c1
                go_wp2_with fail
                go_roundw
                case rel => exact ⟨j + 1, a, b', by omega, by omega, HG.out, rfl, by first | rfl | go_num, T3.out.set2 _ _, by have := B3.out; simp [go_sem]; omega, (G3.out.set (Nat.le_of_eq HB.out) _).set (Nat.le_of_eq HB.out) _⟩
                case measure => simp [intOf]; omega
              · have ea : (a == 5) = false := tst a5
                by_cases hk1 : k = 1
                · have kk : (k == 1) = true := by simp [hk1]
                  have eu : b' = u + 1 := by rcases hway with ⟨h1, h2, h3⟩ | ⟨h1, h2, h3⟩ | ⟨h1, h2, _, h3⟩ | ⟨h1, h2, _, h3⟩ | ⟨h1, h2, h3⟩ <;> injection h3 with h3 h4 <;> injection h4 with h4 h5 <;> omega
                  have qu : IntKind.i64.wrap (u + 1) = b' := by rw [eu]; simp [IntKind.wrap_i64]; omega
                  clear hp hok hgo hway hgt hus a5 eu hk1
                  go_wp2_with fail
                  refine (GD.out _).mono ?_
                  rintro _ w3 ⟨rfl, hw⟩
                  have T3 := Lib.hid ((T2.out _).later hw (by have := B2.out; simp [go_sem]; omega))
                  have N3 := Lib.hid (N2.out.later hw (by simp [go_sem]))
                  have G3 := Lib.hid (((GX.out.trans HW.out).alloc _).trans hw)
                  have B3 := Lib.hid (Nat.lt_of_lt_of_le (Nat.lt_of_lt_of_le B2.out (by simp [go_sem])) (Below.size hw))
                  clear hw c0 c1
                  have x0 := T3.out.c0
                  have x1 := T3.out.c1
                  have x2 := T3.out.f0
                  have x3 := T3.out.f1
                  have y0 := N3.out.c0
                  have y1 := N3.out.c1
                  go_wp2_with fail
                  go_roundw
                  case rel => exact ⟨j + 1, a, b', by omega, by omega, HG.out, rfl, by first | rfl | go_num, T3.out.set2 _ _, by have := B3.out; simp [go_sem]; omega, (G3.out.set (Nat.le_of_eq HB.out) _).set (Nat.le_of_eq HB.out) _⟩
                  case measure => simp [intOf]; omega
                · have kk : (k == 1) = false := tst hk1
                  have eu : b' = u := by rcases hway with ⟨h1, h2, h3⟩ | ⟨h1, h2, h3⟩ | ⟨h1, h2, _, h3⟩ | ⟨h1, h2, _, h3⟩ | ⟨h1, h2, h3⟩ <;> injection h3 with h3 h4 <;> injection h4 with h4 h5 <;> omega
                  subst eu
                  clear hp hok hgo hway hgt hus a5 hk1
                  go_wp2_with fail
                  refine (GD.out _).mono ?_
                  rintro _ w3 ⟨rfl, hw⟩
                  have T3 := Lib.hid ((T2.out _).later hw (by have := B2.out; simp [go_sem]; omega))
                  have N3 := Lib.hid (N2.out.later hw (by simp [go_sem]))
                  have G3 := Lib.hid (((GX.out.trans HW.out).alloc _).trans hw)
                  have B3 := Lib.hid (Nat.lt_of_lt_of_le (Nat.lt_of_lt_of_le B2.out (by simp [go_sem])) (Below.size hw))
                  clear hw c0 c1
                  have x0 := T3.out.c0
                  have x1 := T3.out.c1
                  have x2 := T3.out.f0
                  have x3 := T3.out.f1
                  have y0 := N3.out.c0
                  have y1 := N3.out.c1
                  go_wp2_with fail
                  go_roundw
                  case rel => exact ⟨j + 1, a, b', by omega, by omega, HG.out, rfl, by first | rfl | go_num, T3.out.set2 _ _, by have := B3.out; simp [go_sem]; omega, (G3.out.set (Nat.le_of_eq HB.out) _).set (Nat.le_of_eq HB.out) _⟩
                  case measure => simp [intOf]; omega
          · have d9 : decide (x > 9) = false := by simp; omega
            obtain ⟨k, hk⟩ : ∃ k, x = k := ⟨_, rfl⟩
            subst hk
            go_wp2_with fail
            clear x0 d0 d9 h0 h9
            revert x
            intro k
            obtain ⟨p, hp⟩ : ∃ p, st n s u k = p := ⟨_, rfl⟩
            obtain ⟨a, b', c⟩ := p
            have S := Lib.hid (fun w => step_is n s u k a b' c w hp)
            refine (S.out _).mono ?_
            rintro _ w2 ⟨rfl, hw⟩
            have HW := Lib.hid hw
            clear hw c0 c1
            unfold tv
            cases c with
            | false =>
              have h0 := st_none (n := n) (s := s) (u := u) (k := k) (by rw [hp])
              rw [hp] at h0
              injection h0 with h1 h0
              injection h0 with h2 h3
              subst h1 h2
              clear hp
              go_wp2_with fail
              go_roundw
              case rel => exact ⟨j + 1, s, u, by omega, by omega, TT.out.2.2, rfl, by first | rfl | go_num, (TT.out.1.later HW.out TT.out.2.1).later ((Grw.rfl' _).alloc _) (Nat.lt_of_lt_of_le TT.out.2.1 (Below.size HW.out)), by have := Below.size HW.out; have := TT.out.2.1; simp [go_sem]; omega, (GX.out.trans HW.out).alloc _⟩
              case measure => simp [intOf]; omega
            | true =>
              have hok : (st n s u k).2.2 = true := by rw [hp]
              have hgo := st_good hok
              obtain ⟨_, hway⟩ := st_of hok
              rw [hp] at hgo hway
              simp only at hgo
              have GD := Lib.hid (fun w => good_is n a b' true w hgo)
              have HG := Lib.hid hgo
              have hgt := gd_t.1 hgo
              have hus := gd_t.1 TT.out.2.2
              have e4 : (s == 4) = false := tst (by omega)
              have e5 : (s == 5) = false := tst (by omega)
              have eb : decide (b' > n1) = false := by have := HN.out; simp; omega
              have HW2 := Lib.hid hway
              have B2 := Lib.hid (Nat.lt_of_lt_of_le TT.out.2.1 (Below.size HW.out))
              have T2 := Lib.hid (fun o => (TT.out.1.later HW.out TT.out.2.1).later ((Grw.rfl' w2).alloc o) B2.out)
              have c0 : ∀ o, (w2.alloc o).cell? ⟨b, 0, none⟩ = some (.int .i64 s) := fun o => (T2.out o).c0
              have c1 : ∀ o, (w2.alloc o).cell? ⟨b, 1, none⟩ = some (.int .i64 u) := fun o => (T2.out o).c1
              have N2 := Lib.hid (Two.new w2 (.int .i64 a) (.int .i64 b') 23)
              by_cases a5 : a = 5
              · have ea : (a == 5) = true := by simp [a5]
                have kk : (k == 1) = false := tst (fun e => by rcases hway with ⟨h1, h2, h3⟩ | ⟨h1, h2, h3⟩ | ⟨h1, h2, _, h3⟩ | ⟨h1, h2, _, h3⟩ | ⟨h1, h2, h3⟩ <;> injection h3 with h3 h4 <;> omega)
                have eu : b' = u := by rcases hway with ⟨h1, h2, h3⟩ | ⟨h1, h2, h3⟩ | ⟨h1, h2, _, h3⟩ | ⟨h1, h2, _, h3⟩ | ⟨h1, h2, h3⟩ <;> injection h3 with h3 h4 <;> injection h4 with h4 h5 <;> omega
                have h9' : b' = n1 := by have := HN.out; omega
                have en : (b' != n1) = false := by simp [h9']
                clear h9'
                subst eu
                clear hp hok hgo hway hgt hus a5
                go_wp2_with fail
                refine (GD.out _).mono ?_
                rintro _ w3 ⟨rfl, hw⟩
                have T3 := Lib.hid ((T2.out _).later hw (by have := B2.out; simp [go_sem]; omega))
                have N3 := Lib.hid (N2.out.later hw (by simp [go_sem]))
                have G3 := Lib.hid (((GX.out.trans HW.out).alloc _).trans hw)
                have B3 := Lib.hid (Nat.lt_of_lt_of_le (Nat.lt_of_lt_of_le B2.out (by simp [go_sem])) (Below.size hw))
                clear hw c0 c1
                have x0 := T3.out.c0
                have x1 := T3.out.c1
                have x2 := T3.out.f0
                have x3 := T3.out.f1
                have y0 := N3.out.c0
                have y1 := N3.out.c1
                go_wp2_with fail
                go_roundw
                case rel => exact ⟨j + 1, a, b', by omega, by omega, HG.out, rfl, by first | rfl | go_num, T3.out.set2 _ _, by have := B3.out; simp [go_sem]; omega, (G3.out.set (Nat.le_of_eq HB.out) _).set (Nat.le_of_eq HB.out) _⟩
                case measure => simp [intOf]; omega
              · have ea : (a == 5) = false := tst a5
                by_cases hk1 : k = 1
                · have kk : (k == 1) = true := by simp [hk1]
                  have eu : b' = u + 1 := by rcases hway with ⟨h1, h2, h3⟩ | ⟨h1, h2, h3⟩ | ⟨h1, h2, _, h3⟩ | ⟨h1, h2, _, h3⟩ | ⟨h1, h2, h3⟩ <;> injection h3 with h3 h4 <;> injection h4 with h4 h5 <;> omega
                  have qu : IntKind.i64.wrap (u + 1) = b' := by rw [eu]; simp [IntKind.wrap_i64]; omega
                  clear hp hok hgo hway hgt hus a5 eu hk1
                  go_wp2_with fail
                  refine (GD.out _).mono ?_
                  rintro _ w3 ⟨rfl, hw⟩
                  have T3 := Lib.hid ((T2.out _).later hw (by have := B2.out; simp [go_sem]; omega))
                  have N3 := Lib.hid (N2.out.later hw (by simp [go_sem]))
                  have G3 := Lib.hid (((GX.out.trans HW.out).alloc _).trans hw)
                  have B3 := Lib.hid (Nat.lt_of_lt_of_le (Nat.lt_of_lt_of_le B2.out (by simp [go_sem])) (Below.size hw))
                  clear hw c0 c1
                  have x0 := T3.out.c0
                  have x1 := T3.out.c1
                  have x2 := T3.out.f0
                  have x3 := T3.out.f1
                  have y0 := N3.out.c0
                  have y1 := N3.out.c1
                  go_wp2_with fail
                  go_roundw
                  case rel => exact ⟨j + 1, a, b', by omega, by omega, HG.out, rfl, by first | rfl | go_num, T3.out.set2 _ _, by have := B3.out; simp [go_sem]; omega, (G3.out.set (Nat.le_of_eq HB.out) _).set (Nat.le_of_eq HB.out) _⟩
                  case measure => simp [intOf]; omega
                · have kk : (k == 1) = false := tst hk1
                  have eu : b' = u := by rcases hway with ⟨h1, h2, h3⟩ | ⟨h1, h2, h3⟩ | ⟨h1, h2, _, h3⟩ | ⟨h1, h2, _, h3⟩ | ⟨h1, h2, h3⟩ <;> injection h3 with h3 h4 <;> injection h4 with h4 h5 <;> omega
                  subst eu
                  clear hp hok hgo hway hgt hus a5 hk1
                  go_wp2_with fail
                  refine (GD.out _).mono ?_
                  rintro _ w3 ⟨rfl, hw⟩
                  have T3 := Lib.hid ((T2.out _).later hw (by have := B2.out; simp [go_sem]; omega))
                  have N3 := Lib.hid (N2.out.later hw (by simp [go_sem]))
                  have G3 := Lib.hid (((GX.out.trans HW.out).alloc _).trans hw)
                  have B3 := Lib.hid (Nat.lt_of_lt_of_le (Nat.lt_of_lt_of_le B2.out (by simp [go_sem])) (Below.size hw))
                  clear hw c0 c1
                  have x0 := T3.out.c0
                  have x1 := T3.out.c1
                  have x2 := T3.out.f0
                  have x3 := T3.out.f1
                  have y0 := N3.out.c0
                  have y1 := N3.out.c1
                  go_wp2_with fail
                  go_roundw
                  case rel => exact ⟨j + 1, a, b', by omega, by omega, HG.out, rfl, by first | rfl | go_num, T3.out.set2 _ _, by have := B3.out; simp [go_sem]; omega, (G3.out.set (Nat.le_of_eq HB.out) _).set (Nat.le_of_eq HB.out) _⟩
                  case measure => simp [intOf]; omega
      · have k1 : decide ((j : Int) < (m : Int)) = true := by simp; omega
        have k2 : decide ((j : Int) < 100) = false := by simp; omega
        clear ht1 hbl hg hgd
        go_wp2_with fail
        refine (WK.out _).mono ?_
        rintro _ w2 ⟨rfl, hw⟩
        have G2 := Lib.hid (GX.out.trans hw)
        clear hw
        go_wp2_with fail
        go_ret
        exact ⟨rfl, G2.out⟩
    · have k1 : decide ((j : Int) < (m : Int)) = false := by simp; omega
      clear ht1 hbl hg hgd
      go_wp2_with fail
      refine (WK.out _).mono ?_
      rintro _ w2 ⟨rfl, hw⟩
      have G2 := Lib.hid (GX.out.trans hw)
      clear hw
      go_wp2_with fail
      go_ret
      exact ⟨rfl, G2.out⟩
end Go.Proofs.Ytfpadikoplgflaa
