/- The law QueueRoom, walked. -/
import Derived.Test.YtdindhmbofddoaaSk
namespace Go.Proofs.Ytdindhmbofddoaa
open Go.RowKit
set_option linter.unusedSimpArgs false

set_option maxHeartbeats 4000000 in
set_option maxRecDepth 100000 in
theorem room_walk (rm wh : Nat) (cl : Int) (w : World) (hrm : rm < 256) (hwh : wh < 256) :
    Calls Try.prog 6 #[.int .u8 (rm : Nat), .int .i64 cl, .int .u8 (wh : Nat)] w fun e w' => e = .returned (.bool true) ∧ Grw w w' := by
  obtain ⟨n, hn⟩ : ∃ n : Nat, rm % 60 = n := ⟨_, rfl⟩
  have n60 : n < 60 := by omega
  have q1 : IntKind.i64.wrap (rm : Int) = rm := by simp [IntKind.wrap_i64]; omega
  have q2 : (rm : Int) % 60 = (n : Int) := by omega
  have q3 : IntKind.i64.wrap (wh : Int) = wh := by simp [IntKind.wrap_i64]; omega
  have N6 := Lib.hid n60
  clear hn hrm hwh n60
  go_enter Try.func6, Try.ntmps6
  go_wp2_with fail
  refine (m_new 3 (n : Int) w w (Grw.rfl' w) (by decide) (by decide) (by omega) (by have := N6.out; omega)).mono ?_
  rintro _ w1 ⟨p, rfl, m1, _⟩
  have M1 := Lib.hid m1
  clear m1
  go_wp2_with fail
  go_loopw [9] (fun i wr => ∃ k : Nat, k ≤ n ∧ i = .int .i64 k ∧ ∃ v, QM w wr p 3 (n : Int) 0 v (ln k)) (fun i _ => n - (intOf i).toNat)
  case atStart => exact ⟨0, Nat.zero_le _, rfl, _, M1.out⟩
  case round =>
    obtain ⟨k, hk, rfl, v, hm⟩ := hrel
    by_cases hk' : k < n
    · have hki : (k : Int) < (n : Int) := by omega
      have M := Lib.hid hm
      have ql := Lib.hid (ln_len k)
      clear hm
      go_wp2_with fail
      refine (m_put M.out (k : Int) ((k : Int) % 8) (by omega) (by omega) (ln_no (Int.le_refl _)) (by rw [ql.out]; exact hki) (by have := N6.out; rw [ql.out]; omega)).mono ?_
      rintro _ w2 ⟨rfl, v2, m2, _, _⟩
      have M2 : Hid (QM w w2 p 3 (n : Int) 0 v2 (ln (k + 1))) := (m2 : QM w w2 p 3 (n : Int) 0 v2 (ln (k + 1)))
      clear m2
      go_wp2_with fail
      go_roundw
      case rel => exact ⟨k + 1, by omega, by go_num, v2, M2.out⟩
      case measure => simp [intOf]; omega
    · have hki : ¬ (k : Int) < (n : Int) := by omega
      have e : k = n := by omega
      subst e
      have M := Lib.hid hm
      have LN := Lib.hid (ln_len k)
      clear hm hk hk' M1
      go_wp2_with fail
      refine (list_is M.out.q).mono ?_
      rintro _ w2 ⟨u, s, rfl, hs⟩
      obtain ⟨ao, cap, hu⟩ := own_slice (row_base hs.row (fun _ _ => Nat.zero_le _))
      subst hu
      have M2 := Lib.hid (M.out.later hs.gw)
      have SL := Lib.hid (show s.length = k from (hs.perm.length_eq.trans LN.out))
      have SR := Lib.hid hs
      rw [SL.out]
      clear hs
      rcases (show (0 ≤ cl ∧ cl < 8) ∨ cl < 0 ∨ 8 ≤ cl by omega) with c | c | c
      · have d1 : decide (0 ≤ cl) = true := by simp; omega
        have d2 : decide (cl < 8) = true := by simp; omega
        have CB := Lib.hid c
        clear c
        go_wp2_with fail
        refine (put_full M2.out.q (k : Int) cl CB.out.1 CB.out.2 (ln_no (Int.le_refl _)) (by rw [LN.out]; exact Int.le_refl _)).mono ?_
        rintro _ w3 ⟨rfl, g3⟩
        have M3 := Lib.hid (M2.out.later g3)
        have G3 := Lib.hid g3
        clear g3
        go_wp2_with fail
        refine (drop_no M3.out.q (k : Int) (ln_no (Int.le_refl _))).mono ?_
        rintro _ w4 ⟨rfl, g4⟩
        have M4 := Lib.hid (M3.out.later g4)
        have G4 := Lib.hid (G3.out.trans g4)
        clear g4
        go_wp2_with fail
        refine (list_is M4.out.q).mono ?_
        rintro _ w5 ⟨u5, s5, rfl, h5⟩
        have e5 : s5 = s := h5.one SR.out M4.out.q.ids
        subst e5
        obtain ⟨ao5, cap5, hu⟩ := own_slice (row_base h5.row (fun _ _ => Nat.zero_le _))
        subst hu
        have M5 := Lib.hid (M4.out.later h5.gw)
        have WS : Hid (Calls Try.prog 20 #[.slice ao5 k cap5, .slice ao k cap] w5 fun e w' => e = .returned (.bool true) ∧ Grw w5 w') := (by
          obtain ⟨_, _, e1, l1⟩ := ownsRow_lies h5.row
          obtain ⟨_, _, e2, l2⟩ := ownsRow_lies SR.out.row
          injection e1 with e1
          injection e2 with e2
          subst e1
          subst e2
          have := waits_same ao5 ao cap5 cap s5 w5 (by have := N6.out; rw [SL.out]; omega) l1 (l2.later (G4.out.trans h5.gw))
          rw [SL.out] at this
          exact this : Calls Try.prog 20 #[.slice ao5 k cap5, .slice ao k cap] w5 fun e w' => e = .returned (.bool true) ∧ Grw w5 w')
        rw [SL.out]
        clear h5
        go_wp2_with fail
        refine WS.out.mono ?_
        rintro _ w6 ⟨rfl, g6⟩
        have M6 := Lib.hid (M5.out.later g6)
        clear g6
        go_wp2_with fail
        refine (len_is M6.out.q LN.out).mono ?_
        rintro _ _ ⟨rfl, rfl⟩
        go_wp2_with fail
        refine (count_is M6.out.q).mono ?_
        rintro _ _ ⟨rfl, rfl⟩
        clear WS M5 M4 M3 G3 G4 SR SL M2 M
        rcases Nat.eq_zero_or_pos k with z | z
        · subst z
          go_wp2_with fail
          refine (wakes_any w6).mono ?_
          rintro _ w7 ⟨rfl, g7⟩
          have M7 := Lib.hid (M6.out.g.trans g7)
          clear g7
          go_wp2_with fail
          go_ret
          exact ⟨rfl, M7.out⟩
        · obtain ⟨t, ht⟩ : ∃ t : Nat, wh % k = t := ⟨_, rfl⟩
          have tk : t < k := by rw [← ht]; exact Nat.mod_lt _ z
          have z0 : ((k : Int) == 0) = false := by simp; omega
          have z1 : ¬ (k : Int) = 0 := by omega
          have z2 : ¬ k = 0 := by omega
          have q4 : (wh : Int) % (k : Int) = (t : Int) := by rw [← ht]; omega
          have q5 : (wh : Int).tmod (k : Int) = (t : Int) := by rw [Int.tmod_eq_emod_of_nonneg (by omega)]; exact q4
          obtain ⟨m, hm⟩ : ∃ m, k = m + 1 := ⟨k - 1, by omega⟩
          have q6 : IntKind.i64.wrap ((k : Int) - 1) = (m : Int) := by have := N6.out; rw [hm]; simp [IntKind.wrap_i64]; omega
          have q7 : IntKind.i64.wrap ((k : Int) + 1) = (k : Int) + 1 := by have := N6.out; simp [IntKind.wrap_i64]; omega
          have TK := Lib.hid (And.intro tk (And.intro z hm))
          have LT := Lib.hid (show t < (ln k).length by rw [LN.out]; exact tk)
          clear ht tk hm z
          go_wp2_with fail
          refine (put_twice M6.out.q (t : Int) cl CB.out.1 CB.out.2 ⟨t, LT.out, ln_gt TK.out.1⟩).mono ?_
          rintro _ w7 ⟨rfl, g7⟩
          have M7 := Lib.hid (M6.out.later g7)
          clear g7
          go_wp2_with fail
          refine (m_drop M7.out (t : Int) LT.out (ln_gt TK.out.1)).mono ?_
          rintro _ w8 ⟨rfl, v8, m8, _, _⟩
          have M8 := Lib.hid m8
          have RN : Hid (∀ j, j < (rem (ln k) t).length → (gt (rem (ln k) t) j).id ≠ (t : Int)) := (fun j hj c => rem_gone M6.out.q.ids LT.out j hj (c.trans (ln_gt TK.out.1).symm) : ∀ j, j < (rem (ln k) t).length → (gt (rem (ln k) t) j).id ≠ (t : Int))
          have RL : Hid ((rem (ln k) t).length = m) := (by have := rem_len LT.out; have := LN.out; have := TK.out.2.2; omega : (rem (ln k) t).length = m)
          clear m8
          go_wp2_with fail
          refine (drop_no M8.out.q (t : Int) RN.out).mono ?_
          rintro _ w9 ⟨rfl, g9⟩
          have M9 := Lib.hid (M8.out.later g9)
          clear g9
          go_wp2_with fail
          refine (len_is M9.out.q RL.out).mono ?_
          rintro _ _ ⟨rfl, rfl⟩
          go_wp2_with fail
          refine (m_put M9.out (k : Int) 0 (by decide) (by decide) (fun j hj c => by have := ln_mem (rem_mem (gt_mem hj)); omega) (by have := TK.out.2.2; rw [RL.out]; omega) (by have := N6.out; have := TK.out.2.2; rw [RL.out]; omega)).mono ?_
          rintro _ w10 ⟨rfl, v10, m10, _, _⟩
          obtain ⟨L2, hL⟩ : ∃ L2, rem (ln k) t ++ [⟨(k : Int), 0, 0⟩] = L2 := ⟨_, rfl⟩
          have LL : Hid (L2.length = k) := (by have := TK.out.2.2; rw [← hL, List.length_append, RL.out, List.length_singleton]; omega : L2.length = k)
          have LM : Hid (∀ x ∈ L2, x.id ≤ (k : Int)) := (fun x hx => by
            rw [← hL] at hx
            rcases List.mem_append.1 hx with hx | hx
            · have := ln_mem (rem_mem hx); omega
            · rw [List.mem_singleton.1 hx]; exact Int.le_refl _ : ∀ x ∈ L2, x.id ≤ (k : Int))
          rw [hL] at m10
          have M10 := Lib.hid m10
          clear m10 hL
          go_wp2_with fail
          refine (put_full M10.out.q ((k : Int) + 1) 0 (by decide) (by decide) (fun j hj c => by have := LM.out _ (gt_mem hj); omega) (by rw [LL.out]; exact Int.le_refl _)).mono ?_
          rintro _ w11 ⟨rfl, g11⟩
          have M11 := Lib.hid (M10.out.later g11)
          clear g11
          go_wp2_with fail
          obtain ⟨f, hf⟩ := fst_ex 3 L2 (by rw [LL.out]; exact TK.out.2.1) M11.out.q.ids
          have T := m_take M11.out hf (by decide) (by decide)
          obtain ⟨y, hy⟩ : ∃ y, gt L2 f = y := ⟨_, rfl⟩
          rw [hy] at T
          refine T.mono ?_
          rintro _ w12 ⟨rfl, v12, m12, _, _⟩
          have M12 := Lib.hid (m12.later ((Grw.rfl' w12).alloc (.cells #[.int .i64 y.id, .int .i64 y.cl, .int .i64 y.ca] 37)))
          have FL := Lib.hid (rem_len hf.lt)
          clear m12 T hf hy
          simp only [wv]
          go_wp2_with fail
          refine (m_put M12.out ((k : Int) + 1) 0 (by decide) (by decide) (fun j hj c => by have := LM.out _ (rem_mem (gt_mem hj)); omega) (by have := FL.out; have := LL.out; omega) (by have := N6.out; have := FL.out; have := LL.out; omega)).mono ?_
          rintro _ w13 ⟨rfl, v13, m13, _, _⟩
          have M13 := Lib.hid m13
          clear m13
          go_wp2_with fail
          refine (count_is M13.out.q).mono ?_
          rintro _ _ ⟨rfl, rfl⟩
          go_wp2_with fail
          refine (wakes_any w13).mono ?_
          rintro _ w14 ⟨rfl, g14⟩
          have M14 := Lib.hid (M13.out.g.trans g14)
          clear g14
          go_wp2_with fail
          go_ret
          exact ⟨rfl, M14.out⟩
      · have d1 : decide (0 ≤ cl) = false := by simp; omega
        have d2 : decide (cl < 8) = true := by simp; omega
        have CB : Hid (¬ (0 ≤ cl ∧ cl < 8)) := (by omega : ¬ (0 ≤ cl ∧ cl < 8))
        clear c
        go_wp2_with fail
        refine (put_bad p (k : Int) cl w2 CB.out).mono ?_
        rintro _ w3 ⟨rfl, e3⟩
        have g3 : Grw w2 w3 := e3 ▸ Grw.rfl' w2
        have M3 := Lib.hid (M2.out.later g3)
        have G3 := Lib.hid g3
        clear g3 e3
        go_wp2_with fail
        refine (drop_no M3.out.q (k : Int) (ln_no (Int.le_refl _))).mono ?_
        rintro _ w4 ⟨rfl, g4⟩
        have M4 := Lib.hid (M3.out.later g4)
        have G4 := Lib.hid (G3.out.trans g4)
        clear g4
        go_wp2_with fail
        refine (list_is M4.out.q).mono ?_
        rintro _ w5 ⟨u5, s5, rfl, h5⟩
        have e5 : s5 = s := h5.one SR.out M4.out.q.ids
        subst e5
        obtain ⟨ao5, cap5, hu⟩ := own_slice (row_base h5.row (fun _ _ => Nat.zero_le _))
        subst hu
        have M5 := Lib.hid (M4.out.later h5.gw)
        have WS : Hid (Calls Try.prog 20 #[.slice ao5 k cap5, .slice ao k cap] w5 fun e w' => e = .returned (.bool true) ∧ Grw w5 w') := (by
          obtain ⟨_, _, e1, l1⟩ := ownsRow_lies h5.row
          obtain ⟨_, _, e2, l2⟩ := ownsRow_lies SR.out.row
          injection e1 with e1
          injection e2 with e2
          subst e1
          subst e2
          have := waits_same ao5 ao cap5 cap s5 w5 (by have := N6.out; rw [SL.out]; omega) l1 (l2.later (G4.out.trans h5.gw))
          rw [SL.out] at this
          exact this : Calls Try.prog 20 #[.slice ao5 k cap5, .slice ao k cap] w5 fun e w' => e = .returned (.bool true) ∧ Grw w5 w')
        rw [SL.out]
        clear h5
        go_wp2_with fail
        refine WS.out.mono ?_
        rintro _ w6 ⟨rfl, g6⟩
        have M6 := Lib.hid (M5.out.later g6)
        clear g6
        go_wp2_with fail
        refine (len_is M6.out.q LN.out).mono ?_
        rintro _ _ ⟨rfl, rfl⟩
        go_wp2_with fail
        refine (count_is M6.out.q).mono ?_
        rintro _ _ ⟨rfl, rfl⟩
        clear WS M5 M4 M3 G3 G4 SR SL M2 M
        rcases Nat.eq_zero_or_pos k with z | z
        · subst z
          go_wp2_with fail
          refine (wakes_any w6).mono ?_
          rintro _ w7 ⟨rfl, g7⟩
          have M7 := Lib.hid (M6.out.g.trans g7)
          clear g7
          go_wp2_with fail
          go_ret
          exact ⟨rfl, M7.out⟩
        · obtain ⟨t, ht⟩ : ∃ t : Nat, wh % k = t := ⟨_, rfl⟩
          have tk : t < k := by rw [← ht]; exact Nat.mod_lt _ z
          have z0 : ((k : Int) == 0) = false := by simp; omega
          have z1 : ¬ (k : Int) = 0 := by omega
          have z2 : ¬ k = 0 := by omega
          have q4 : (wh : Int) % (k : Int) = (t : Int) := by rw [← ht]; omega
          have q5 : (wh : Int).tmod (k : Int) = (t : Int) := by rw [Int.tmod_eq_emod_of_nonneg (by omega)]; exact q4
          obtain ⟨m, hm⟩ : ∃ m, k = m + 1 := ⟨k - 1, by omega⟩
          have q6 : IntKind.i64.wrap ((k : Int) - 1) = (m : Int) := by have := N6.out; rw [hm]; simp [IntKind.wrap_i64]; omega
          have q7 : IntKind.i64.wrap ((k : Int) + 1) = (k : Int) + 1 := by have := N6.out; simp [IntKind.wrap_i64]; omega
          have TK := Lib.hid (And.intro tk (And.intro z hm))
          have LT := Lib.hid (show t < (ln k).length by rw [LN.out]; exact tk)
          clear ht tk hm z
          go_wp2_with fail
          refine (m_drop M6.out (t : Int) LT.out (ln_gt TK.out.1)).mono ?_
          rintro _ w8 ⟨rfl, v8, m8, _, _⟩
          have M8 := Lib.hid m8
          have RN : Hid (∀ j, j < (rem (ln k) t).length → (gt (rem (ln k) t) j).id ≠ (t : Int)) := (fun j hj c => rem_gone M6.out.q.ids LT.out j hj (c.trans (ln_gt TK.out.1).symm) : ∀ j, j < (rem (ln k) t).length → (gt (rem (ln k) t) j).id ≠ (t : Int))
          have RL : Hid ((rem (ln k) t).length = m) := (by have := rem_len LT.out; have := LN.out; have := TK.out.2.2; omega : (rem (ln k) t).length = m)
          clear m8
          go_wp2_with fail
          refine (drop_no M8.out.q (t : Int) RN.out).mono ?_
          rintro _ w9 ⟨rfl, g9⟩
          have M9 := Lib.hid (M8.out.later g9)
          clear g9
          go_wp2_with fail
          refine (len_is M9.out.q RL.out).mono ?_
          rintro _ _ ⟨rfl, rfl⟩
          go_wp2_with fail
          refine (m_put M9.out (k : Int) 0 (by decide) (by decide) (fun j hj c => by have := ln_mem (rem_mem (gt_mem hj)); omega) (by have := TK.out.2.2; rw [RL.out]; omega) (by have := N6.out; have := TK.out.2.2; rw [RL.out]; omega)).mono ?_
          rintro _ w10 ⟨rfl, v10, m10, _, _⟩
          obtain ⟨L2, hL⟩ : ∃ L2, rem (ln k) t ++ [⟨(k : Int), 0, 0⟩] = L2 := ⟨_, rfl⟩
          have LL : Hid (L2.length = k) := (by have := TK.out.2.2; rw [← hL, List.length_append, RL.out, List.length_singleton]; omega : L2.length = k)
          have LM : Hid (∀ x ∈ L2, x.id ≤ (k : Int)) := (fun x hx => by
            rw [← hL] at hx
            rcases List.mem_append.1 hx with hx | hx
            · have := ln_mem (rem_mem hx); omega
            · rw [List.mem_singleton.1 hx]; exact Int.le_refl _ : ∀ x ∈ L2, x.id ≤ (k : Int))
          rw [hL] at m10
          have M10 := Lib.hid m10
          clear m10 hL
          go_wp2_with fail
          refine (put_full M10.out.q ((k : Int) + 1) 0 (by decide) (by decide) (fun j hj c => by have := LM.out _ (gt_mem hj); omega) (by rw [LL.out]; exact Int.le_refl _)).mono ?_
          rintro _ w11 ⟨rfl, g11⟩
          have M11 := Lib.hid (M10.out.later g11)
          clear g11
          go_wp2_with fail
          obtain ⟨f, hf⟩ := fst_ex 3 L2 (by rw [LL.out]; exact TK.out.2.1) M11.out.q.ids
          have T := m_take M11.out hf (by decide) (by decide)
          obtain ⟨y, hy⟩ : ∃ y, gt L2 f = y := ⟨_, rfl⟩
          rw [hy] at T
          refine T.mono ?_
          rintro _ w12 ⟨rfl, v12, m12, _, _⟩
          have M12 := Lib.hid (m12.later ((Grw.rfl' w12).alloc (.cells #[.int .i64 y.id, .int .i64 y.cl, .int .i64 y.ca] 37)))
          have FL := Lib.hid (rem_len hf.lt)
          clear m12 T hf hy
          simp only [wv]
          go_wp2_with fail
          refine (m_put M12.out ((k : Int) + 1) 0 (by decide) (by decide) (fun j hj c => by have := LM.out _ (rem_mem (gt_mem hj)); omega) (by have := FL.out; have := LL.out; omega) (by have := N6.out; have := FL.out; have := LL.out; omega)).mono ?_
          rintro _ w13 ⟨rfl, v13, m13, _, _⟩
          have M13 := Lib.hid m13
          clear m13
          go_wp2_with fail
          refine (count_is M13.out.q).mono ?_
          rintro _ _ ⟨rfl, rfl⟩
          go_wp2_with fail
          refine (wakes_any w13).mono ?_
          rintro _ w14 ⟨rfl, g14⟩
          have M14 := Lib.hid (M13.out.g.trans g14)
          clear g14
          go_wp2_with fail
          go_ret
          exact ⟨rfl, M14.out⟩
      · have d1 : decide (0 ≤ cl) = true := by simp; omega
        have d2 : decide (cl < 8) = false := by simp; omega
        have CB : Hid (¬ (0 ≤ cl ∧ cl < 8)) := (by omega : ¬ (0 ≤ cl ∧ cl < 8))
        clear c
        go_wp2_with fail
        refine (put_bad p (k : Int) cl w2 CB.out).mono ?_
        rintro _ w3 ⟨rfl, e3⟩
        have g3 : Grw w2 w3 := e3 ▸ Grw.rfl' w2
        have M3 := Lib.hid (M2.out.later g3)
        have G3 := Lib.hid g3
        clear g3 e3
        go_wp2_with fail
        refine (drop_no M3.out.q (k : Int) (ln_no (Int.le_refl _))).mono ?_
        rintro _ w4 ⟨rfl, g4⟩
        have M4 := Lib.hid (M3.out.later g4)
        have G4 := Lib.hid (G3.out.trans g4)
        clear g4
        go_wp2_with fail
        refine (list_is M4.out.q).mono ?_
        rintro _ w5 ⟨u5, s5, rfl, h5⟩
        have e5 : s5 = s := h5.one SR.out M4.out.q.ids
        subst e5
        obtain ⟨ao5, cap5, hu⟩ := own_slice (row_base h5.row (fun _ _ => Nat.zero_le _))
        subst hu
        have M5 := Lib.hid (M4.out.later h5.gw)
        have WS : Hid (Calls Try.prog 20 #[.slice ao5 k cap5, .slice ao k cap] w5 fun e w' => e = .returned (.bool true) ∧ Grw w5 w') := (by
          obtain ⟨_, _, e1, l1⟩ := ownsRow_lies h5.row
          obtain ⟨_, _, e2, l2⟩ := ownsRow_lies SR.out.row
          injection e1 with e1
          injection e2 with e2
          subst e1
          subst e2
          have := waits_same ao5 ao cap5 cap s5 w5 (by have := N6.out; rw [SL.out]; omega) l1 (l2.later (G4.out.trans h5.gw))
          rw [SL.out] at this
          exact this : Calls Try.prog 20 #[.slice ao5 k cap5, .slice ao k cap] w5 fun e w' => e = .returned (.bool true) ∧ Grw w5 w')
        rw [SL.out]
        clear h5
        go_wp2_with fail
        refine WS.out.mono ?_
        rintro _ w6 ⟨rfl, g6⟩
        have M6 := Lib.hid (M5.out.later g6)
        clear g6
        go_wp2_with fail
        refine (len_is M6.out.q LN.out).mono ?_
        rintro _ _ ⟨rfl, rfl⟩
        go_wp2_with fail
        refine (count_is M6.out.q).mono ?_
        rintro _ _ ⟨rfl, rfl⟩
        clear WS M5 M4 M3 G3 G4 SR SL M2 M
        rcases Nat.eq_zero_or_pos k with z | z
        · subst z
          go_wp2_with fail
          refine (wakes_any w6).mono ?_
          rintro _ w7 ⟨rfl, g7⟩
          have M7 := Lib.hid (M6.out.g.trans g7)
          clear g7
          go_wp2_with fail
          go_ret
          exact ⟨rfl, M7.out⟩
        · obtain ⟨t, ht⟩ : ∃ t : Nat, wh % k = t := ⟨_, rfl⟩
          have tk : t < k := by rw [← ht]; exact Nat.mod_lt _ z
          have z0 : ((k : Int) == 0) = false := by simp; omega
          have z1 : ¬ (k : Int) = 0 := by omega
          have z2 : ¬ k = 0 := by omega
          have q4 : (wh : Int) % (k : Int) = (t : Int) := by rw [← ht]; omega
          have q5 : (wh : Int).tmod (k : Int) = (t : Int) := by rw [Int.tmod_eq_emod_of_nonneg (by omega)]; exact q4
          obtain ⟨m, hm⟩ : ∃ m, k = m + 1 := ⟨k - 1, by omega⟩
          have q6 : IntKind.i64.wrap ((k : Int) - 1) = (m : Int) := by have := N6.out; rw [hm]; simp [IntKind.wrap_i64]; omega
          have q7 : IntKind.i64.wrap ((k : Int) + 1) = (k : Int) + 1 := by have := N6.out; simp [IntKind.wrap_i64]; omega
          have TK := Lib.hid (And.intro tk (And.intro z hm))
          have LT := Lib.hid (show t < (ln k).length by rw [LN.out]; exact tk)
          clear ht tk hm z
          go_wp2_with fail
          refine (m_drop M6.out (t : Int) LT.out (ln_gt TK.out.1)).mono ?_
          rintro _ w8 ⟨rfl, v8, m8, _, _⟩
          have M8 := Lib.hid m8
          have RN : Hid (∀ j, j < (rem (ln k) t).length → (gt (rem (ln k) t) j).id ≠ (t : Int)) := (fun j hj c => rem_gone M6.out.q.ids LT.out j hj (c.trans (ln_gt TK.out.1).symm) : ∀ j, j < (rem (ln k) t).length → (gt (rem (ln k) t) j).id ≠ (t : Int))
          have RL : Hid ((rem (ln k) t).length = m) := (by have := rem_len LT.out; have := LN.out; have := TK.out.2.2; omega : (rem (ln k) t).length = m)
          clear m8
          go_wp2_with fail
          refine (drop_no M8.out.q (t : Int) RN.out).mono ?_
          rintro _ w9 ⟨rfl, g9⟩
          have M9 := Lib.hid (M8.out.later g9)
          clear g9
          go_wp2_with fail
          refine (len_is M9.out.q RL.out).mono ?_
          rintro _ _ ⟨rfl, rfl⟩
          go_wp2_with fail
          refine (m_put M9.out (k : Int) 0 (by decide) (by decide) (fun j hj c => by have := ln_mem (rem_mem (gt_mem hj)); omega) (by have := TK.out.2.2; rw [RL.out]; omega) (by have := N6.out; have := TK.out.2.2; rw [RL.out]; omega)).mono ?_
          rintro _ w10 ⟨rfl, v10, m10, _, _⟩
          obtain ⟨L2, hL⟩ : ∃ L2, rem (ln k) t ++ [⟨(k : Int), 0, 0⟩] = L2 := ⟨_, rfl⟩
          have LL : Hid (L2.length = k) := (by have := TK.out.2.2; rw [← hL, List.length_append, RL.out, List.length_singleton]; omega : L2.length = k)
          have LM : Hid (∀ x ∈ L2, x.id ≤ (k : Int)) := (fun x hx => by
            rw [← hL] at hx
            rcases List.mem_append.1 hx with hx | hx
            · have := ln_mem (rem_mem hx); omega
            · rw [List.mem_singleton.1 hx]; exact Int.le_refl _ : ∀ x ∈ L2, x.id ≤ (k : Int))
          rw [hL] at m10
          have M10 := Lib.hid m10
          clear m10 hL
          go_wp2_with fail
          refine (put_full M10.out.q ((k : Int) + 1) 0 (by decide) (by decide) (fun j hj c => by have := LM.out _ (gt_mem hj); omega) (by rw [LL.out]; exact Int.le_refl _)).mono ?_
          rintro _ w11 ⟨rfl, g11⟩
          have M11 := Lib.hid (M10.out.later g11)
          clear g11
          go_wp2_with fail
          obtain ⟨f, hf⟩ := fst_ex 3 L2 (by rw [LL.out]; exact TK.out.2.1) M11.out.q.ids
          have T := m_take M11.out hf (by decide) (by decide)
          obtain ⟨y, hy⟩ : ∃ y, gt L2 f = y := ⟨_, rfl⟩
          rw [hy] at T
          refine T.mono ?_
          rintro _ w12 ⟨rfl, v12, m12, _, _⟩
          have M12 := Lib.hid (m12.later ((Grw.rfl' w12).alloc (.cells #[.int .i64 y.id, .int .i64 y.cl, .int .i64 y.ca] 37)))
          have FL := Lib.hid (rem_len hf.lt)
          clear m12 T hf hy
          simp only [wv]
          go_wp2_with fail
          refine (m_put M12.out ((k : Int) + 1) 0 (by decide) (by decide) (fun j hj c => by have := LM.out _ (rem_mem (gt_mem hj)); omega) (by have := FL.out; have := LL.out; omega) (by have := N6.out; have := FL.out; have := LL.out; omega)).mono ?_
          rintro _ w13 ⟨rfl, v13, m13, _, _⟩
          have M13 := Lib.hid m13
          clear m13
          go_wp2_with fail
          refine (count_is M13.out.q).mono ?_
          rintro _ _ ⟨rfl, rfl⟩
          go_wp2_with fail
          refine (wakes_any w13).mono ?_
          rintro _ w14 ⟨rfl, g14⟩
          have M14 := Lib.hid (M13.out.g.trans g14)
          clear g14
          go_wp2_with fail
          go_ret
          exact ⟨rfl, M14.out⟩
end Go.Proofs.Ytdindhmbofddoaa
