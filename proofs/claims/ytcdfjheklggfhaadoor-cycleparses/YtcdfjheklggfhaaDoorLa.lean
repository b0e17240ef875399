/- The walks of CycleParses and CycleBack. -/
import Derived.Test.YtcdfjheklggfhaaDoorXi
import Derived.Test.YtcdfjheklggfhaaDoorXk
namespace Go.Proofs.YtcdfjheklggfhaaDoor
open Go.RowKit SM
set_option linter.unusedSimpArgs false
set_option linter.unusedVariables false

set_option maxHeartbeats 2000000 in
set_option maxRecDepth 100000 in
theorem parses_walk (s : ByteArray) (w : World) (hs : s.size ≤ 9223372036854775807) :
    Calls Tryd.prog 3 #[.string s] w fun e w' => e = .returned (.bool true) ∧ Grw w w' := by
  by_cases h : s.size ≤ 300
  · have h' : ¬ (300 : Int) < s.size := by omega
    have P := Lib.hid (fun w => cparse_any s w hs)
    have R := Lib.hid (fun w => rcparse_any s w hs)
    generalize cyN s.data.toList = n at *
    generalize cyV s.data.toList = v at *
    generalize cyE s.data.toList = e at *
    go_enter Tryd.func3, Tryd.ntmps3
    go_wp2_with fail
    refine (P.out _).mono ?_
    rintro _ w1 ⟨rfl, hw1⟩
    go_wp2_with fail
    refine (R.out _).mono ?_
    rintro _ w2 ⟨rfl, hw2⟩
    have K := Kp.grown hw2
    have G := Grw.trans hw1 hw2.two
    have c0 := (K.later ((Grw.rfl' _).alloc (.cells #[.int .i64 n, .int .u64 v] 25))).t.c0
    have c1 := (K.later ((Grw.rfl' _).alloc (.cells #[.int .i64 n, .int .u64 v] 25))).t.c1
    clear K hw1 hw2 P R
    go_wp2_with fail
    refine (wakes_any _).mono ?_
    rintro _ w3 ⟨rfl, hw3⟩
    go_wp2_with fail
    go_ret
    exact ⟨rfl, Grw.trans G hw3.two⟩
  · have h' : (300 : Int) < s.size := by omega
    go_enter Tryd.func3, Tryd.ntmps3
    go_wp2_with fail
    refine (wakes_any _).mono ?_
    rintro _ w3 ⟨rfl, hw3⟩
    go_wp2_with fail
    go_ret
    exact ⟨rfl, hw3⟩

set_option maxHeartbeats 2000000 in
set_option maxRecDepth 100000 in
theorem back_long (n : Int) (x : Nat) (s : ByteArray) (w : World) (h : ¬ s.size ≤ 300) (hs : s.size ≤ 9223372036854775807) :
    Calls Tryd.prog 5 #[.agg #[.int .i64 n, .int .u64 x], .string s] w fun e w' => e = .returned (.bool true) ∧ Grw w w' := by
  have h' : (300 : Int) < s.size := by omega
  go_enter Tryd.func5, Tryd.ntmps5
  go_wp2_with fail
  refine (wakes_any _).mono ?_
  rintro _ w3 ⟨rfl, hw3⟩
  go_wp2_with fail
  go_ret
  exact ⟨rfl, hw3.two⟩

set_option maxHeartbeats 2000000 in
set_option maxRecDepth 100000 in
theorem back_yy (n : Nat) (x : Nat) (s : ByteArray) (w : World) (h : s.size ≤ 300) (t : Tab w) (h1 : 1 ≤ n) (h2 : n ≤ 1000000) (h3 : 1 ≤ x) (h4 : x ≤ top) (hp : cyE s.data.toList = 0) :
    Calls Tryd.prog 5 #[.agg #[.int .i64 n, .int .u64 x], .string s] w fun e w' => e = .returned (.bool true) ∧ Grw w w' := by
  have h' : (s.size : Int) ≤ 300 := by omega
  obtain ⟨b, hb⟩ := ba_of (cycS n x)
  have hbz : b.size ≤ 60 := by have := cycS_len n x h2 h4; rw [size_len, hb]; exact this
  have P := Lib.hid (fun w' (g : Grw w w') => cprint_yes n x b w' h1 h2 h3 h4 (tab_grw g t) hb)
  obtain ⟨r1, r2, r3⟩ := cyc_back n x h1 h2 h3 h4
  rw [← hb] at r1 r2 r3
  have Q := Lib.hid (fun w => cparse_at b n x 0 w (by omega) r2 r3 r1)
  have E := fun w => good_any n x w (by omega) (by omega) (by unfold top at h4; omega)
  rw [good_of h1 h2 h3 h4] at E
  replace E := Lib.hid E
  obtain ⟨m, hm⟩ : ∃ m, cyN s.data.toList = m := ⟨_, rfl⟩
  obtain ⟨y, hy⟩ : ∃ y, cyV s.data.toList = y := ⟨_, rfl⟩
  obtain ⟨g1, g2, g3, g4⟩ := cy_good hp
  rw [hm] at g1 g2
  rw [hy] at g3 g4
  have S := Lib.hid (fun w => cparse_at s m y 0 w (by omega) hm hy hp)
  obtain ⟨c, hc⟩ := ba_of (cycS m y)
  have hcz : c.size ≤ 60 := by have := cycS_len m y g2 g4; rw [size_len, hc]; exact this
  have P2 := Lib.hid (fun w' (g : Grw w w') => cprint_yes m y c w' g1 g2 g3 g4 (tab_grw g t) hc)
  obtain ⟨q1, q2, q3⟩ := cyc_back m y g1 g2 g3 g4
  rw [← hc] at q1 q2 q3
  have Q2 := Lib.hid (fun w => cparse_at c m y 0 w (by omega) q2 q3 q1)
  have E2 := fun w => good_any m y w (by omega) (by omega) (by unfold top at g4; omega)
  rw [good_of g1 g2 g3 g4] at E2
  replace E2 := Lib.hid E2
  clear t h hb r1 r2 r3 hbz h4 hm hy hp hc hcz q1 q2 q3 g4
  go_enter Tryd.func5, Tryd.ntmps5
  go_wp2_with fail
  refine (P.out _ ((Grw.rfl' _).alloc _)).mono ?_
  rintro _ w1 ⟨rfl, hw1⟩
  have K := Kp.grown hw1
  have G := hw1.two
  clear hw1 P
  go_wp2_with fail
  refine (Q.out _).mono ?_
  rintro _ w2 ⟨rfl, hw2⟩
  replace K := K.later hw2
  replace G := Grw.trans G hw2
  have c0 := (K.later ((Grw.rfl' _).alloc (.cells #[.int .i64 n, .int .u64 x] 25))).t.c0
  have c1 := (K.later ((Grw.rfl' _).alloc (.cells #[.int .i64 n, .int .u64 x] 25))).t.c1
  clear hw2 Q K
  go_wp2_with fail
  refine (E.out _).mono ?_
  rintro _ w3 ⟨rfl, hw3⟩
  replace G := Grw.trans G hw3.two
  clear hw3 E c0 c1
  go_wp2_with fail
  refine (S.out _).mono ?_
  rintro _ w4 ⟨rfl, hw4⟩
  replace G := Grw.trans G hw4
  clear hw4 S
  go_wp2_with fail
  refine (P2.out _ (G.alloc _)).mono ?_
  rintro _ w5 ⟨rfl, hw5⟩
  have K2 := Kp.grown hw5
  replace G := Grw.trans G hw5.two
  clear hw5 P2
  go_wp2_with fail
  refine (Q2.out _).mono ?_
  rintro _ w6 ⟨rfl, hw6⟩
  replace K2 := K2.later hw6
  replace G := Grw.trans G hw6
  have d0 := (K2.later ((Grw.rfl' _).alloc (.cells #[.int .i64 m, .int .u64 y] 25))).t.c0
  have d1 := (K2.later ((Grw.rfl' _).alloc (.cells #[.int .i64 m, .int .u64 y] 25))).t.c1
  clear hw6 Q2
  go_wp2_with fail
  refine (E2.out _).mono ?_
  rintro _ w7 ⟨rfl, hw7⟩
  have K3 := Kp.grown hw7
  replace K2 := K2.later hw7.two
  replace G := Grw.trans G hw7.two
  clear hw7 E2 d0 d1
  have d0 := K2.t.c0
  have d1 := K2.t.c1
  have e0 := K3.t.c0
  have e1 := K3.t.c1
  clear K2 K3
  go_wp2_with fail
  refine (wakes_any _).mono ?_
  rintro _ w8 ⟨rfl, hw8⟩
  clear d0 d1 e0 e1
  go_wp2_with fail
  go_ret
  exact ⟨rfl, Grw.trans G hw8⟩

set_option maxHeartbeats 2000000 in
set_option maxRecDepth 100000 in
theorem back_yn (n : Nat) (x : Nat) (s : ByteArray) (w : World) (h : s.size ≤ 300) (t : Tab w) (h1 : 1 ≤ n) (h2 : n ≤ 1000000) (h3 : 1 ≤ x) (h4 : x ≤ top) (hp : cyE s.data.toList ≠ 0) :
    Calls Tryd.prog 5 #[.agg #[.int .i64 n, .int .u64 x], .string s] w fun e w' => e = .returned (.bool true) ∧ Grw w w' := by
  have h' : (s.size : Int) ≤ 300 := by omega
  obtain ⟨b, hb⟩ := ba_of (cycS n x)
  have hbz : b.size ≤ 60 := by have := cycS_len n x h2 h4; rw [size_len, hb]; exact this
  have P := Lib.hid (fun w' (g : Grw w w') => cprint_yes n x b w' h1 h2 h3 h4 (tab_grw g t) hb)
  obtain ⟨r1, r2, r3⟩ := cyc_back n x h1 h2 h3 h4
  rw [← hb] at r1 r2 r3
  have Q := Lib.hid (fun w => cparse_at b n x 0 w (by omega) r2 r3 r1)
  have E := fun w => good_any n x w (by omega) (by omega) (by unfold top at h4; omega)
  rw [good_of h1 h2 h3 h4] at E
  replace E := Lib.hid E
  have S := Lib.hid (fun w => cparse_any s w (by omega))
  have hp' : ((cyE s.data.toList : Int) == 0) = false := by simp; omega
  generalize cyN s.data.toList = m at *
  generalize cyV s.data.toList = y at *
  generalize cyE s.data.toList = e at *
  clear t h hb r1 r2 r3 hbz h4 hp
  go_enter Tryd.func5, Tryd.ntmps5
  go_wp2_with fail
  refine (P.out _ ((Grw.rfl' _).alloc _)).mono ?_
  rintro _ w1 ⟨rfl, hw1⟩
  have K := Kp.grown hw1
  have G := hw1.two
  clear hw1 P
  go_wp2_with fail
  refine (Q.out _).mono ?_
  rintro _ w2 ⟨rfl, hw2⟩
  replace K := K.later hw2
  replace G := Grw.trans G hw2
  have c0 := (K.later ((Grw.rfl' _).alloc (.cells #[.int .i64 n, .int .u64 x] 25))).t.c0
  have c1 := (K.later ((Grw.rfl' _).alloc (.cells #[.int .i64 n, .int .u64 x] 25))).t.c1
  clear hw2 Q K
  go_wp2_with fail
  refine (E.out _).mono ?_
  rintro _ w3 ⟨rfl, hw3⟩
  replace G := Grw.trans G hw3.two
  clear hw3 E c0 c1
  go_wp2_with fail
  refine (S.out _).mono ?_
  rintro _ w4 ⟨rfl, hw4⟩
  replace G := Grw.trans G hw4
  clear hw4 S
  go_wp2_with fail
  refine (wakes_any _).mono ?_
  rintro _ w8 ⟨rfl, hw8⟩
  go_wp2_with fail
  go_ret
  exact ⟨rfl, Grw.trans G hw8.two⟩

set_option maxHeartbeats 2000000 in
set_option maxRecDepth 100000 in
theorem back_ny (n : Int) (x : Nat) (s : ByteArray) (w : World) (h : s.size ≤ 300) (t : Tab w) (h1 : -9223372036854775808 ≤ n) (h2 : n ≤ 9223372036854775807) (h6 : x < 18446744073709551616) (hg : goodB n x = false) (hp : cyE s.data.toList = 0) :
    Calls Tryd.prog 5 #[.agg #[.int .i64 n, .int .u64 x], .string s] w fun e w' => e = .returned (.bool true) ∧ Grw w w' := by
  have h' : (s.size : Int) ≤ 300 := by omega
  have P := Lib.hid (fun w' (_ : Grw w w') => cprint_no n x w' h1 h2 h6 hg)
  obtain ⟨m, hm⟩ : ∃ m, cyN s.data.toList = m := ⟨_, rfl⟩
  obtain ⟨y, hy⟩ : ∃ y, cyV s.data.toList = y := ⟨_, rfl⟩
  obtain ⟨g1, g2, g3, g4⟩ := cy_good hp
  rw [hm] at g1 g2
  rw [hy] at g3 g4
  have S := Lib.hid (fun w => cparse_at s m y 0 w (by omega) hm hy hp)
  obtain ⟨c, hc⟩ := ba_of (cycS m y)
  have hcz : c.size ≤ 60 := by have := cycS_len m y g2 g4; rw [size_len, hc]; exact this
  have P2 := Lib.hid (fun w' (g : Grw w w') => cprint_yes m y c w' g1 g2 g3 g4 (tab_grw g t) hc)
  obtain ⟨q1, q2, q3⟩ := cyc_back m y g1 g2 g3 g4
  rw [← hc] at q1 q2 q3
  have Q2 := Lib.hid (fun w => cparse_at c m y 0 w (by omega) q2 q3 q1)
  have E2 := fun w => good_any m y w (by omega) (by omega) (by unfold top at g4; omega)
  rw [good_of g1 g2 g3 g4] at E2
  replace E2 := Lib.hid E2
  clear t h hg hm hy hp hc hcz q1 q2 q3 g4
  go_enter Tryd.func5, Tryd.ntmps5
  go_wp2_with fail
  refine (P.out _ ((Grw.rfl' _).alloc _)).mono ?_
  rintro _ w1 ⟨rfl, hw1⟩
  have K := Kp.grown hw1
  have G := hw1.two
  clear hw1 P
  clear K
  go_wp2_with fail
  refine (S.out _).mono ?_
  rintro _ w4 ⟨rfl, hw4⟩
  replace G := Grw.trans G hw4
  clear hw4 S
  go_wp2_with fail
  refine (P2.out _ (G.alloc _)).mono ?_
  rintro _ w5 ⟨rfl, hw5⟩
  have K2 := Kp.grown hw5
  replace G := Grw.trans G hw5.two
  clear hw5 P2
  go_wp2_with fail
  refine (Q2.out _).mono ?_
  rintro _ w6 ⟨rfl, hw6⟩
  replace K2 := K2.later hw6
  replace G := Grw.trans G hw6
  have d0 := (K2.later ((Grw.rfl' _).alloc (.cells #[.int .i64 m, .int .u64 y] 25))).t.c0
  have d1 := (K2.later ((Grw.rfl' _).alloc (.cells #[.int .i64 m, .int .u64 y] 25))).t.c1
  clear hw6 Q2
  go_wp2_with fail
  refine (E2.out _).mono ?_
  rintro _ w7 ⟨rfl, hw7⟩
  have K3 := Kp.grown hw7
  replace K2 := K2.later hw7.two
  replace G := Grw.trans G hw7.two
  clear hw7 E2 d0 d1
  have d0 := K2.t.c0
  have d1 := K2.t.c1
  have e0 := K3.t.c0
  have e1 := K3.t.c1
  clear K2 K3
  go_wp2_with fail
  refine (wakes_any _).mono ?_
  rintro _ w8 ⟨rfl, hw8⟩
  clear d0 d1 e0 e1
  go_wp2_with fail
  go_ret
  exact ⟨rfl, Grw.trans G hw8⟩

set_option maxHeartbeats 2000000 in
set_option maxRecDepth 100000 in
theorem back_nn (n : Int) (x : Nat) (s : ByteArray) (w : World) (h : s.size ≤ 300) (t : Tab w) (h1 : -9223372036854775808 ≤ n) (h2 : n ≤ 9223372036854775807) (h6 : x < 18446744073709551616) (hg : goodB n x = false) (hp : cyE s.data.toList ≠ 0) :
    Calls Tryd.prog 5 #[.agg #[.int .i64 n, .int .u64 x], .string s] w fun e w' => e = .returned (.bool true) ∧ Grw w w' := by
  have h' : (s.size : Int) ≤ 300 := by omega
  have P := Lib.hid (fun w' (_ : Grw w w') => cprint_no n x w' h1 h2 h6 hg)
  have S := Lib.hid (fun w => cparse_any s w (by omega))
  have hp' : ((cyE s.data.toList : Int) == 0) = false := by simp; omega
  generalize cyN s.data.toList = m at *
  generalize cyV s.data.toList = y at *
  generalize cyE s.data.toList = e at *
  clear t h hg hp
  go_enter Tryd.func5, Tryd.ntmps5
  go_wp2_with fail
  refine (P.out _ ((Grw.rfl' _).alloc _)).mono ?_
  rintro _ w1 ⟨rfl, hw1⟩
  have K := Kp.grown hw1
  have G := hw1.two
  clear hw1 P
  clear K
  go_wp2_with fail
  refine (S.out _).mono ?_
  rintro _ w4 ⟨rfl, hw4⟩
  replace G := Grw.trans G hw4
  clear hw4 S
  go_wp2_with fail
  refine (wakes_any _).mono ?_
  rintro _ w8 ⟨rfl, hw8⟩
  go_wp2_with fail
  go_ret
  exact ⟨rfl, Grw.trans G hw8.two⟩

theorem good_nat {n : Int} {x : Nat} (h : goodB n x = true) : ∃ m : Nat, n = m ∧ 1 ≤ m ∧ m ≤ 1000000 ∧ 1 ≤ x ∧ x ≤ top := by
  have hh := of_decide_eq_true h
  obtain ⟨m, rfl⟩ := Int.eq_ofNat_of_zero_le (show 0 ≤ n by omega)
  exact ⟨m, rfl, by omega, by omega, hh.2.2.1, hh.2.2.2⟩

theorem back_walk (n : Int) (x : Nat) (s : ByteArray) (w : World) (h1 : -9223372036854775808 ≤ n) (h2 : n ≤ 9223372036854775807) (h6 : x < 18446744073709551616) (hs : s.size ≤ 9223372036854775807) (t : Tab w) :
    Calls Tryd.prog 5 #[.agg #[.int .i64 n, .int .u64 x], .string s] w fun e w' => e = .returned (.bool true) ∧ Grw w w' := by
  by_cases h : s.size ≤ 300
  · by_cases hp : cyE s.data.toList = 0
    · rcases hg : goodB n x with _ | _
      · exact back_ny n x s w h t h1 h2 h6 hg hp
      · obtain ⟨m, rfl, a, b, c, d⟩ := good_nat hg
        exact back_yy m x s w h t a b c d hp
    · rcases hg : goodB n x with _ | _
      · exact back_nn n x s w h t h1 h2 h6 hg hp
      · obtain ⟨m, rfl, a, b, c, d⟩ := good_nat hg
        exact back_yn m x s w h t a b c d hp
  · exact back_long n x s w h hs
end Go.Proofs.YtcdfjheklggfhaaDoor
