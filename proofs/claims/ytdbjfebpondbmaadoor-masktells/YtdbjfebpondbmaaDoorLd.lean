/- The law MaskTells at this program. -/
import Derived.Test.YtdbjfebpondbmaaDoorLa
namespace Go.Proofs.YtdbjfebpondbmaaDoor
open Go.RowKit MK
set_option linter.unusedSimpArgs false

set_option maxHeartbeats 2000000 in
set_option maxRecDepth 100000 in
theorem tells_long (m : Nat) (i : Int) (ao : Option Addr) (n cap : Nat) (w : World) (hn : 200 < n) (t : Tab w) :
    Calls Tryd.prog 3 #[.int .u64 m, .int .i64 i, .slice ao n cap] w fun e w' => e = .returned (.bool true) ∧ Grw w w' := by
  have W := Lib.hid (wakes_any w t)
  have hni : (200 : Int) < (n : Int) := by omega
  go_enter Tryd.func3, Tryd.ntmps3
  go_wp2_with fail
  refine W.out.mono ?_
  rintro _ w3 ⟨rfl, hw3⟩
  go_wp2_with fail
  go_ret
  exact ⟨rfl, hw3⟩

set_option maxHeartbeats 4000000 in
set_option maxRecDepth 100000 in
theorem tells_short (m : Nat) (i : Int) (ao : Option Addr) (n cap : Nat) (f : Nat → Int) (w : World) (hm : m < 18446744073709551616) (hn : n ≤ 200) (hrow : RowF w ao n f) (t : Tab w) :
    Calls Tryd.prog 3 #[.int .u64 m, .int .i64 i, .slice ao n cap] w fun e w' => e = .returned (.bool true) ∧ Grw w w' := by
  have W := Lib.hid (fun w' (g : Grw w w') => wakes_any w' (tab_grw g t))
  have A1 := next_any m i w hm t
  have A2 := fun w => rnext_any m i w
  obtain ⟨a, hae⟩ : ∃ a, ov (nxt m i) = a := ⟨_, rfl⟩
  obtain ⟨p, hpe⟩ : ∃ p, (nxt m i).isSome = p := ⟨_, rfl⟩
  rw [hae, hpe] at A1
  simp only [hae, hpe] at A2
  have B1 := round_any m i w hm t
  have B2 := fun w => rround_any m i w
  obtain ⟨b, hbe⟩ : ∃ b, ov (rnd m i) = b := ⟨_, rfl⟩
  obtain ⟨q, hqe⟩ : ∃ q, (rnd m i).isSome = q := ⟨_, rfl⟩
  rw [hbe, hqe] at B1
  simp only [hbe, hqe] at B2
  have C1 := with_any m i w hm
  have C2 := fun w => rwith_any m i w hm
  obtain ⟨x, hxe⟩ : ∃ x, wth m i = x := ⟨_, rfl⟩
  rw [hxe] at C1
  simp only [hxe] at C2
  have D1 := fun w => without_any m i w hm
  have D2 := fun w => rwithout_any m i w hm
  obtain ⟨y, hye⟩ : ∃ y, wot m i = y := ⟨_, rfl⟩
  simp only [hye] at D1 D2
  have E1 := fun w => has_any m i w hm
  have E2 := fun w => rhas_any m i w
  obtain ⟨h, hhe⟩ : ∃ h, has m i = h := ⟨_, rfl⟩
  simp only [hhe] at E1 E2
  have F1 := Lib.hid (fun w => list_any m w hm)
  have F2 := Lib.hid (fun w => rlist_any m w)
  have I := Lib.hid (fun (w' : World) (u v : Value) (hu : RowL w' u (els m)) (hv : RowL w' v (els m)) => ints_list (Nat.le_trans (els_len m) (by omega)) hu hv)
  have O1 := fun w' (g : Grw w w') => of_any ao n cap f w' (by omega) (hrow.later g)
  have O2 := fun w' (g : Grw w w') => rof_any ao n cap f w' (by omega) (hrow.later g)
  obtain ⟨z, hze⟩ : ∃ z, ofL (fl n f) = z := ⟨_, rfl⟩
  simp only [hze] at O1 O2
  replace A1 := Lib.hid A1
  replace A2 := Lib.hid A2
  replace B1 := Lib.hid B1
  replace B2 := Lib.hid B2
  replace C1 := Lib.hid C1
  replace C2 := Lib.hid C2
  replace D1 := Lib.hid D1
  replace D2 := Lib.hid D2
  replace E1 := Lib.hid E1
  replace E2 := Lib.hid E2
  replace O1 := Lib.hid O1
  replace O2 := Lib.hid O2
  have hni : ¬ (200 : Int) < (n : Int) := by omega
  clear hae hpe hbe hqe hxe hye hhe hze hrow t hn
  go_enter Tryd.func3, Tryd.ntmps3
  go_wp2_with fail
  refine A1.out.mono ?_
  rintro _ w1 ⟨rfl, rfl⟩
  go_wp2_with fail
  refine B1.out.mono ?_
  rintro _ w1 ⟨rfl, rfl⟩
  go_wp2_with fail
  refine C1.out.mono ?_
  rintro _ w1 ⟨rfl, rfl⟩
  go_wp2_with fail
  refine (C2.out _).mono ?_
  rintro _ w1 ⟨rfl, g1⟩
  go_wp2_with fail
  refine (D1.out _).mono ?_
  rintro _ w2 ⟨rfl, rfl⟩
  go_wp2_with fail
  refine (D2.out _).mono ?_
  rintro _ w2 ⟨rfl, g2⟩
  replace g2 := g1.trans g2
  clear g1
  go_wp2_with fail
  refine (E1.out _).mono ?_
  rintro _ w3 ⟨rfl, rfl⟩
  go_wp2_with fail
  refine (E2.out _).mono ?_
  rintro _ w3 ⟨rfl, g3⟩
  replace g3 := g2.trans g3
  clear g2
  go_wp2_with fail
  refine (A2.out _).mono ?_
  rintro _ w4 ⟨rfl, g4⟩
  replace g4 := g3.trans g4
  clear g3
  go_wp2_with fail
  refine (B2.out _).mono ?_
  rintro _ w5 ⟨rfl, g5⟩
  replace g5 := g4.trans g5
  clear g4
  go_wp2_with fail
  refine (F1.out _).mono ?_
  rintro _ w6 ⟨u, rfl, hu, g6⟩
  replace g6 := g5.trans g6
  have RU := Lib.hid (show RowL w6 u (els m) from hu.row)
  clear g5 hu
  go_wp2_with fail
  refine (F2.out _).mono ?_
  rintro _ w7 ⟨v, rfl, hv, g7⟩
  have RV := Lib.hid (show RowL w7 v (els m) from hv.row)
  have RX := Lib.hid (RU.out.later g7)
  replace g7 := g6.trans g7
  clear g6 hv RU
  go_wp2_with fail
  refine (I.out _ _ _ RX.out RV.out).mono ?_
  rintro _ w8 ⟨rfl, g8⟩
  replace g8 := g7.trans g8
  clear g7 RX RV
  go_wp2_with fail
  refine (O1.out _ g8).mono ?_
  rintro _ w9 ⟨rfl, rfl⟩
  go_wp2_with fail
  refine (O2.out _ g8).mono ?_
  rintro _ w9 ⟨rfl, g9⟩
  replace g9 := g8.trans g9
  clear g8
  go_wp2_with fail
  refine (W.out _ g9).mono ?_
  rintro _ w10 ⟨rfl, g10⟩
  replace g10 := g9.trans g10
  clear g9
  go_wp2_with fail
  go_ret
  exact ⟨rfl, g10⟩
theorem tells_walk (m : Nat) (i : Int) (ao : Option Addr) (n cap : Nat) (f : Nat → Int) (w : World) (hm : m < 18446744073709551616) (hrow : RowF w ao n f) (t : Tab w) :
    Calls Tryd.prog 3 #[.int .u64 m, .int .i64 i, .slice ao n cap] w fun e w' => e = .returned (.bool true) ∧ Grw w w' := by
  by_cases h : n ≤ 200
  · exact tells_short m i ao n cap f w hm h hrow t
  · exact tells_long m i ao n cap w (by omega) t
end Go.Proofs.YtdbjfebpondbmaaDoor
