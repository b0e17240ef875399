/- The laws MaskOne and MaskNext at this program. -/
import Derived.Test.YtdbjfebpondbmaaDoorWg
namespace Go.Proofs.YtdbjfebpondbmaaDoor
open Go.RowKit MK
set_option linter.unusedSimpArgs false

theorem without_is (m v : Nat) (i : Int) (w : World) (hm : m < 18446744073709551616) (h : wot m i = v) :
    Calls Tryd.prog 13 #[.int .u64 m, .int .i64 i] w fun e w' => e = .returned (.int .u64 (v : Nat)) ∧ w = w' := by rw [← h]; exact without_any m i w hm
theorem hasI_is (m : Nat) (i : Int) (b : Bool) (w : World) (hm : m < 18446744073709551616) (h : has m i = b) :
    Calls Tryd.prog 15 #[.int .u64 m, .int .i64 i] w fun e w' => e = .returned (.bool b) ∧ w = w' := by rw [← h]; exact has_any m i w hm
theorem wot_out {m : Nat} {i : Int} (hm : m < 2 ^ 64) (h : ¬ (0 ≤ i ∧ i < 64)) : wot m i = m :=
  ext64 (wot_lt hm i) hm fun k hk => by
    rw [wot_bit m i k hk]
    have : ¬ i = (k : Int) := by omega
    simp [this]
theorem wth_wot {m : Nat} (hm : m < 2 ^ 64) (i : Int) : wth (wot m i) i = wth m i :=
  ext64 (wth_lt (wot_lt hm i) i) (wth_lt hm i) fun k hk => by
    rw [wth_bit _ i k hk, wot_bit m i k hk, wth_bit m i k hk]
    cases m.testBit k <;> cases decide (i = (k : Int)) <;> rfl
theorem wot_wth {m : Nat} (hm : m < 2 ^ 64) (i : Int) : wot (wth m i) i = wot m i :=
  ext64 (wot_lt (wth_lt hm i) i) (wot_lt hm i) fun k hk => by
    rw [wot_bit _ i k hk, wot_bit m i k hk, wth_bit m i k hk]
    cases m.testBit k <;> cases decide (i = (k : Int)) <;> rfl
theorem wth_wth {m : Nat} (hm : m < 2 ^ 64) (i : Int) : wth (wth m i) i = wth m i :=
  ext64 (wth_lt (wth_lt hm i) i) (wth_lt hm i) fun k hk => by
    rw [wth_bit _ i k hk, wth_bit m i k hk]
    cases m.testBit k <;> cases decide (i = (k : Int)) <;> rfl
theorem wot_wot {m : Nat} (hm : m < 2 ^ 64) (i : Int) : wot (wot m i) i = wot m i :=
  ext64 (wot_lt (wot_lt hm i) i) (wot_lt hm i) fun k hk => by
    rw [wot_bit _ i k hk, wot_bit m i k hk]
    cases m.testBit k <;> cases decide (i = (k : Int)) <;> rfl

set_option maxHeartbeats 1000000 in
set_option maxRecDepth 100000 in
theorem one_out (m : Nat) (i : Int) (w : World) (hm : m < 18446744073709551616) (t : Tab w) (h : ¬ (0 ≤ i ∧ i < 64)) :
    Calls Tryd.prog 5 #[.int .u64 m, .int .i64 i] w fun e w' => e = .returned (.bool true) ∧ Grw w w' := by
  have A := Lib.hid (with_is m m i w hm (wth_out h))
  have B := Lib.hid (without_is m m i w hm (wot_out hm h))
  have C := Lib.hid (hasI_is m i false w hm (has_out h))
  have W := Lib.hid (wakes_any w t)
  by_cases h0 : i < 0
  · clear h
    go_enter Tryd.func5, Tryd.ntmps5
    go_wp2_with fail
    refine A.out.mono ?_
    rintro _ w1 ⟨rfl, rfl⟩
    go_wp2_with fail
    refine B.out.mono ?_
    rintro _ w1 ⟨rfl, rfl⟩
    go_wp2_with fail
    refine C.out.mono ?_
    rintro _ w1 ⟨rfl, rfl⟩
    go_wp2_with fail
    refine W.out.mono ?_
    rintro _ w1 ⟨rfl, hw1⟩
    go_wp2_with fail
    go_ret
    exact ⟨rfl, hw1⟩
  · have h1 : (64 : Int) ≤ i := by omega
    clear h
    go_enter Tryd.func5, Tryd.ntmps5
    go_wp2_with fail
    refine A.out.mono ?_
    rintro _ w1 ⟨rfl, rfl⟩
    go_wp2_with fail
    refine B.out.mono ?_
    rintro _ w1 ⟨rfl, rfl⟩
    go_wp2_with fail
    refine C.out.mono ?_
    rintro _ w1 ⟨rfl, rfl⟩
    go_wp2_with fail
    refine W.out.mono ?_
    rintro _ w1 ⟨rfl, hw1⟩
    go_wp2_with fail
    go_ret
    exact ⟨rfl, hw1⟩

set_option maxHeartbeats 1000000 in
set_option maxRecDepth 100000 in
theorem one_in (m q : Nat) (w : World) (hm : m < 18446744073709551616) (t : Tab w) (hq : q < 64) :
    Calls Tryd.prog 5 #[.int .u64 m, .int .i64 q] w fun e w' => e = .returned (.bool true) ∧ Grw w w' := by
  have hia : ∀ k, k < 64 → (wth m q).testBit k = (m.testBit k || decide ((q : Int) = (k : Int))) := fun k hk => wth_bit m q k hk
  have hib : ∀ k, k < 64 → (wot m q).testBit k = (m.testBit k && !decide ((q : Int) = (k : Int))) := fun k hk => wot_bit m q k hk
  have e1 := wth_wot hm (q : Int)
  have e2 := wot_wth hm (q : Int)
  have e3 := wth_wth hm (q : Int)
  have e4 := wot_wot hm (q : Int)
  have ha : wth m q < 18446744073709551616 := wth_lt hm q
  have hb : wot m q < 18446744073709551616 := wot_lt hm q
  obtain ⟨a, hae⟩ : ∃ a, wth m q = a := ⟨_, rfl⟩
  obtain ⟨b, hbe⟩ : ∃ b, wot m q = b := ⟨_, rfl⟩
  have A := Lib.hid (with_is m a q w hm hae)
  have B := Lib.hid (without_is m b q w hm hbe)
  rw [hae] at hia e1 e2 e3 ha
  rw [hbe] at hib e1 e2 e4 hb
  have C1 := Lib.hid (has_is a q true w ha hq (by rw [hia q hq]; simp))
  have C2 := Lib.hid (has_is b q false w hb hq (by rw [hib q hq]; simp))
  have C3 := Lib.hid (with_is b a q w hb e1)
  have C4 := Lib.hid (without_is a b q w ha e2)
  have C5 := Lib.hid (with_is a a q w ha e3)
  have C6 := Lib.hid (without_is b b q w hb e4)
  have W := Lib.hid (wakes_any w t)
  have IA := Lib.hid hia
  have IB := Lib.hid hib
  have hq1 : ¬ (q : Int) < 0 := by omega
  have hq2 : ¬ (64 : Int) ≤ (q : Int) := by omega
  clear hia hib e1 e2 e3 e4 hae hbe
  go_enter Tryd.func5, Tryd.ntmps5
  go_wp2_with fail
  refine A.out.mono ?_
  rintro _ w1 ⟨rfl, rfl⟩
  go_wp2_with fail
  refine B.out.mono ?_
  rintro _ w1 ⟨rfl, rfl⟩
  go_wp2_with fail
  go_loopw [7] (fun c wr => ∃ k : Nat, k ≤ 64 ∧ c = .int .i64 k ∧ w = wr) (fun c _ => 64 - (intOf c).toNat)
  case atStart => exact ⟨0, Nat.zero_le _, rfl, rfl⟩
  case round =>
    obtain ⟨k, hk, rfl, rfl⟩ := hrel
    by_cases hk' : k < 64
    · have hki : (k : Int) < 64 := by omega
      by_cases hkq : (k : Int) = (q : Int)
      · have ht : ((k : Int) != (q : Int)) = false := by simp [hkq]
        clear hkq
        go_wp2_with fail
        go_roundw
        case rel => exact ⟨k + 1, by omega, by go_num, trivial⟩
        case measure => simp [intOf]; omega
      · have ht : ((k : Int) != (q : Int)) = true := by simp; omega
        have hqk : ¬ (q : Int) = (k : Int) := fun e => hkq e.symm
        rcases hc : m.testBit k with _ | _
        · have D1 := Lib.hid (has_is a k false w ha hk' (by rw [IA.out k hk', hc]; simp only [hqk]; rfl))
          have D2 := Lib.hid (has_is m k false w hm hk' hc)
          have D3 := Lib.hid (has_is b k false w hb hk' (by rw [IB.out k hk', hc]; simp only [hqk]; rfl))
          clear hkq hqk hc
          go_wp2_with fail
          refine D1.out.mono ?_
          rintro _ w1 ⟨rfl, rfl⟩
          go_wp2_with fail
          refine D2.out.mono ?_
          rintro _ w1 ⟨rfl, rfl⟩
          go_wp2_with fail
          refine D3.out.mono ?_
          rintro _ w1 ⟨rfl, rfl⟩
          go_wp2_with fail
          refine D2.out.mono ?_
          rintro _ w1 ⟨rfl, rfl⟩
          go_wp2_with fail
          go_roundw
          case rel => exact ⟨k + 1, by omega, by go_num, trivial⟩
          case measure => simp [intOf]; omega
        · have D1 := Lib.hid (has_is a k true w ha hk' (by rw [IA.out k hk', hc]; simp only [hqk]; rfl))
          have D2 := Lib.hid (has_is m k true w hm hk' hc)
          have D3 := Lib.hid (has_is b k true w hb hk' (by rw [IB.out k hk', hc]; simp only [hqk]; rfl))
          clear hkq hqk hc
          go_wp2_with fail
          refine D1.out.mono ?_
          rintro _ w1 ⟨rfl, rfl⟩
          go_wp2_with fail
          refine D2.out.mono ?_
          rintro _ w1 ⟨rfl, rfl⟩
          go_wp2_with fail
          refine D3.out.mono ?_
          rintro _ w1 ⟨rfl, rfl⟩
          go_wp2_with fail
          refine D2.out.mono ?_
          rintro _ w1 ⟨rfl, rfl⟩
          go_wp2_with fail
          go_roundw
          case rel => exact ⟨k + 1, by omega, by go_num, trivial⟩
          case measure => simp [intOf]; omega
    · have hki : ¬ (k : Int) < 64 := by omega
      go_wp2_with fail
      refine C1.out.mono ?_
      rintro _ w1 ⟨rfl, rfl⟩
      go_wp2_with fail
      refine C2.out.mono ?_
      rintro _ w1 ⟨rfl, rfl⟩
      go_wp2_with fail
      refine C3.out.mono ?_
      rintro _ w1 ⟨rfl, rfl⟩
      go_wp2_with fail
      refine C4.out.mono ?_
      rintro _ w1 ⟨rfl, rfl⟩
      go_wp2_with fail
      refine C5.out.mono ?_
      rintro _ w1 ⟨rfl, rfl⟩
      go_wp2_with fail
      refine C6.out.mono ?_
      rintro _ w1 ⟨rfl, rfl⟩
      go_wp2_with fail
      refine W.out.mono ?_
      rintro _ w1 ⟨rfl, hw1⟩
      go_wp2_with fail
      go_ret
      exact ⟨rfl, hw1⟩
theorem one_walk (m : Nat) (i : Int) (w : World) (hm : m < 18446744073709551616) (t : Tab w) :
    Calls Tryd.prog 5 #[.int .u64 m, .int .i64 i] w fun e w' => e = .returned (.bool true) ∧ Grw w w' := by
  by_cases h : 0 ≤ i ∧ i < 64
  · obtain ⟨q, rfl⟩ := Int.eq_ofNat_of_zero_le h.1
    exact one_in m q w hm t (by omega)
  · exact one_out m i w hm t h

set_option maxHeartbeats 1000000 in
set_option maxRecDepth 100000 in
theorem next_ns (m : Nat) (f : Int) (w : World) (n : Nat) (hm : m < 18446744073709551616) (t : Tab w) (hf : f < 0) (hx : nxt m f = some (n : Int)) (h6 : n < 64) (hb : m.testBit n = true) (hle : f ≤ (n : Int)) (hno : ∀ j : Nat, j < n → f ≤ (j : Int) → m.testBit j = false) :
    Calls Tryd.prog 6 #[.int .u64 m, .int .i64 f] w fun e w' => e = .returned (.bool true) ∧ Grw w w' := by
  have A := Lib.hid (next_is m f n true w hm t (by rw [hx]; rfl) (by rw [hx]; rfl))
  have B := Lib.hid (has_is m n true w hm h6 hb)
  have hnl : ¬ (n : Int) < f := by omega
  have W := Lib.hid (wakes_any w t)
  have NO := Lib.hid hno
  clear hno hx
  have hf2 : ¬ (0 : Int) ≤ f := by omega
  go_enter Tryd.func6, Tryd.ntmps6
  go_wp2_with fail
  refine A.out.mono ?_
  rintro _ w1 ⟨rfl, rfl⟩
  go_wp2_with fail
  refine B.out.mono ?_
  rintro _ w1 ⟨rfl, rfl⟩
  go_wp2_with fail
  go_loopw [8] (fun c wr => ∃ k : Nat, 0 ≤ k ∧ c = .int .i64 k ∧ w = wr) (fun c _ => n - (intOf c).toNat)
  case atStart => exact ⟨0, Nat.le_refl _, rfl, rfl⟩
  case round =>
    obtain ⟨k, hk, rfl, rfl⟩ := hrel
    by_cases hk' : k < n
    · have hki : (k : Int) < (n : Int) := by omega
      have C := Lib.hid (has_is m k false w hm (by omega) (NO.out k hk' (by omega)))
      go_wp2_with fail
      refine C.out.mono ?_
      rintro _ w1 ⟨rfl, rfl⟩
      go_wp2_with fail
      go_roundw
      case rel => exact ⟨k + 1, by omega, by go_num, trivial⟩
      case measure => simp [intOf]; omega
    · have hki : ¬ (k : Int) < (n : Int) := by omega
      go_wp2_with fail
      refine W.out.mono ?_
      rintro _ w1 ⟨rfl, hw1⟩
      go_wp2_with fail
      go_ret
      exact ⟨rfl, hw1⟩
set_option maxHeartbeats 1000000 in
set_option maxRecDepth 100000 in
theorem next_nz (m : Nat) (f : Int) (w : World) (hm : m < 18446744073709551616) (t : Tab w) (hf : f < 0) (hx : nxt m f = none) (hno : ∀ j : Nat, j < 64 → f ≤ (j : Int) → m.testBit j = false) :
    Calls Tryd.prog 6 #[.int .u64 m, .int .i64 f] w fun e w' => e = .returned (.bool true) ∧ Grw w w' := by
  have A := Lib.hid (next_is m f 0 false w hm t (by rw [hx]; rfl) (by rw [hx]; rfl))
  have W := Lib.hid (wakes_any w t)
  have NO := Lib.hid hno
  clear hno hx
  have hf2 : ¬ (0 : Int) ≤ f := by omega
  go_enter Tryd.func6, Tryd.ntmps6
  go_wp2_with fail
  refine A.out.mono ?_
  rintro _ w1 ⟨rfl, rfl⟩
  go_wp2_with fail
  go_loopw [8] (fun c wr => ∃ k : Nat, 0 ≤ k ∧ c = .int .i64 k ∧ w = wr) (fun c _ => 64 - (intOf c).toNat)
  case atStart => exact ⟨0, Nat.le_refl _, rfl, rfl⟩
  case round =>
    obtain ⟨k, hk, rfl, rfl⟩ := hrel
    by_cases hk' : k < 64
    · have hki : (k : Int) < 64 := by omega
      have C := Lib.hid (has_is m k false w hm (by omega) (NO.out k hk' (by omega)))
      go_wp2_with fail
      refine C.out.mono ?_
      rintro _ w1 ⟨rfl, rfl⟩
      go_wp2_with fail
      go_roundw
      case rel => exact ⟨k + 1, by omega, by go_num, trivial⟩
      case measure => simp [intOf]; omega
    · have hki : ¬ (k : Int) < 64 := by omega
      go_wp2_with fail
      refine W.out.mono ?_
      rintro _ w1 ⟨rfl, hw1⟩
      go_wp2_with fail
      go_ret
      exact ⟨rfl, hw1⟩
set_option maxHeartbeats 1000000 in
set_option maxRecDepth 100000 in
theorem next_ps (m s : Nat) (w : World) (n : Nat) (hm : m < 18446744073709551616) (t : Tab w) (hx : nxt m (s : Int) = some (n : Int)) (h6 : n < 64) (hb : m.testBit n = true) (hle : (s : Int) ≤ (n : Int)) (hno : ∀ j : Nat, j < n → (s : Int) ≤ (j : Int) → m.testBit j = false) :
    Calls Tryd.prog 6 #[.int .u64 m, .int .i64 (s : Int)] w fun e w' => e = .returned (.bool true) ∧ Grw w w' := by
  have A := Lib.hid (next_is m (s : Int) n true w hm t (by rw [hx]; rfl) (by rw [hx]; rfl))
  have B := Lib.hid (has_is m n true w hm h6 hb)
  have hnl : decide (n < s) = false := by simp; omega
  have W := Lib.hid (wakes_any w t)
  have NO := Lib.hid hno
  clear hno hx
  go_enter Tryd.func6, Tryd.ntmps6
  go_wp2_with fail
  refine A.out.mono ?_
  rintro _ w1 ⟨rfl, rfl⟩
  go_wp2_with fail
  refine B.out.mono ?_
  rintro _ w1 ⟨rfl, rfl⟩
  go_wp2_with fail
  go_loopw [8] (fun c wr => ∃ k : Nat, s ≤ k ∧ c = .int .i64 k ∧ w = wr) (fun c _ => n - (intOf c).toNat)
  case atStart => exact ⟨s, Nat.le_refl _, rfl, rfl⟩
  case round =>
    obtain ⟨k, hk, rfl, rfl⟩ := hrel
    by_cases hk' : k < n
    · have hki : (k : Int) < (n : Int) := by omega
      have C := Lib.hid (has_is m k false w hm (by omega) (NO.out k hk' (by omega)))
      go_wp2_with fail
      refine C.out.mono ?_
      rintro _ w1 ⟨rfl, rfl⟩
      go_wp2_with fail
      go_roundw
      case rel => exact ⟨k + 1, by omega, by go_num, trivial⟩
      case measure => simp [intOf]; omega
    · have hki : ¬ (k : Int) < (n : Int) := by omega
      go_wp2_with fail
      refine W.out.mono ?_
      rintro _ w1 ⟨rfl, hw1⟩
      go_wp2_with fail
      go_ret
      exact ⟨rfl, hw1⟩
set_option maxHeartbeats 1000000 in
set_option maxRecDepth 100000 in
theorem next_pz (m s : Nat) (w : World) (hm : m < 18446744073709551616) (t : Tab w) (hx : nxt m (s : Int) = none) (hno : ∀ j : Nat, j < 64 → (s : Int) ≤ (j : Int) → m.testBit j = false) :
    Calls Tryd.prog 6 #[.int .u64 m, .int .i64 (s : Int)] w fun e w' => e = .returned (.bool true) ∧ Grw w w' := by
  have A := Lib.hid (next_is m (s : Int) 0 false w hm t (by rw [hx]; rfl) (by rw [hx]; rfl))
  have W := Lib.hid (wakes_any w t)
  have NO := Lib.hid hno
  clear hno hx
  go_enter Tryd.func6, Tryd.ntmps6
  go_wp2_with fail
  refine A.out.mono ?_
  rintro _ w1 ⟨rfl, rfl⟩
  go_wp2_with fail
  go_loopw [8] (fun c wr => ∃ k : Nat, s ≤ k ∧ c = .int .i64 k ∧ w = wr) (fun c _ => 64 - (intOf c).toNat)
  case atStart => exact ⟨s, Nat.le_refl _, rfl, rfl⟩
  case round =>
    obtain ⟨k, hk, rfl, rfl⟩ := hrel
    by_cases hk' : k < 64
    · have hki : (k : Int) < 64 := by omega
      have C := Lib.hid (has_is m k false w hm (by omega) (NO.out k hk' (by omega)))
      go_wp2_with fail
      refine C.out.mono ?_
      rintro _ w1 ⟨rfl, rfl⟩
      go_wp2_with fail
      go_roundw
      case rel => exact ⟨k + 1, by omega, by go_num, trivial⟩
      case measure => simp [intOf]; omega
    · have hki : ¬ (k : Int) < 64 := by omega
      go_wp2_with fail
      refine W.out.mono ?_
      rintro _ w1 ⟨rfl, hw1⟩
      go_wp2_with fail
      go_ret
      exact ⟨rfl, hw1⟩
theorem next_walk (m : Nat) (f : Int) (w : World) (hm : m < 18446744073709551616) (t : Tab w) :
    Calls Tryd.prog 6 #[.int .u64 m, .int .i64 f] w fun e w' => e = .returned (.bool true) ∧ Grw w w' := by
  rcases nxt_is m f with ⟨h1, h2⟩ | ⟨n, h1, h2, h3, h4, h5⟩
  · by_cases hf : f < 0
    · exact next_nz m f w hm t hf h1 h2
    · obtain ⟨s, rfl⟩ := Int.eq_ofNat_of_zero_le (by omega : 0 ≤ f)
      exact next_pz m s w hm t h1 h2
  · by_cases hf : f < 0
    · exact next_ns m f w n hm t hf h1 h2 h3 h4 h5
    · obtain ⟨s, rfl⟩ := Int.eq_ofNat_of_zero_le (by omega : 0 ≤ f)
      exact next_ps m s w n hm t h1 h2 h3 h4 h5
end Go.Proofs.YtdbjfebpondbmaaDoor
