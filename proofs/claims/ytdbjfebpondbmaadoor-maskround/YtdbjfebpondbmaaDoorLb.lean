/- The law MaskRound at this program. -/
import Derived.Test.YtdbjfebpondbmaaDoorWg
import Derived.Test.YtdbjfebpondbmaaDoorMr
namespace Go.Proofs.YtdbjfebpondbmaaDoor
open Go.RowKit MK
set_option linter.unusedSimpArgs false

theorem list_len {l : List Int} {w : World} {B : Nat} {v : Value} (h : Own w B v l) : ∃ ao cap, v = .slice ao l.length cap := let ⟨ao, cap, e, _⟩ := h.row; ⟨ao, cap, e⟩

theorem els_zero : els 0 = [] := by decide
theorem list_zero (w : World) : Calls Tryd.prog 20 #[.int .u64 0] w fun e w' => ∃ v, e = .returned v ∧ (∃ ao cap, v = .slice ao 0 cap) ∧ Grw w w' := by
  have := list_any 0 w (by omega)
  rw [els_zero] at this
  exact this.mono fun e w' ⟨v, h1, h2, h3⟩ => ⟨v, h1, list_len h2, h3⟩
theorem of_nil (w : World) : Calls Tryd.prog 22 #[.slice none 0 0] w fun e w' => e = .returned (.int .u64 0) ∧ w = w' := of_any none 0 0 (fun _ => 0) w (by omega) (Or.inl rfl)

set_option maxHeartbeats 1000000 in
set_option maxRecDepth 100000 in
theorem round_none (fr a : Nat) (w : World) (hfr : fr < 256) (ha : fr % 64 = a) (t : Tab w) :
    Calls Tryd.prog 7 #[.int .u64 0, .int .u8 fr] w fun e w' => e = .returned (.bool true) ∧ Grw w w' := by
  have hr : rnd 0 (a : Int) = none := rnd_none rfl
  have A := Lib.hid (show Calls Tryd.prog 10 #[.int .u64 0, .int .i64 a] w fun e w' => e = .returned (.tuple #[.int .i64 0, .bool false]) ∧ w = w' from round_is 0 a 0 false w (by omega) t (by rw [hr]; rfl) (by rw [hr]; rfl))
  have L := Lib.hid (list_zero w)
  have D := Lib.hid (fun w => of_nil w)
  have W := Lib.hid (fun w' (g : Grw w w') => wakes_any w' (tab_grw g t))
  have hmod : (fr : Int) % 64 = (a : Int) := by omega
  clear ha hr t
  go_enter Tryd.func7, Tryd.ntmps7
  go_wp2_with fail
  refine A.out.mono ?_
  rintro _ w1 ⟨rfl, rfl⟩
  go_wp2_with fail
  refine wp_loop_rounds 1 ?_
  rw [rounds_succ]
  go_wp2_with fail
  refine L.out.mono ?_
  rintro _ w1 ⟨v, rfl, ⟨ao, cap, rfl⟩, hw1⟩
  go_wp2_with fail
  refine (D.out _).mono ?_
  rintro _ w2 ⟨rfl, rfl⟩
  go_wp2_with fail
  refine (W.out _ hw1).mono ?_
  rintro _ w3 ⟨rfl, hw3⟩
  have G := Lib.hid (hw1.trans hw3)
  clear hw1 hw3
  go_wp2_with fail
  go_ret
  exact ⟨rfl, G.out⟩

set_option maxHeartbeats 2000000 in
set_option maxRecDepth 100000 in
theorem round_some (m fr a : Nat) (w : World) (hm : m < 18446744073709551616) (h0 : m ≠ 0) (hfr : fr < 256) (ha : fr % 64 = a) (t : Tab w) :
    Calls Tryd.prog 7 #[.int .u64 m, .int .u8 fr] w fun e w' => e = .returned (.bool true) ∧ Grw w w' := by
  obtain ⟨i0, hi, hz0, hz1, hz2⟩ := info_parts Tryd.info3
  have ha6 : a < 64 := by omega
  have hr := rnd_far ha6 (some_in hm h0)
  have hfirst := metI_first (a := a) hm h0
  obtain ⟨hd1, hd2, _⟩ := far_some (some_in (f := a) hm h0)
  have ST := Lib.hid (fun d h1 h2 h3 => step_round (m := m) (a := a) (d := d) hm h0 h1 h2 h3)
  obtain ⟨d0, hd0⟩ : ∃ d0, far m a = d0 := ⟨_, rfl⟩
  rw [hd0] at ST hr hfirst hd1 hd2
  obtain ⟨x0, hx0⟩ : ∃ x0, (a + d0) % 64 = x0 := ⟨_, rfl⟩
  rw [hx0] at ST hr
  have A := Lib.hid (round_is m a x0 true w hm t (by rw [hr]; rfl) (by rw [hr]; rfl))
  have TT := Lib.hid (fun w' (g : Grw w w') => tab_grw g t)
  have hmod : (fr : Int) % 64 = (a : Int) := by omega
  have hne : ((m : Int) != 0) = true := by simp; omega
  have X0 := Lib.hid hx0
  have FI := Lib.hid hfirst
  have D2 := Lib.hid hd2
  clear ha hr t hx0 hd0 hfirst hd2
  go_enter Tryd.func7, Tryd.ntmps7
  go_wp2_with fail
  refine A.out.mono ?_
  rintro _ w1 ⟨rfl, rfl⟩
  go_wp2_with fail
  go_loopw [8, 9, 10, 11] (fun v k b n wr => ∃ d x l : Nat, d0 ≤ d ∧ d < 64 ∧ k = .int .i64 (x : Nat) ∧ (a + d) % 64 = x ∧ b = .bool true ∧ m.testBit ((a + d) % 64) = true ∧ n = .int .i64 (l : Nat) ∧ (metI m a d).length = l ∧ Own wr w.heap.size v (metI m a d) ∧ Grw w wr) (fun _ _ _ n _ => 64 - (intOf n).toNat)
  case atStart => exact ⟨d0, x0, 0, Nat.le_refl _, hd1, rfl, X0.out, rfl, D2.out, rfl, by rw [FI.out]; rfl, by rw [FI.out]; exact Own.nil _ _, Grw.rfl' _⟩
  case round =>
    obtain ⟨d, x, l, h1, h2, rfl, hx, rfl, h3, rfl, hl, hown, hg⟩ := hrel
    have hl6 := metI_le m a d
    rw [hl] at hl6
    have hli : (l : Int) < 64 := by omega
    have hsz := Below.size hg
    have HL := Lib.hid hl
    have Q := Lib.hid (And.intro hown hg)
    have hx6 : x < 64 := by omega
    obtain ⟨y, hy⟩ : ∃ y, (x + 1) % 64 = y := ⟨_, rfl⟩
    have hyi : ((x : Int) + 1) % 64 = (y : Int) := by omega
    have st := ST.out d h1 h2 h3
    rw [hx, hy] at st
    clear hown hg h3
    rcases st with ⟨d', g1, g2, g3, g4, g5, g6⟩ | ⟨g4, g6⟩
    · obtain ⟨x', hx'⟩ : ∃ x', (a + d') % 64 = x' := ⟨_, rfl⟩
      rw [hx'] at g4 g5
      have hxx : ((x' : Int) == (x0 : Int)) = false := by simp; omega
      have C := Lib.hid (fun w' (g : Grw w w') => round_is m y x' true w' hm (TT.out w' g) (by rw [g4]; rfl) (by rw [g4]; rfl))
      have Z := Lib.hid (And.intro g3 g6)
      have HX := Lib.hid hx'
      clear g3 g4 g5 g6 hx' hx hy hl
      go_wp2_with (at_builtin; refine wpList_append_own _ rfl _ _ 23 rfl w.heap.size 3 i0 (.int .i64 0) 1 8 Tryd.underlying23 hi hz0 hz1 hz2 rfl (by decide) _ _ _ rfl (World.ownsRow.alloc Q.out.1 _) ⟨wr.heap.size, 0, none⟩ 1 1 [.int .i64 (x : Int)] rfl rfl (one_cell _ _) (int_cells [(x : Int)]) (by rw [HL.out]; unfold maxLen; omega) (by rw [HL.out]; omega) (by simp; omega) ?_)
      intro v' w2 hown' hgrow _
      have U := Lib.hid (own_append (news := [(x : Int)]) Q.out.2 Q.out.1 hown' hgrow)
      clear hown' hgrow
      go_wp2_with fail
      refine (C.out _ U.out.1).mono ?_
      rintro _ w3 ⟨rfl, rfl⟩
      go_wp2_with fail
      go_roundw
      case rel => exact ⟨d', x', l + 1, by omega, g2, rfl, HX.out, rfl, Z.out.1, by go_num, by rw [Z.out.2, List.length_append, HL.out]; rfl, by rw [Z.out.2]; exact U.out.2, U.out.1⟩
      case measure => simp [intOf]; omega
    · have C := Lib.hid (fun w' (g : Grw w w') => round_is m y x0 true w' hm (TT.out w' g) (by rw [g4]; rfl) (by rw [g4]; rfl))
      have Z := Lib.hid g6
      clear g4 g6 hx hy hl
      go_wp2_with (at_builtin; refine wpList_append_own _ rfl _ _ 23 rfl w.heap.size 3 i0 (.int .i64 0) 1 8 Tryd.underlying23 hi hz0 hz1 hz2 rfl (by decide) _ _ _ rfl (World.ownsRow.alloc Q.out.1 _) ⟨wr.heap.size, 0, none⟩ 1 1 [.int .i64 (x : Int)] rfl rfl (one_cell _ _) (int_cells [(x : Int)]) (by rw [HL.out]; unfold maxLen; omega) (by rw [HL.out]; omega) (by simp; omega) ?_)
      intro v' w2 hown' hgrow _
      have U := Lib.hid (own_append (news := [(x : Int)]) Q.out.2 Q.out.1 hown' hgrow)
      rw [← Z.out] at U
      clear hown' hgrow
      obtain ⟨ao, cap, rfl, hrow⟩ := U.out.2.row
      have hlen := metI_all_len m a
      have hall := metI_all hm a
      have hle6 := els_len m
      obtain ⟨n, hn⟩ : ∃ n, (els m).length = n := ⟨_, rfl⟩
      have hof := fun w' (g : Grw w2 w') => of_list (v := .slice ao (metI m a 64).length cap) (l := metI m a 64) (w := w') (by rw [hlen]; omega) ⟨ao, cap, rfl, hrow.later g⟩
      rw [hall, hlen, hn] at hof
      have L := fun w' => (list_any m w' hm).mono fun e w'' (h : ∃ v, e = .returned v ∧ Own w'' w'.heap.size v (els m) ∧ Grw w' w'') => (show ∃ ao cap, e = .returned (.slice ao n cap) ∧ Grw w' w'' from by
        obtain ⟨v, h1, h2, h3⟩ := h
        obtain ⟨ao, cap, e2⟩ := list_len h2
        rw [e2, hn] at h1
        exact ⟨ao, cap, h1, h3⟩)
      have LL := Lib.hid L
      have OF := Lib.hid hof
      have W := Lib.hid (fun w' (g : Grw w w') => wakes_any w' (TT.out w' g))
      have hnn : (metI m a 64).length = n := hlen.trans hn
      rw [hnn]
      clear hrow hlen hall hn hof L hnn
      go_wp2_with fail
      refine (C.out _ U.out.1).mono ?_
      rintro _ w3 ⟨rfl, rfl⟩
      go_wp2_with fail
      refine (LL.out _).mono ?_
      rintro _ w4 ⟨ao', cap', rfl, hw4⟩
      go_wp2_with fail
      refine (OF.out _ hw4).mono ?_
      rintro _ w5 ⟨rfl, rfl⟩
      go_wp2_with fail
      refine (W.out _ (U.out.1.trans hw4)).mono ?_
      rintro _ w6 ⟨rfl, hw6⟩
      have G := Lib.hid ((U.out.1.trans hw4).trans hw6)
      clear hw4 hw6
      go_wp2_with fail
      go_ret
      exact ⟨rfl, G.out⟩
theorem round_walk (m fr : Nat) (w : World) (hm : m < 18446744073709551616) (hfr : fr < 256) (t : Tab w) :
    Calls Tryd.prog 7 #[.int .u64 m, .int .u8 fr] w fun e w' => e = .returned (.bool true) ∧ Grw w w' := by
  by_cases h : m = 0
  · subst h; exact round_none fr _ w hfr rfl t
  · exact round_some m fr _ w hm h hfr rfl t
end Go.Proofs.YtdbjfebpondbmaaDoor
