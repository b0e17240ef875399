/- The queue's List where nobody waits; the law QueueNone, walked. -/
import Derived.Test.YtdindhmbofddoaaQj
import Derived.Deep.CutRange
import Derived.Deep.DeepCutAuto
namespace Go.Proofs.Ytdindhmbofddoaa
open Go.RowKit
set_option linter.unusedSimpArgs false

set_option maxHeartbeats 1000000 in
set_option maxRecDepth 100000 in
theorem list_nil (w : World) : Calls Try.prog 21 #[.pointer none] w fun e w' => e = .returned (.slice none 0 0) ∧ w = w' := by
  go_enter Try.func21, Try.ntmps21
  go_wp2_with fail
  go_ret
  exact ⟨rfl, rfl⟩
set_option maxHeartbeats 1000000 in
set_option maxRecDepth 100000 in
theorem clone_nil (w : World) : Calls Try.prog 33 #[.slice none 0 0] w fun e w' => e = .returned (.slice none 0 0) ∧ w = w' := by
  have e : ∀ w, Sem.run Try.prog (binOp BinOp.eql 28 (.slice none 0 0) (.slice none 0 0)) w = .ok (.bool true) w := fun _ => by kernel_rfl
  go_enter Try.func33, Try.ntmps33
  go_wp2_with fail
  go_ret
  exact ⟨rfl, rfl⟩
set_option maxHeartbeats 1000000 in
set_option maxRecDepth 100000 in
theorem sort_none (b o : Nat) (ao : Option Addr) (n cap : Nat) (w : World) (h : w.cell? ⟨b, o + 1, none⟩ = some (.slice ao n cap)) (hn : n ≤ 1) :
    Calls Try.prog 34 #[.iface 62 (.pointer (some ⟨b, o, none⟩))] w fun e w' => e = .returned (.tuple #[]) ∧ w = w' := by
  have mN := meth_len b o
  have C := Lib.hid (line_len b o ao n cap w h)
  have d1 : decide ((n : Int) ≤ 1) = true := by simp; omega
  have d2 : decide (n ≤ 1) = true := by simp [hn]
  clear h
  go_enter Try.func34, Try.ntmps34
  go_wp2_with fail
  refine C.out.mono ?_
  rintro _ _ ⟨rfl, rfl⟩
  go_wp2_with fail
  exact bodyPost_ret (results_none rfl _ _ _) rfl ⟨rfl, rfl⟩
set_option maxHeartbeats 1000000 in
set_option maxRecDepth 100000 in
theorem list_empty {p : Nat} {a room count : Int} {w : World} (h : QU w p a room count (.slice none 0 0) []) :
    Calls Try.prog 21 #[.pointer (some ⟨p, 0, none⟩)] w fun e w' => e = .returned (.slice none 0 0) ∧ Grw w w' := by
  obtain ⟨l, hl, _, _⟩ := h.line
  have c2 := hl.c0
  have c3 := hl.c1
  have SS : Hid (∀ u, Grw w u → (u.cell? ⟨p, 2, none⟩ = some (.int .i64 a) ∧ u.cell? ⟨p, 3, none⟩ = some (.slice none 0 0))) :=
    (fun u g => ⟨g.cell c2, g.cell c3⟩ : ∀ u, Grw w u → (u.cell? ⟨p, 2, none⟩ = some (.int .i64 a) ∧ u.cell? ⟨p, 3, none⟩ = some (.slice none 0 0)))
  have CN := Lib.hid clone_nil
  clear h hl
  go_enter Try.func21, Try.ntmps21
  go_upto_region 3 with fail
  go_cut [3] from 6 to 18 (fun s3 wx => ∃ b, s3 = .pointer (some ⟨b, 0, none⟩) ∧ wx.cell? ⟨b, 1, none⟩ = some (.slice none 0 0) ∧ Grw w wx)
  case first =>
    go_region_held3 (fun u => u.cell? ⟨p, 2, none⟩ = some (.int .i64 a) ∧ u.cell? ⟨p, 3, none⟩ = some (.slice none 0 0))
      ((refine SS.out _ ?_; repeat (first | with_reducible exact Grw.rfl' _ | with_reducible refine Grw.drew ?_ | with_reducible refine Grw.alloc ?_ _))) (first | (go_at_call 33; refine (CN.out _).mono ?_; rintro _ _ ⟨rfl, rfl⟩))
    all_goals
      go_wp2_with fail
      go_meet
      case rel => exact ⟨_, rfl, by simp [go_sem], (by repeat (first | with_reducible exact Grw.rfl' _ | with_reducible refine Grw.drew ?_ | with_reducible refine Grw.alloc ?_ _))⟩
  case rest =>
    obtain ⟨b, rfl, hc, hg⟩ := hcut
    have G := Lib.hid hg
    have C := Lib.hid (sort_none b 0 none 0 0 wc hc (by decide))
    clear hg
    go_wp2_with fail
    refine C.out.mono ?_
    rintro _ _ ⟨rfl, rfl⟩
    go_wp2_with fail
    go_ret
    exact ⟨rfl, G.out⟩
set_option maxHeartbeats 1000000 in
set_option maxRecDepth 100000 in
theorem len_nil (w : World) : Calls Try.prog 18 #[.pointer none] w fun e w' => e = .returned (.int .i64 0) ∧ w = w' := by
  go_enter Try.func18, Try.ntmps18
  go_wp2_with fail
  go_ret
  exact ⟨rfl, rfl⟩
set_option maxHeartbeats 1000000 in
set_option maxRecDepth 100000 in
theorem count_nil (w : World) : Calls Try.prog 19 #[.pointer none] w fun e w' => e = .returned (.int .i64 0) ∧ w = w' := by
  go_enter Try.func19, Try.ntmps19
  go_wp2_with fail
  go_ret
  exact ⟨rfl, rfl⟩
set_option maxHeartbeats 4000000 in
set_option maxRecDepth 100000 in
theorem none_walk (a room id : Int) (w : World) :
    Calls Try.prog 7 #[.int .i64 a, .int .i64 room, .int .i64 id] w fun e w' => e = .returned (.bool true) ∧ Grw w w' := by
  go_enter Try.func7, Try.ntmps7
  go_wp2_with fail
  refine (take_nil w).mono ?_
  rintro _ w1 ⟨rfl, g1⟩
  have G1 := Lib.hid (g1.alloc (.cells #[.int .i64 0, .int .i64 0, .int .i64 0] 37))
  clear g1
  simp only [wv]
  go_wp2_with fail
  refine (put_nil id 0 _).mono ?_
  rintro _ _ ⟨rfl, rfl⟩
  go_wp2_with fail
  refine (drop_nil id _).mono ?_
  rintro _ _ ⟨rfl, rfl⟩
  go_wp2_with fail
  refine (list_nil _).mono ?_
  rintro _ _ ⟨rfl, rfl⟩
  go_wp2_with fail
  refine (len_nil _).mono ?_
  rintro _ _ ⟨rfl, rfl⟩
  go_wp2_with fail
  refine (count_nil _).mono ?_
  rintro _ _ ⟨rfl, rfl⟩
  go_wp2_with fail
  obtain ⟨w2, hw2⟩ : ∃ w2, w1.alloc (.cells #[.int .i64 0, .int .i64 0, .int .i64 0] 37) = w2 := ⟨_, rfl⟩
  rw [hw2] at G1 ⊢
  clear hw2
  by_cases c : 1 ≤ a ∧ a ≤ 1000 ∧ 0 ≤ room ∧ room ≤ 1000
  · refine (m_new a room w w2 G1.out c.1 c.2.1 c.2.2.1 c.2.2.2).mono ?_
    rintro _ w3 ⟨p, rfl, hq, _⟩
    have Q3 := Lib.hid hq
    clear hq c
    go_wp2_with fail
    refine (take_none Q3.out.q).mono ?_
    rintro _ w4 ⟨rfl, g4⟩
    have Q4 := Lib.hid (Q3.out.later (g4.alloc (.cells #[.int .i64 0, .int .i64 0, .int .i64 0] 37)))
    clear g4
    simp only [wv]
    go_wp2_with fail
    refine (count_is Q4.out.q).mono ?_
    rintro _ _ ⟨rfl, rfl⟩
    go_wp2_with fail
    refine (drop_no Q4.out.q id (fun j hj => by simp at hj)).mono ?_
    rintro _ w5 ⟨rfl, g5⟩
    have Q5 := Lib.hid (Q4.out.later g5)
    clear g5
    go_wp2_with fail
    refine (list_empty Q5.out.q).mono ?_
    rintro _ w6 ⟨rfl, g6⟩
    have G1 := Lib.hid (Q5.out.g.trans g6)
    clear g6
    go_wp2_with fail
    refine (wakes_any _).mono ?_
    rintro _ w9 ⟨rfl, hw⟩
    have G9 := Lib.hid (G1.out.trans hw)
    clear hw
    go_wp2_with fail
    go_ret
    exact ⟨rfl, G9.out⟩
  · refine (new_no a room w2 c).mono ?_
    rintro _ _ ⟨rfl, rfl⟩
    by_cases h1 : a < 1
    · have d1 : decide (a < 1) = true := by simp [h1]
      go_wp2_with fail
      refine (wakes_any _).mono ?_
      rintro _ w9 ⟨rfl, hw⟩
      have G9 := Lib.hid (G1.out.trans hw)
      clear hw
      go_wp2_with fail
      go_ret
      exact ⟨rfl, G9.out⟩
    · have d1 : decide (a < 1) = false := by simp; omega
      by_cases h2 : 1000 < a
      · have d2 : decide (1000 < a) = true := by simp [h2]
        go_wp2_with fail
        refine (wakes_any _).mono ?_
        rintro _ w9 ⟨rfl, hw⟩
        have G9 := Lib.hid (G1.out.trans hw)
        clear hw
        go_wp2_with fail
        go_ret
        exact ⟨rfl, G9.out⟩
      · have d2 : decide (1000 < a) = false := by simp; omega
        by_cases h3 : room < 0
        · have d3 : decide (room < 0) = true := by simp [h3]
          go_wp2_with fail
          refine (wakes_any _).mono ?_
          rintro _ w9 ⟨rfl, hw⟩
          have G9 := Lib.hid (G1.out.trans hw)
          clear hw
          go_wp2_with fail
          go_ret
          exact ⟨rfl, G9.out⟩
        · have d3 : decide (room < 0) = false := by simp; omega
          have d4 : decide (1000 < room) = true := by simp; omega
          clear c h1 h2 h3
          go_wp2_with fail
          refine (wakes_any _).mono ?_
          rintro _ w9 ⟨rfl, hw⟩
          have G9 := Lib.hid (G1.out.trans hw)
          clear hw
          go_wp2_with fail
          go_ret
          exact ⟨rfl, G9.out⟩
end Go.Proofs.Ytdindhmbofddoaa
