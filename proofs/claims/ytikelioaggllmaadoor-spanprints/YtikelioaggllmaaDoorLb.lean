/- The walks of SpanPrints and SpanBack. -/
import Derived.Test.YtikelioaggllmaaDoorWp
import Derived.Test.YtikelioaggllmaaDoorWk
import Derived.Test.YtikelioaggllmaaDoorMc
namespace Go.Proofs.YtikelioaggllmaaDoor
open Go.RowKit SM

set_option maxHeartbeats 2000000 in
theorem prints_walk (x : Nat) (w : World) (hx : x < 18446744073709551616) (t : Tab w) :
    Calls Tryd.prog 4 #[.int .u64 x] w fun e w' => e = .returned (.bool true) ∧ Grw w w' := by
  by_cases h : x ≤ top
  · obtain ⟨b, hb⟩ := ba_of (printS x)
    have P := Lib.hid (print_yes x b w h t hb)
    have R := Lib.hid (fun w => rprint_yes x b w h hb)
    have h' : (x : Int) ≤ 1125899906842624 := by unfold top at h; omega
    clear hb t h
    go_enter Tryd.func4, Tryd.ntmps4
    go_wp2_with fail
    refine P.out.mono ?_
    rintro _ w1 ⟨rfl, hw1⟩
    go_wp2_with fail
    refine (R.out _).mono ?_
    rintro _ w2 ⟨rfl, hw2⟩
    go_wp2_with fail
    refine (wakes_any _).mono ?_
    rintro _ w3 ⟨rfl, hw3⟩
    go_wp2_with fail
    go_ret
    exact ⟨rfl, (Grw.trans hw1 hw2).trans hw3⟩
  · have P := Lib.hid (print_no x w (by omega))
    have R := Lib.hid (fun w => rprint_no x w (by omega))
    have h' : ¬ (x : Int) ≤ 1125899906842624 := by unfold top at h; omega
    have hd : decide ((x : Int) ≤ 1125899906842624) = false := decide_eq_false h'
    clear t h
    go_enter Tryd.func4, Tryd.ntmps4
    go_wp2_with fail
    refine P.out.mono ?_
    rintro _ w1 ⟨rfl, hw1⟩
    go_wp2_with fail
    refine (R.out _).mono ?_
    rintro _ w2 ⟨rfl, hw2⟩
    go_wp2_with fail
    refine (wakes_any _).mono ?_
    rintro _ w3 ⟨rfl, hw3⟩
    go_wp2_with fail
    go_ret
    exact ⟨rfl, (Grw.trans hw1 hw2).trans hw3⟩

set_option maxHeartbeats 4000000 in
set_option maxRecDepth 100000 in
theorem back_long (x : Nat) (s : ByteArray) (w : World) (h : ¬ s.size ≤ 300) (hs : s.size ≤ 9223372036854775807) :
    Calls Tryd.prog 5 #[.int .u64 x, .string s] w fun e w' => e = .returned (.bool true) ∧ Grw w w' := by
  have h' : (300 : Int) < s.size := by omega
  go_enter Tryd.func5, Tryd.ntmps5
  go_wp2_with fail
  refine (wakes_any _).mono ?_
  rintro _ w3 ⟨rfl, hw3⟩
  go_wp2_with fail
  go_ret
  exact ⟨rfl, hw3⟩

set_option maxHeartbeats 4000000 in
set_option maxRecDepth 100000 in
theorem back_short (x : Nat) (s : ByteArray) (w : World) (h : s.size ≤ 300) (hx : x < 18446744073709551616) (t : Tab w) :
    Calls Tryd.prog 5 #[.int .u64 x, .string s] w fun e w' => e = .returned (.bool true) ∧ Grw w w' := by
  have h' : (s.size : Int) ≤ 300 := by omega
  obtain ⟨y, hy⟩ : ∃ y : Nat, x % 1125899906842625 = y := ⟨_, rfl⟩
  have hy0 : (x : Int) % 1125899906842625 = y := by omega
  have hyt : y ≤ top := by unfold top; omega
  obtain ⟨b, hb⟩ := ba_of (printS y)
  have hbz : b.size ≤ 40 := by have := print_len y hyt; rw [size_len, hb]; exact this
  have hbz' : (b.size : Int) ≤ 40 := by omega
  have P := Lib.hid (print_yes y b w hyt t hb)
  have hr := print_read y hyt
  rw [← hb] at hr
  have Q := Lib.hid (fun w => parse_at b y 0 w (by omega) hr.1 hr.2)
  by_cases hp : pE s.data.toList = 0
  · obtain ⟨z, hz⟩ : ∃ z, pV s.data.toList = z := ⟨_, rfl⟩
    have hzt : z ≤ top := by rw [← hz]; exact pV_le hp
    have S := Lib.hid (fun w => parse_at s z 0 w (by omega) hz hp)
    obtain ⟨c, hc⟩ := ba_of (printS z)
    have hcz : c.size ≤ 40 := by have := print_len z hzt; rw [size_len, hc]; exact this
    have P2 := Lib.hid (fun w' (g : Grw w w') => print_yes z c w' hzt (tab_grw g t) hc)
    have hr2 := print_read z hzt
    rw [← hc] at hr2
    have Q2 := Lib.hid (fun w => parse_at c z 0 w (by omega) hr2.1 hr2.2)
    have hz' : (z : Int) ≤ 1125899906842624 := by unfold top at hzt; omega
    clear hy hyt hb hr hp hz hzt hc hr2 t
    go_enter Tryd.func5, Tryd.ntmps5
    go_wp2_with fail
    refine P.out.mono ?_
    rintro _ w1 ⟨rfl, hw1⟩
    go_wp2_with fail
    refine (Q.out _).mono ?_
    rintro _ w2 ⟨rfl, hw2⟩
    go_wp2_with fail
    refine (S.out _).mono ?_
    rintro _ w3 ⟨rfl, hw3⟩
    have G3 : Grw w w3 := (Grw.trans hw1 hw2).trans hw3
    clear hw1 hw2 hw3
    go_wp2_with fail
    refine (P2.out _ G3).mono ?_
    rintro _ w4 ⟨rfl, hw4⟩
    go_wp2_with fail
    refine (Q2.out _).mono ?_
    rintro _ w5 ⟨rfl, hw5⟩
    go_wp2_with fail
    refine (wakes_any _).mono ?_
    rintro _ w6 ⟨rfl, hw6⟩
    go_wp2_with fail
    go_ret
    exact ⟨rfl, ((Grw.trans G3 hw4).trans hw5).trans hw6⟩
  · have S := Lib.hid (fun w => parse_any s w (by omega))
    have hp' : ((pE s.data.toList : Int) == 0) = false := by simp; omega
    generalize pV s.data.toList = z at *
    generalize pE s.data.toList = e at *
    clear hy hyt hb hr hp t
    go_enter Tryd.func5, Tryd.ntmps5
    go_wp2_with fail
    refine P.out.mono ?_
    rintro _ w1 ⟨rfl, hw1⟩
    go_wp2_with fail
    refine (Q.out _).mono ?_
    rintro _ w2 ⟨rfl, hw2⟩
    go_wp2_with fail
    refine (S.out _).mono ?_
    rintro _ w3 ⟨rfl, hw3⟩
    have G3 : Grw w w3 := (Grw.trans hw1 hw2).trans hw3
    clear hw1 hw2 hw3
    go_wp2_with fail
    refine (wakes_any _).mono ?_
    rintro _ w6 ⟨rfl, hw6⟩
    go_wp2_with fail
    go_ret
    exact ⟨rfl, Grw.trans G3 hw6⟩
theorem back_walk (x : Nat) (s : ByteArray) (w : World) (hx : x < 18446744073709551616) (hs : s.size ≤ 9223372036854775807) (t : Tab w) :
    Calls Tryd.prog 5 #[.int .u64 x, .string s] w fun e w' => e = .returned (.bool true) ∧ Grw w w' := by
  by_cases h : s.size ≤ 300
  · exact back_short x s w h hx t
  · exact back_long x s w h hs
end Go.Proofs.YtikelioaggllmaaDoor
