/- The walk of SpanCalendar. -/
import Derived.Test.YtikelioaggllmaaDoorWg
import Derived.Test.YtikelioaggllmaaDoorWk
import Derived.Test.YtikelioaggllmaaDoorMc
namespace Go.Proofs.YtikelioaggllmaaDoor
open Go.RowKit SM

theorem parse_pair (s : ByteArray) (l : List UInt8) (x e : Nat) (w : World) (hs : s.size ≤ 9223372036854775807) (hl : s.data.toList = l) (h : pV l = x ∧ pE l = e) :
    Calls Tryd.prog 10 #[.string s] w fun en w' => en = .returned (.tuple #[.int .u64 x, .int .i64 e]) ∧ Grw w w' := by
  subst hl; exact parse_at s x e w hs h.1 h.2

set_option maxHeartbeats 4000000 in
set_option maxRecDepth 100000 in
theorem calendar_one (n : Nat) (year : Bool) (u : UInt8) (rest : ByteArray) (w : World) (hn : n < 4294967296) (hr : rest.size ≤ 100) (hu : year = true ∧ u = 89 ∨ year = false ∧ u = 77) :
    Calls Tryd.prog 8 #[.int .u32 n, .bool year, .string rest] w fun e w' => e = .returned (.bool true) ∧ Grw w w' := by
  obtain ⟨d, hd⟩ := ba_of (Lib.decDigits n)
  have hz : d.size ≤ 20 := by have := dec_len n (by omega); rw [size_len, hd]; exact this
  have DG := Lib.hid (fun w => digits_ba n d w (by omega) hd)
  have zz : ∀ c : UInt8, (⟨#[c]⟩ : ByteArray).size = 1 := fun _ => rfl
  have z2 : (⟨#[80, 48]⟩ : ByteArray).size = 2 := rfl
  have P1 := Lib.hid (fun w => parse_pair (⟨#[80]⟩ ++ d ++ ⟨#[u]⟩ ++ rest) (80 :: (Lib.decDigits n ++ u :: rest.data.toList)) 0 4 w (by simp [zz]; omega) (by rw [ba_app, ba_app, ba_app, hd]; simp) (p_years n u rest.data.toList (by omega) (hu.imp And.right And.right)))
  have P2 := Lib.hid (fun w => parse_pair (⟨#[112]⟩ ++ d ++ ⟨#[87]⟩) (112 :: (Lib.decDigits n ++ [87])) 0 2 w (by simp [zz]; omega) (by rw [ba_app, ba_app, hd]; simp) (p_noP 112 _ (by decide)))
  have P3 := Lib.hid (fun w => parse_pair (⟨#[80, 48]⟩ ++ d ++ ⟨#[87]⟩) (80 :: 48 :: (Lib.decDigits n ++ [87])) 0 2 w (by simp [zz, z2]; omega) (by rw [ba_app, ba_app, hd]; simp) (p_nought n))
  have P4 : ∃ x e : Nat, (∀ w, Calls Tryd.prog 10 #[.string (⟨#[80]⟩ ++ d ++ ⟨#[87]⟩)] w fun en w' => en = .returned (.tuple #[.int .u64 x, .int .i64 e]) ∧ Grw w w') ∧ ((e = 0 ∧ x = n * 604800) ∨ (e = 3 ∧ x = 0 ∧ 1125899906842624 < n * 604800)) := by
    rcases p_week n (by omega) with ⟨h1, h2⟩ | ⟨h1, h2⟩
    · exact ⟨n * 604800, 0, fun w => parse_pair _ _ _ _ w (by simp [zz]; omega) (by rw [ba_app, ba_app, hd]; simp) h2, Or.inl ⟨rfl, rfl⟩⟩
    · exact ⟨0, 3, fun w => parse_pair _ _ _ _ w (by simp [zz]; omega) (by rw [ba_app, ba_app, hd]; simp) h2, Or.inr ⟨rfl, rfl, by unfold top at h1; omega⟩⟩
  obtain ⟨x, e, P4, hor⟩ := P4
  have P4 := Lib.hid P4
  have hz' : (d.size : Int) ≤ 20 := by omega
  have hr' : (rest.size : Int) ≤ 100 := by omega
  clear zz z2 hd
  rcases hu with ⟨rfl, rfl⟩ | ⟨rfl, rfl⟩
  · go_enter Tryd.func8, Tryd.ntmps8
    go_wp2_with fail
    refine (DG.out _).mono ?_
    rintro _ w1 ⟨rfl, hw1⟩
    go_wp2_with fail
    refine (P1.out _).mono ?_
    rintro _ w2 ⟨rfl, hw2⟩
    go_wp2_with fail
    refine (P2.out _).mono ?_
    rintro _ w3 ⟨rfl, hw3⟩
    go_wp2_with fail
    refine (P3.out _).mono ?_
    rintro _ w4 ⟨rfl, hw4⟩
    go_wp2_with fail
    refine (P4.out _).mono ?_
    rintro _ w5 ⟨rfl, hw5⟩
    have G : Grw w w5 := ((((Grw.trans hw1 hw2).trans hw3).trans hw4).trans hw5)
    clear hw1 hw2 hw3 hw4 hw5 DG P1 P2 P3 P4
    rcases hor with ⟨rfl, rfl⟩ | ⟨rfl, rfl, hx⟩
    · go_wp2_with fail
      refine (wakes_any _).mono ?_
      rintro _ w6 ⟨rfl, hw6⟩
      go_wp2_with fail
      go_ret
      exact ⟨rfl, G.trans hw6⟩
    · have hx' : (1125899906842624 : Int) < (n : Int) * 604800 := by omega
      go_wp2_with fail
      refine (wakes_any _).mono ?_
      rintro _ w6 ⟨rfl, hw6⟩
      go_wp2_with fail
      go_ret
      exact ⟨rfl, G.trans hw6⟩
  · go_enter Tryd.func8, Tryd.ntmps8
    go_wp2_with fail
    refine (DG.out _).mono ?_
    rintro _ w1 ⟨rfl, hw1⟩
    go_wp2_with fail
    refine (P1.out _).mono ?_
    rintro _ w2 ⟨rfl, hw2⟩
    go_wp2_with fail
    refine (P2.out _).mono ?_
    rintro _ w3 ⟨rfl, hw3⟩
    go_wp2_with fail
    refine (P3.out _).mono ?_
    rintro _ w4 ⟨rfl, hw4⟩
    go_wp2_with fail
    refine (P4.out _).mono ?_
    rintro _ w5 ⟨rfl, hw5⟩
    have G : Grw w w5 := ((((Grw.trans hw1 hw2).trans hw3).trans hw4).trans hw5)
    clear hw1 hw2 hw3 hw4 hw5 DG P1 P2 P3 P4
    rcases hor with ⟨rfl, rfl⟩ | ⟨rfl, rfl, hx⟩
    · go_wp2_with fail
      refine (wakes_any _).mono ?_
      rintro _ w6 ⟨rfl, hw6⟩
      go_wp2_with fail
      go_ret
      exact ⟨rfl, G.trans hw6⟩
    · have hx' : (1125899906842624 : Int) < (n : Int) * 604800 := by omega
      go_wp2_with fail
      refine (wakes_any _).mono ?_
      rintro _ w6 ⟨rfl, hw6⟩
      go_wp2_with fail
      go_ret
      exact ⟨rfl, G.trans hw6⟩

set_option maxHeartbeats 1000000 in
set_option maxRecDepth 100000 in
theorem calendar_long (n : Nat) (year : Bool) (rest : ByteArray) (w : World) (hr : ¬ rest.size ≤ 100) (hs : rest.size ≤ 9223372036854775807) :
    Calls Tryd.prog 8 #[.int .u32 n, .bool year, .string rest] w fun e w' => e = .returned (.bool true) ∧ Grw w w' := by
  have hr' : (100 : Int) < rest.size := by omega
  go_enter Tryd.func8, Tryd.ntmps8
  go_wp2_with fail
  refine (wakes_any _).mono ?_
  rintro _ w6 ⟨rfl, hw6⟩
  go_wp2_with fail
  go_ret
  exact ⟨rfl, hw6⟩

theorem calendar_walk (n : Nat) (year : Bool) (rest : ByteArray) (w : World) (hn : n < 4294967296) (hs : rest.size ≤ 9223372036854775807) :
    Calls Tryd.prog 8 #[.int .u32 n, .bool year, .string rest] w fun e w' => e = .returned (.bool true) ∧ Grw w w' := by
  by_cases hr : rest.size ≤ 100
  · rcases year with _ | _
    · exact calendar_one n false 77 rest w hn hr (Or.inr ⟨rfl, rfl⟩)
    · exact calendar_one n true 89 rest w hn hr (Or.inl ⟨rfl, rfl⟩)
  · exact calendar_long n year rest w hr hs
end Go.Proofs.YtikelioaggllmaaDoor
