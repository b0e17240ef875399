/- The walk of SpanCuts. -/
import Derived.Test.YtikelioaggllmaaDoorLa
import Derived.Test.YtikelioaggllmaaDoorMc
namespace Go.Proofs.YtikelioaggllmaaDoor
open Go.RowKit SM

set_option maxHeartbeats 2000000 in
set_option maxRecDepth 100000 in
theorem cuts_none (s : ByteArray) (a : Nat) (w : World) (hs : s.size ≤ 9223372036854775807) (h : ¬ s.size ≤ 300 ∨ (s.size ≤ 300 ∧ pE s.data.toList ≠ 0)) :
    Calls Tryd.prog 7 #[.string s, .int .u8 a] w fun e w' => e = .returned (.bool true) ∧ Grw w w' := by
  have S := Lib.hid (fun w => parse_any s w hs)
  rcases h with h | ⟨h, hp⟩
  · have h' : (300 : Int) < s.size := by omega
    generalize pV s.data.toList = z at *
    generalize pE s.data.toList = e at *
    go_enter Tryd.func7, Tryd.ntmps7
    go_wp2_with fail
    refine (S.out _).mono ?_
    rintro _ w1 ⟨rfl, hw1⟩
    go_wp2_with fail
    refine (wakes_any _).mono ?_
    rintro _ w3 ⟨rfl, hw3⟩
    go_wp2_with fail
    go_ret
    exact ⟨rfl, Grw.trans hw1 hw3⟩
  · have h' : ¬ (300 : Int) < s.size := by omega
    have hp' : ((pE s.data.toList : Int) != 0) = true := by simp; omega
    generalize pV s.data.toList = z at *
    generalize pE s.data.toList = e at *
    clear hp
    go_enter Tryd.func7, Tryd.ntmps7
    go_wp2_with fail
    refine (S.out _).mono ?_
    rintro _ w1 ⟨rfl, hw1⟩
    go_wp2_with fail
    refine (wakes_any _).mono ?_
    rintro _ w3 ⟨rfl, hw3⟩
    go_wp2_with fail
    go_ret
    exact ⟨rfl, Grw.trans hw1 hw3⟩

set_option maxHeartbeats 4000000 in
set_option maxRecDepth 100000 in
theorem cuts_some (s : ByteArray) (a : Nat) (w : World) (h : s.size ≤ 300) (ha : a < 256) (hp : pE s.data.toList = 0) :
    Calls Tryd.prog 7 #[.string s, .int .u8 a] w fun e w' => e = .returned (.bool true) ∧ Grw w w' := by
  have h' : ¬ (300 : Int) < s.size := by omega
  obtain ⟨x, hx⟩ : ∃ x, pV s.data.toList = x := ⟨_, rfl⟩
  have S := Lib.hid (fun w => parse_at s x 0 w (by omega) hx hp)
  obtain ⟨k, hk⟩ : ∃ k : Nat, a % (s.size + 1) = k := ⟨_, rfl⟩
  have hks : k ≤ s.size := by rw [← hk]; have := Nat.mod_lt a (show 0 < s.size + 1 by omega); omega
  have hk' : (a : Int) % ((s.size : Int) + 1) = k := by rw [← hk]; simp
  obtain ⟨p, hpp⟩ : ∃ p : ByteArray, s.extract 0 k = p := ⟨_, rfl⟩
  have hpl : p.data.toList <+: s.data.toList := by rw [← hpp, Lib.extract_data]; simpa using List.take_prefix _ _
  have hpz : p.size ≤ 300 := by have := hpl.length_le; rw [← size_len, ← size_len] at this; omega
  have HP := Lib.hid hpp
  have Q := Lib.hid (fun w => parse_any p w (by omega))
  have C : (pE p.data.toList = 0 ∧ pV p.data.toList ≤ x) ∨ pE p.data.toList ≠ 0 := by
    by_cases g : pE p.data.toList = 0
    · left; refine ⟨g, ?_⟩; rw [← hx]; exact p_cut hpl g hp
    · right; exact g
  generalize pV p.data.toList = y at *
  generalize pE p.data.toList = f at *
  have zz : ∀ c : UInt8, (⟨#[c]⟩ : ByteArray).size = 1 := fun _ => rfl
  have q0 := Lib.hid (fun w => parse_pair (s ++ ⟨#[80]⟩) (s.data.toList ++ [80]) 0 2 w (by simp [zz]; omega) (by rw [ba_app]) (p_more stop_P hp))
  have q1 := Lib.hid (fun w => parse_pair (s ++ ⟨#[32]⟩) (s.data.toList ++ [32]) 0 2 w (by simp [zz]; omega) (by rw [ba_app]) (p_more stop_blank hp))
  have q2 := Lib.hid (fun w => parse_pair (s ++ s) (s.data.toList ++ s.data.toList) 0 2 w (by simp; omega) (by rw [ba_app]) (p_more (stop_self hp) hp))
  have q3 := Lib.hid (fun w => parse_pair (⟨#[32]⟩ ++ s) (32 :: s.data.toList) 0 2 w (by simp [zz]; omega) (by rw [ba_app]; simp) (p_noP 32 _ (by decide)))
  have q4 := Lib.hid (fun w => parse_pair (⟨#[45]⟩ ++ s) (45 :: s.data.toList) 0 2 w (by simp [zz]; omega) (by rw [ba_app]; simp) (p_noP 45 _ (by decide)))
  have h3 : (s.size : Int) ≤ 300 := by omega
  clear hpp hpl hpz hk hx hp zz
  rcases C with ⟨rfl, hyx⟩ | hf
  · have hyx' : ¬ (x : Int) < y := by omega
    have hyd : decide (x < y) = false := decide_eq_false (by omega)
    have Q1 := Q.out
    have z0 : ((0 : Nat) : Int) = 0 := rfl
    rw [z0] at Q1
    have Q := Lib.hid Q1
    clear Q1 z0
    go_enter Tryd.func7, Tryd.ntmps7
    go_wp2_with fail
    refine (S.out _).mono ?_
    rintro _ w1 ⟨rfl, hw1⟩
    go_wp2_with fail
    rw [HP.out]
    refine (Q.out _).mono ?_
    rintro _ w2 ⟨rfl, hw2⟩
    have G2 : Grw w w2 := Grw.trans hw1 hw2
    clear hw1 hw2 S Q HP
    go_wp2_with fail
    go_loopw [10, 11, 12, 58] (fun _ _ _ v wr => ∃ j : Nat, j ≤ 5 ∧ v = .int .i64 j ∧ Grw (w2.alloc (.cells #[.string (s ++ ⟨#[80]⟩), .string (s ++ ⟨#[32]⟩), .string (s ++ s), .string (⟨#[32]⟩ ++ s), .string (⟨#[45]⟩ ++ s)] 9)) wr) (fun _ _ _ v _ => 5 - (intOf v).toNat)
    case atStart => exact ⟨0, by omega, rfl, Grw.rfl' _⟩
    case round =>
      obtain ⟨j, hj, rfl, hg⟩ := hrel
      have G3 := (G2.alloc _).trans hg
      rcases j with _ | _ | _ | _ | _ | _ | j
      · have hc := hg.cell (a := ⟨w2.heap.size, 0, none⟩) (v := .string (s ++ ⟨#[80]⟩)) (by simp [go_sem])
        go_wp2_with fail
        refine (q0.out _).mono ?_
        rintro _ w4 ⟨rfl, hw4⟩
        go_wp2_with fail
        go_roundw
        case rel => exact ⟨1, by omega, by go_num, hg.trans hw4⟩
        case measure => simp [intOf]
      · have hc := hg.cell (a := ⟨w2.heap.size, 1, none⟩) (v := .string (s ++ ⟨#[32]⟩)) (by simp [go_sem])
        go_wp2_with fail
        refine (q1.out _).mono ?_
        rintro _ w4 ⟨rfl, hw4⟩
        go_wp2_with fail
        go_roundw
        case rel => exact ⟨2, by omega, by go_num, hg.trans hw4⟩
        case measure => simp [intOf]
      · have hc := hg.cell (a := ⟨w2.heap.size, 2, none⟩) (v := .string (s ++ s)) (by simp [go_sem])
        go_wp2_with fail
        refine (q2.out _).mono ?_
        rintro _ w4 ⟨rfl, hw4⟩
        go_wp2_with fail
        go_roundw
        case rel => exact ⟨3, by omega, by go_num, hg.trans hw4⟩
        case measure => simp [intOf]
      · have hc := hg.cell (a := ⟨w2.heap.size, 3, none⟩) (v := .string (⟨#[32]⟩ ++ s)) (by simp [go_sem])
        go_wp2_with fail
        refine (q3.out _).mono ?_
        rintro _ w4 ⟨rfl, hw4⟩
        go_wp2_with fail
        go_roundw
        case rel => exact ⟨4, by omega, by go_num, hg.trans hw4⟩
        case measure => simp [intOf]
      · have hc := hg.cell (a := ⟨w2.heap.size, 4, none⟩) (v := .string (⟨#[45]⟩ ++ s)) (by simp [go_sem])
        go_wp2_with fail
        refine (q4.out _).mono ?_
        rintro _ w4 ⟨rfl, hw4⟩
        go_wp2_with fail
        go_roundw
        case rel => exact ⟨5, by omega, by go_num, hg.trans hw4⟩
        case measure => simp [intOf]
      · go_wp2_with fail
        refine (wakes_any _).mono ?_
        rintro _ w4 ⟨rfl, hw4⟩
        go_wp2_with fail
        go_ret
        exact ⟨rfl, Grw.trans G3 hw4⟩
      · omega
  · have hf' : ((f : Int) == 0) = false := by simp; omega
    clear hf
    go_enter Tryd.func7, Tryd.ntmps7
    go_wp2_with fail
    refine (S.out _).mono ?_
    rintro _ w1 ⟨rfl, hw1⟩
    go_wp2_with fail
    rw [HP.out]
    refine (Q.out _).mono ?_
    rintro _ w2 ⟨rfl, hw2⟩
    have G2 : Grw w w2 := Grw.trans hw1 hw2
    clear hw1 hw2 S Q HP
    go_wp2_with fail
    go_loopw [10, 11, 12, 58] (fun _ _ _ v wr => ∃ j : Nat, j ≤ 5 ∧ v = .int .i64 j ∧ Grw (w2.alloc (.cells #[.string (s ++ ⟨#[80]⟩), .string (s ++ ⟨#[32]⟩), .string (s ++ s), .string (⟨#[32]⟩ ++ s), .string (⟨#[45]⟩ ++ s)] 9)) wr) (fun _ _ _ v _ => 5 - (intOf v).toNat)
    case atStart => exact ⟨0, by omega, rfl, Grw.rfl' _⟩
    case round =>
      obtain ⟨j, hj, rfl, hg⟩ := hrel
      have G3 := (G2.alloc _).trans hg
      rcases j with _ | _ | _ | _ | _ | _ | j
      · have hc := hg.cell (a := ⟨w2.heap.size, 0, none⟩) (v := .string (s ++ ⟨#[80]⟩)) (by simp [go_sem])
        go_wp2_with fail
        refine (q0.out _).mono ?_
        rintro _ w4 ⟨rfl, hw4⟩
        go_wp2_with fail
        go_roundw
        case rel => exact ⟨1, by omega, by go_num, hg.trans hw4⟩
        case measure => simp [intOf]
      · have hc := hg.cell (a := ⟨w2.heap.size, 1, none⟩) (v := .string (s ++ ⟨#[32]⟩)) (by simp [go_sem])
        go_wp2_with fail
        refine (q1.out _).mono ?_
        rintro _ w4 ⟨rfl, hw4⟩
        go_wp2_with fail
        go_roundw
        case rel => exact ⟨2, by omega, by go_num, hg.trans hw4⟩
        case measure => simp [intOf]
      · have hc := hg.cell (a := ⟨w2.heap.size, 2, none⟩) (v := .string (s ++ s)) (by simp [go_sem])
        go_wp2_with fail
        refine (q2.out _).mono ?_
        rintro _ w4 ⟨rfl, hw4⟩
        go_wp2_with fail
        go_roundw
        case rel => exact ⟨3, by omega, by go_num, hg.trans hw4⟩
        case measure => simp [intOf]
      · have hc := hg.cell (a := ⟨w2.heap.size, 3, none⟩) (v := .string (⟨#[32]⟩ ++ s)) (by simp [go_sem])
        go_wp2_with fail
        refine (q3.out _).mono ?_
        rintro _ w4 ⟨rfl, hw4⟩
        go_wp2_with fail
        go_roundw
        case rel => exact ⟨4, by omega, by go_num, hg.trans hw4⟩
        case measure => simp [intOf]
      · have hc := hg.cell (a := ⟨w2.heap.size, 4, none⟩) (v := .string (⟨#[45]⟩ ++ s)) (by simp [go_sem])
        go_wp2_with fail
        refine (q4.out _).mono ?_
        rintro _ w4 ⟨rfl, hw4⟩
        go_wp2_with fail
        go_roundw
        case rel => exact ⟨5, by omega, by go_num, hg.trans hw4⟩
        case measure => simp [intOf]
      · go_wp2_with fail
        refine (wakes_any _).mono ?_
        rintro _ w4 ⟨rfl, hw4⟩
        go_wp2_with fail
        go_ret
        exact ⟨rfl, Grw.trans G3 hw4⟩
      · omega

theorem cuts_walk (s : ByteArray) (a : Nat) (w : World) (hs : s.size ≤ 9223372036854775807) (ha : a < 256) :
    Calls Tryd.prog 7 #[.string s, .int .u8 a] w fun e w' => e = .returned (.bool true) ∧ Grw w w' := by
  by_cases h : s.size ≤ 300
  · by_cases hp : pE s.data.toList = 0
    · exact cuts_some s a w h ha hp
    · exact cuts_none s a w hs (Or.inr ⟨h, hp⟩)
  · exact cuts_none s a w hs (Or.inl h)
end Go.Proofs.YtikelioaggllmaaDoor
