/- The contract of span.measureClock at this program. -/
import Derived.Test.YtcdfjheklggfhaaDoorWb
import Derived.Test.YtcdfjheklggfhaaDoorScope
namespace Go.Proofs.YtcdfjheklggfhaaDoor
open Go.RowKit SM
set_option linter.unusedSimpArgs false

def sat (x : Nat) : Nat := min x 18446744073709551615
theorem sat_lt (x : Nat) : sat x < 18446744073709551616 := by unfold sat; omega
theorem longN_sat (x n u : Nat) : longN (sat x) n u = sat (x + n * u) := by unfold longN sat; omega

/-- what a state machine answers. -/
def mV (o : Option Nat) : Nat := match o with | some x => sat x | none => 0
def mB (o : Option Nat) : Bool := o.isSome

theorem item_yes' (s : ByteArray) (n : Nat) (u : UInt8) (b : ByteArray) (w : World) (hs : s.size ≤ 9223372036854775807) (h : item s.data.toList = some (n, u, b.data.toList)) :
    Calls Tryd.prog 46 #[.string s] w fun e w' => e = .returned (.tuple #[.int .u64 n, .int .u8 u.toNat, .string b]) ∧ Grw w w' := by
  have := item_yes s n u b.data.toList w hs h
  have e : (⟨b.data.toList.toArray⟩ : ByteArray) = b := by cases b; simp
  rw [e] at this; exact this
theorem longer_sat (len n u : Nat) (w : World) (hn : n < 18446744073709551616) (hu : u < 18446744073709551616) :
    Calls Tryd.prog 47 #[.int .u64 (sat len), .int .u64 n, .int .u64 u] w fun e w' => e = .returned (.int .u64 (sat (len + n * u))) ∧ w = w' := by
  have := longer_any (sat len) n u w (sat_lt _) hn hu
  rw [longN_sat] at this; exact this
theorem une (u v : UInt8) (h : u ≠ v) : ((u.toNat : Int) != (v.toNat : Int)) = true := by
  have : u.toNat ≠ v.toNat := fun e => h (UInt8.toNat_inj.1 e)
  simp; omega

set_option maxHeartbeats 4000000 in
theorem clock_any (len : Nat) (s : ByteArray) (w : World) (hs : s.size ≤ 9223372036854775807) :
    Calls Tryd.prog 48 #[.int .u64 (sat len), .string s] w fun e w' => e = .returned (.tuple #[.int .u64 (mV (clock len (item s.data.toList))), .bool (mB (clock len (item s.data.toList)))]) ∧ Grw w w' := by
  obtain ⟨res, hres⟩ : ∃ res, clock len (item s.data.toList) = res := ⟨_, rfl⟩
  rw [hres]
  have HR := Lib.hid hres
  clear hres
  go_enter Tryd.func48, Tryd.ntmps48
  go_wp2_with fail
  refine wp_scope_named 4 fun J hret hgo => ?_
  have R := Lib.hid hret
  have G := Lib.hid hgo
  clear hret hgo
  rcases hi1 : item s.data.toList with _ | ⟨n1, u1, r1⟩
  · have T := Lib.hid (fun w => item_no s w hs hi1)
    have I1 := Lib.hid hi1; clear hi1
    go_wp2_with fail
    refine (T.out _).mono ?_
    rintro _ w2 ⟨rfl, hw2⟩
    clear T
    have g2 : Grw w w2 := hw2
    clear hw2
    go_wp2_with fail
    go_step3
    refine G.out _ _ _ _ _ rfl ?_
    go_wp2_with fail
    go_step3
    refine G.out _ _ _ _ _ rfl ?_
    go_wp2_with fail
    refine R.out _ _ _ ?_
    have e : res = none := by rw [← HR.out]; simp [clock, mins, secs, I1.out]
    subst e
    go_ret2
    exact ⟨rfl, g2⟩
  · obtain ⟨b1, hb1⟩ : ∃ b : ByteArray, b.data.toList = r1 := ⟨⟨r1.toArray⟩, by simp⟩
    subst hb1
    have hn1 := item_lt hi1
    have hs1 : b1.size ≤ 9223372036854775807 := by have := item_len hi1; rw [← size_len, ← size_len] at this; omega
    have T := Lib.hid (fun w => item_yes' s n1 u1 b1 w hs hi1)
    have I1 := Lib.hid hi1; clear hi1
    go_wp2_with fail
    refine (T.out _).mono ?_
    rintro _ w3 ⟨rfl, hw3⟩
    clear T
    have g3 : Grw w w3 := hw3
    clear hw3
    by_cases hu1_72 : u1 = 72
    · have q1_72 : ((u1.toNat : Int) != 72) = false := by rw [hu1_72]; rfl
      have U1_72 := Lib.hid hu1_72; clear hu1_72
      have D := Lib.hid (fun w => longer_sat (len) n1 3600 w (by omega) (by omega))
      go_wp2_with fail
      refine (D.out _).mono ?_
      rintro _ _ ⟨rfl, rfl⟩
      clear D
      by_cases hr1 : b1.data.toList = []
      · have p1 : b1.toList.isEmpty = true := by rw [Lib.toList_data, hr1]; rfl
        have p1' : b1.toList = [] := by rw [Lib.toList_data, hr1]
        have E1 := Lib.hid hr1; clear hr1
        go_wp2_with fail
        go_step3
        refine G.out _ _ _ _ _ rfl ?_
        go_wp2_with fail
        refine R.out _ _ _ ?_
        have e : res = some (len + n1 * 3600) := by rw [← HR.out]; simp [clock, mins, secs, I1.out, U1_72.out, E1.out]
        subst e
        go_ret2
        exact ⟨rfl, g3⟩
      · have p1 : b1.toList.isEmpty = false := by rw [Lib.toList_data, List.isEmpty_eq_false_iff]; exact hr1
        have p1' : ¬ b1.toList = [] := by rw [Lib.toList_data]; exact hr1
        have E1 := Lib.hid hr1; clear hr1
        rcases hi4 : item b1.data.toList with _ | ⟨n4, u4, r4⟩
        · have T := Lib.hid (fun w => item_no b1 w hs1 hi4)
          have I4 := Lib.hid hi4; clear hi4
          go_wp2_with fail
          refine (T.out _).mono ?_
          rintro _ w5 ⟨rfl, hw5⟩
          clear T
          have g5 : Grw w w5 := Grw.trans g3 hw5
          clear hw5 g3
          go_wp2_with fail
          go_step3
          go_wp2_with fail
          go_step3
          refine G.out _ _ _ _ _ rfl ?_
          go_wp2_with fail
          refine R.out _ _ _ ?_
          have e : res = none := by rw [← HR.out]; simp [clock, mins, secs, I1.out, U1_72.out, E1.out, I4.out]
          subst e
          go_ret2
          exact ⟨rfl, g5⟩
        · obtain ⟨b4, hb4⟩ : ∃ b : ByteArray, b.data.toList = r4 := ⟨⟨r4.toArray⟩, by simp⟩
          subst hb4
          have hn4 := item_lt hi4
          have hs4 : b4.size ≤ 9223372036854775807 := by have := item_len hi4; rw [← size_len, ← size_len] at this; omega
          have T := Lib.hid (fun w => item_yes' b1 n4 u4 b4 w hs1 hi4)
          have I4 := Lib.hid hi4; clear hi4
          go_wp2_with fail
          refine (T.out _).mono ?_
          rintro _ w6 ⟨rfl, hw6⟩
          clear T
          have g6 : Grw w w6 := Grw.trans g3 hw6
          clear hw6 g3
          go_wp2_with fail
          go_step3
          by_cases hu4_77 : u4 = 77
          · have q4_77 : ((u4.toNat : Int) != 77) = false := by rw [hu4_77]; rfl
            have U4_77 := Lib.hid hu4_77; clear hu4_77
            have D := Lib.hid (fun w => longer_sat (len + n1 * 3600) n4 60 w (by omega) (by omega))
            go_wp2_with fail
            refine (D.out _).mono ?_
            rintro _ _ ⟨rfl, rfl⟩
            clear D
            by_cases hr4 : b4.data.toList = []
            · have p4 : b4.toList.isEmpty = true := by rw [Lib.toList_data, hr4]; rfl
              have p4' : b4.toList = [] := by rw [Lib.toList_data, hr4]
              have E4 := Lib.hid hr4; clear hr4
              go_wp2_with fail
              go_step3
              refine G.out _ _ _ _ _ rfl ?_
              go_wp2_with fail
              refine R.out _ _ _ ?_
              have e : res = some (len + n1 * 3600 + n4 * 60) := by rw [← HR.out]; simp [clock, mins, secs, I1.out, U1_72.out, E1.out, I4.out, U4_77.out, E4.out]
              subst e
              go_ret2
              exact ⟨rfl, g6⟩
            · have p4 : b4.toList.isEmpty = false := by rw [Lib.toList_data, List.isEmpty_eq_false_iff]; exact hr4
              have p4' : ¬ b4.toList = [] := by rw [Lib.toList_data]; exact hr4
              have E4 := Lib.hid hr4; clear hr4
              rcases hi7 : item b4.data.toList with _ | ⟨n7, u7, r7⟩
              · have T := Lib.hid (fun w => item_no b4 w hs4 hi7)
                have I7 := Lib.hid hi7; clear hi7
                go_wp2_with fail
                refine (T.out _).mono ?_
                rintro _ w8 ⟨rfl, hw8⟩
                clear T
                have g8 : Grw w w8 := Grw.trans g6 hw8
                clear hw8 g6
                go_wp2_with fail
                go_step3
                go_wp2_with fail
                refine R.out _ _ _ ?_
                have e : res = none := by rw [← HR.out]; simp [clock, mins, secs, I1.out, U1_72.out, E1.out, I4.out, U4_77.out, E4.out, I7.out]
                subst e
                go_ret2
                exact ⟨rfl, g8⟩
              · obtain ⟨b7, hb7⟩ : ∃ b : ByteArray, b.data.toList = r7 := ⟨⟨r7.toArray⟩, by simp⟩
                subst hb7
                have hn7 := item_lt hi7
                have hs7 : b7.size ≤ 9223372036854775807 := by have := item_len hi7; rw [← size_len, ← size_len] at this; omega
                have T := Lib.hid (fun w => item_yes' b4 n7 u7 b7 w hs4 hi7)
                have I7 := Lib.hid hi7; clear hi7
                go_wp2_with fail
                refine (T.out _).mono ?_
                rintro _ w9 ⟨rfl, hw9⟩
                clear T
                have g9 : Grw w w9 := Grw.trans g6 hw9
                clear hw9 g6
                go_wp2_with fail
                go_step3
                by_cases hu7_83 : u7 = 83
                · have q7_83 : ((u7.toNat : Int) != 83) = false := by rw [hu7_83]; rfl
                  have U7_83 := Lib.hid hu7_83; clear hu7_83
                  by_cases hr7 : b7.data.toList = []
                  · have p7 : b7.toList.isEmpty = true := by rw [Lib.toList_data, hr7]; rfl
                    have p7' : b7.toList = [] := by rw [Lib.toList_data, hr7]
                    have E7 := Lib.hid hr7; clear hr7
                    have D := Lib.hid (fun w => longer_sat (len + n1 * 3600 + n4 * 60) n7 1 w (by omega) (by omega))
                    go_wp2_with fail
                    refine (D.out _).mono ?_
                    rintro _ _ ⟨rfl, rfl⟩
                    clear D
                    go_wp2_with fail
                    go_step3
                    go_wp2_with fail
                    refine R.out _ _ _ ?_
                    have e : res = some (len + n1 * 3600 + n4 * 60 + n7) := by rw [← HR.out]; simp [clock, mins, secs, I1.out, U1_72.out, E1.out, I4.out, U4_77.out, E4.out, I7.out, U7_83.out, E7.out]
                    subst e
                    go_ret2
                    exact ⟨rfl, g9⟩
                  · have p7 : b7.toList.isEmpty = false := by rw [Lib.toList_data, List.isEmpty_eq_false_iff]; exact hr7
                    have p7' : ¬ b7.toList = [] := by rw [Lib.toList_data]; exact hr7
                    have E7 := Lib.hid hr7; clear hr7
                    go_wp2_with fail
                    refine R.out _ _ _ ?_
                    have e : res = none := by rw [← HR.out]; simp [clock, mins, secs, I1.out, U1_72.out, E1.out, I4.out, U4_77.out, E4.out, I7.out, U7_83.out, E7.out]
                    subst e
                    go_ret2
                    exact ⟨rfl, g9⟩
                · have q7_83 : ((u7.toNat : Int) != 83) = true := une u7 83 hu7_83
                  have U7_83 := Lib.hid hu7_83; clear hu7_83
                  go_wp2_with fail
                  refine R.out _ _ _ ?_
                  have e : res = none := by rw [← HR.out]; simp [clock, mins, secs, I1.out, U1_72.out, E1.out, I4.out, U4_77.out, E4.out, I7.out, U7_83.out]
                  subst e
                  go_ret2
                  exact ⟨rfl, g9⟩
          · have q4_77 : ((u4.toNat : Int) != 77) = true := une u4 77 hu4_77
            have U4_77 := Lib.hid hu4_77; clear hu4_77
            go_wp2_with fail
            go_step3
            refine G.out _ _ _ _ _ rfl ?_
            by_cases hu4_83 : u4 = 83
            · have q4_83 : ((u4.toNat : Int) != 83) = false := by rw [hu4_83]; rfl
              have U4_83 := Lib.hid hu4_83; clear hu4_83
              by_cases hr4 : b4.data.toList = []
              · have p4 : b4.toList.isEmpty = true := by rw [Lib.toList_data, hr4]; rfl
                have p4' : b4.toList = [] := by rw [Lib.toList_data, hr4]
                have E4 := Lib.hid hr4; clear hr4
                have D := Lib.hid (fun w => longer_sat (len + n1 * 3600) n4 1 w (by omega) (by omega))
                go_wp2_with fail
                refine (D.out _).mono ?_
                rintro _ _ ⟨rfl, rfl⟩
                clear D
                go_wp2_with fail
                go_step3
                go_wp2_with fail
                refine R.out _ _ _ ?_
                have e : res = some (len + n1 * 3600 + n4) := by rw [← HR.out]; simp [clock, mins, secs, I1.out, U1_72.out, E1.out, I4.out, U4_77.out, U4_83.out, E4.out]
                subst e
                go_ret2
                exact ⟨rfl, g6⟩
              · have p4 : b4.toList.isEmpty = false := by rw [Lib.toList_data, List.isEmpty_eq_false_iff]; exact hr4
                have p4' : ¬ b4.toList = [] := by rw [Lib.toList_data]; exact hr4
                have E4 := Lib.hid hr4; clear hr4
                go_wp2_with fail
                refine R.out _ _ _ ?_
                have e : res = none := by rw [← HR.out]; simp [clock, mins, secs, I1.out, U1_72.out, E1.out, I4.out, U4_77.out, U4_83.out, E4.out]
                subst e
                go_ret2
                exact ⟨rfl, g6⟩
            · have q4_83 : ((u4.toNat : Int) != 83) = true := une u4 83 hu4_83
              have U4_83 := Lib.hid hu4_83; clear hu4_83
              go_wp2_with fail
              refine R.out _ _ _ ?_
              have e : res = none := by rw [← HR.out]; simp [clock, mins, secs, I1.out, U1_72.out, E1.out, I4.out, U4_77.out, U4_83.out]
              subst e
              go_ret2
              exact ⟨rfl, g6⟩
    · have q1_72 : ((u1.toNat : Int) != 72) = true := une u1 72 hu1_72
      have U1_72 := Lib.hid hu1_72; clear hu1_72
      go_wp2_with fail
      go_step3
      refine G.out _ _ _ _ _ rfl ?_
      by_cases hu1_77 : u1 = 77
      · have q1_77 : ((u1.toNat : Int) != 77) = false := by rw [hu1_77]; rfl
        have U1_77 := Lib.hid hu1_77; clear hu1_77
        have D := Lib.hid (fun w => longer_sat (len) n1 60 w (by omega) (by omega))
        go_wp2_with fail
        refine (D.out _).mono ?_
        rintro _ _ ⟨rfl, rfl⟩
        clear D
        by_cases hr1 : b1.data.toList = []
        · have p1 : b1.toList.isEmpty = true := by rw [Lib.toList_data, hr1]; rfl
          have p1' : b1.toList = [] := by rw [Lib.toList_data, hr1]
          have E1 := Lib.hid hr1; clear hr1
          go_wp2_with fail
          go_step3
          refine G.out _ _ _ _ _ rfl ?_
          go_wp2_with fail
          refine R.out _ _ _ ?_
          have e : res = some (len + n1 * 60) := by rw [← HR.out]; simp [clock, mins, secs, I1.out, U1_72.out, U1_77.out, E1.out]
          subst e
          go_ret2
          exact ⟨rfl, g3⟩
        · have p1 : b1.toList.isEmpty = false := by rw [Lib.toList_data, List.isEmpty_eq_false_iff]; exact hr1
          have p1' : ¬ b1.toList = [] := by rw [Lib.toList_data]; exact hr1
          have E1 := Lib.hid hr1; clear hr1
          rcases hi10 : item b1.data.toList with _ | ⟨n10, u10, r10⟩
          · have T := Lib.hid (fun w => item_no b1 w hs1 hi10)
            have I10 := Lib.hid hi10; clear hi10
            go_wp2_with fail
            refine (T.out _).mono ?_
            rintro _ w11 ⟨rfl, hw11⟩
            clear T
            have g11 : Grw w w11 := Grw.trans g3 hw11
            clear hw11 g3
            go_wp2_with fail
            go_step3
            go_wp2_with fail
            refine R.out _ _ _ ?_
            have e : res = none := by rw [← HR.out]; simp [clock, mins, secs, I1.out, U1_72.out, U1_77.out, E1.out, I10.out]
            subst e
            go_ret2
            exact ⟨rfl, g11⟩
          · obtain ⟨b10, hb10⟩ : ∃ b : ByteArray, b.data.toList = r10 := ⟨⟨r10.toArray⟩, by simp⟩
            subst hb10
            have hn10 := item_lt hi10
            have hs10 : b10.size ≤ 9223372036854775807 := by have := item_len hi10; rw [← size_len, ← size_len] at this; omega
            have T := Lib.hid (fun w => item_yes' b1 n10 u10 b10 w hs1 hi10)
            have I10 := Lib.hid hi10; clear hi10
            go_wp2_with fail
            refine (T.out _).mono ?_
            rintro _ w12 ⟨rfl, hw12⟩
            clear T
            have g12 : Grw w w12 := Grw.trans g3 hw12
            clear hw12 g3
            go_wp2_with fail
            go_step3
            by_cases hu10_83 : u10 = 83
            · have q10_83 : ((u10.toNat : Int) != 83) = false := by rw [hu10_83]; rfl
              have U10_83 := Lib.hid hu10_83; clear hu10_83
              by_cases hr10 : b10.data.toList = []
              · have p10 : b10.toList.isEmpty = true := by rw [Lib.toList_data, hr10]; rfl
                have p10' : b10.toList = [] := by rw [Lib.toList_data, hr10]
                have E10 := Lib.hid hr10; clear hr10
                have D := Lib.hid (fun w => longer_sat (len + n1 * 60) n10 1 w (by omega) (by omega))
                go_wp2_with fail
                refine (D.out _).mono ?_
                rintro _ _ ⟨rfl, rfl⟩
                clear D
                go_wp2_with fail
                go_step3
                go_wp2_with fail
                refine R.out _ _ _ ?_
                have e : res = some (len + n1 * 60 + n10) := by rw [← HR.out]; simp [clock, mins, secs, I1.out, U1_72.out, U1_77.out, E1.out, I10.out, U10_83.out, E10.out]
                subst e
                go_ret2
                exact ⟨rfl, g12⟩
              · have p10 : b10.toList.isEmpty = false := by rw [Lib.toList_data, List.isEmpty_eq_false_iff]; exact hr10
                have p10' : ¬ b10.toList = [] := by rw [Lib.toList_data]; exact hr10
                have E10 := Lib.hid hr10; clear hr10
                go_wp2_with fail
                refine R.out _ _ _ ?_
                have e : res = none := by rw [← HR.out]; simp [clock, mins, secs, I1.out, U1_72.out, U1_77.out, E1.out, I10.out, U10_83.out, E10.out]
                subst e
                go_ret2
                exact ⟨rfl, g12⟩
            · have q10_83 : ((u10.toNat : Int) != 83) = true := une u10 83 hu10_83
              have U10_83 := Lib.hid hu10_83; clear hu10_83
              go_wp2_with fail
              refine R.out _ _ _ ?_
              have e : res = none := by rw [← HR.out]; simp [clock, mins, secs, I1.out, U1_72.out, U1_77.out, E1.out, I10.out, U10_83.out]
              subst e
              go_ret2
              exact ⟨rfl, g12⟩
      · have q1_77 : ((u1.toNat : Int) != 77) = true := une u1 77 hu1_77
        have U1_77 := Lib.hid hu1_77; clear hu1_77
        go_wp2_with fail
        go_step3
        refine G.out _ _ _ _ _ rfl ?_
        by_cases hu1_83 : u1 = 83
        · have q1_83 : ((u1.toNat : Int) != 83) = false := by rw [hu1_83]; rfl
          have U1_83 := Lib.hid hu1_83; clear hu1_83
          by_cases hr1 : b1.data.toList = []
          · have p1 : b1.toList.isEmpty = true := by rw [Lib.toList_data, hr1]; rfl
            have p1' : b1.toList = [] := by rw [Lib.toList_data, hr1]
            have E1 := Lib.hid hr1; clear hr1
            have D := Lib.hid (fun w => longer_sat (len) n1 1 w (by omega) (by omega))
            go_wp2_with fail
            refine (D.out _).mono ?_
            rintro _ _ ⟨rfl, rfl⟩
            clear D
            go_wp2_with fail
            go_step3
            go_wp2_with fail
            refine R.out _ _ _ ?_
            have e : res = some (len + n1) := by rw [← HR.out]; simp [clock, mins, secs, I1.out, U1_72.out, U1_77.out, U1_83.out, E1.out]
            subst e
            go_ret2
            exact ⟨rfl, g3⟩
          · have p1 : b1.toList.isEmpty = false := by rw [Lib.toList_data, List.isEmpty_eq_false_iff]; exact hr1
            have p1' : ¬ b1.toList = [] := by rw [Lib.toList_data]; exact hr1
            have E1 := Lib.hid hr1; clear hr1
            go_wp2_with fail
            refine R.out _ _ _ ?_
            have e : res = none := by rw [← HR.out]; simp [clock, mins, secs, I1.out, U1_72.out, U1_77.out, U1_83.out, E1.out]
            subst e
            go_ret2
            exact ⟨rfl, g3⟩
        · have q1_83 : ((u1.toNat : Int) != 83) = true := une u1 83 hu1_83
          have U1_83 := Lib.hid hu1_83; clear hu1_83
          go_wp2_with fail
          refine R.out _ _ _ ?_
          have e : res = none := by rw [← HR.out]; simp [clock, mins, secs, I1.out, U1_72.out, U1_77.out, U1_83.out]
          subst e
          go_ret2
          exact ⟨rfl, g3⟩
end Go.Proofs.YtcdfjheklggfhaaDoor
