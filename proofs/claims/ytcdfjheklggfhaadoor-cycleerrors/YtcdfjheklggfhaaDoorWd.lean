/- The contracts of span.measure, isCalendar and Parse at this program. -/
import Derived.Test.YtcdfjheklggfhaaDoorWc
namespace Go.Proofs.YtcdfjheklggfhaaDoor
open Go.RowKit SM
set_option linter.unusedSimpArgs false

theorem hasPrefix_one (l : List UInt8) (c : UInt8) : Lib.hasPrefix l [c] = true ↔ ∃ t, l = c :: t := by
  unfold Lib.hasPrefix
  rw [List.isPrefixOf_iff_prefix]
  constructor
  · rintro ⟨t, rfl⟩; exact ⟨t, rfl⟩
  · rintro ⟨t, rfl⟩; exact ⟨t, rfl⟩

theorem cut_yes (s b : ByteArray) (c : UInt8) (w : World) (h : s.data.toList = c :: b.data.toList) :
    Calls Tryd.prog 21 #[.string s, .string ⟨#[c]⟩] w fun e w' => e = .returned (.tuple #[.string b, .bool true]) ∧ w = w' := by
  have g := Tryd.strings_CutPrefix s ⟨#[c]⟩ w
  have h1 : Lib.hasPrefix s.data.toList [c] = true := (hasPrefix_one _ _).2 ⟨_, h⟩
  have h2 : (⟨(Lib.trimPrefix s.data.toList [c]).toArray⟩ : ByteArray) = b := by
    unfold Lib.trimPrefix; rw [if_pos h1, h]; cases b; simp
  have e : (⟨#[c]⟩ : ByteArray).data.toList = [c] := rfl
  rw [e, h1, h2] at g
  exact g.mono fun _ _ ⟨he, hw⟩ => ⟨he, hw.symm⟩
theorem cut_no (s : ByteArray) (c : UInt8) (w : World) (h : ¬ ∃ t, s.data.toList = c :: t) :
    Calls Tryd.prog 21 #[.string s, .string ⟨#[c]⟩] w fun e w' => e = .returned (.tuple #[.string s, .bool false]) ∧ w = w' := by
  have g := Tryd.strings_CutPrefix s ⟨#[c]⟩ w
  have h1 : Lib.hasPrefix s.data.toList [c] = false := by rw [Bool.eq_false_iff]; intro e; exact h ((hasPrefix_one _ _).1 e)
  have h2 : (⟨(Lib.trimPrefix s.data.toList [c]).toArray⟩ : ByteArray) = s := by
    unfold Lib.trimPrefix; rw [h1]; cases s; simp
  have e : (⟨#[c]⟩ : ByteArray).data.toList = [c] := rfl
  rw [e, h1, h2] at g
  exact g.mono fun _ _ ⟨he, hw⟩ => ⟨he, hw.symm⟩
theorem has_yes (s : ByteArray) (c : UInt8) (w : World) (h : ∃ t, s.data.toList = c :: t) :
    Calls Tryd.prog 22 #[.string s, .string ⟨#[c]⟩] w fun e w' => e = .returned (.bool true) ∧ w = w' := by
  have g := Tryd.strings_HasPrefix s ⟨#[c]⟩ w
  have e : (⟨#[c]⟩ : ByteArray).data.toList = [c] := rfl
  rw [e, (hasPrefix_one _ _).2 h] at g
  exact g.mono fun _ _ ⟨he, hw⟩ => ⟨he, hw.symm⟩
theorem has_no (s : ByteArray) (c : UInt8) (w : World) (h : ¬ ∃ t, s.data.toList = c :: t) :
    Calls Tryd.prog 22 #[.string s, .string ⟨#[c]⟩] w fun e w' => e = .returned (.bool false) ∧ w = w' := by
  have g := Tryd.strings_HasPrefix s ⟨#[c]⟩ w
  have h1 : Lib.hasPrefix s.data.toList [c] = false := by rw [Bool.eq_false_iff]; intro e; exact h ((hasPrefix_one _ _).1 e)
  have e : (⟨#[c]⟩ : ByteArray).data.toList = [c] := rfl
  rw [e, h1] at g
  exact g.mono fun _ _ ⟨he, hw⟩ => ⟨he, hw.symm⟩

theorem dur_noP {l : List UInt8} (h : ¬ ∃ t, l = 80 :: t) : dur l = none := by
  unfold dur; split
  · exact absurd ⟨_, rfl⟩ h
  · rfl
theorem cal_noP {l : List UInt8} (h : ¬ ∃ t, l = 80 :: t) : cal l = false := by
  unfold cal; split
  · exact absurd ⟨_, rfl⟩ h
  · rfl
/-- behind P, where no T stands. -/
def bodyI : Option (Nat × UInt8 × List UInt8) → Option Nat
  | some (n, u, r) => if u = 87 then (if r = [] then some (n * 604800) else none) else if u = 68 then (match r with | [] => some (n * 86400) | 84 :: t => clock (n * 86400) (item t) | _ => none) else none
  | none => none
theorem body_noT {l : List UInt8} (h : ¬ ∃ t, l = 84 :: t) : body l = bodyI (item l) := by
  unfold body; split
  · exact absurd ⟨_, rfl⟩ h
  · unfold bodyI; rfl
theorem days_noT {n : Nat} {r : List UInt8} (h0 : r ≠ []) (h : ¬ ∃ t, r = 84 :: t) : bodyI (some (n, 68, r)) = none := by
  simp only [bodyI]
  rw [if_neg (by decide), if_pos trivial]
  split
  · exact absurd rfl h0
  · exact absurd ⟨_, rfl⟩ h
  · rfl
theorem days_T (n : Nat) (t : List UInt8) : bodyI (some (n, 68, 84 :: t)) = clock (n * 86400) (item t) := by
  simp [bodyI]
theorem ba_of (l : List UInt8) : ∃ b : ByteArray, b.data.toList = l := ⟨⟨l.toArray⟩, by simp⟩
theorem ueq (u v : UInt8) (h : u ≠ v) : ((u.toNat : Int) == (v.toNat : Int)) = false := by
  have : u.toNat ≠ v.toNat := fun e => h (UInt8.toNat_inj.1 e)
  simp; omega
theorem une' (u v : UInt8) (h : u ≠ v) : ¬ ((u.toNat : Int) = (v.toNat : Int)) := by
  have : u.toNat ≠ v.toNat := fun e => h (UInt8.toNat_inj.1 e)
  omega

set_option maxHeartbeats 4000000 in
theorem measure_any (s : ByteArray) (w : World) (hs : s.size ≤ 9223372036854775807) :
    Calls Tryd.prog 35 #[.string s] w fun e w' => e = .returned (.tuple #[.int .u64 (mV (dur s.data.toList)), .bool (mB (dur s.data.toList))]) ∧ Grw w w' := by
  obtain ⟨res, hres⟩ : ∃ res, dur s.data.toList = res := ⟨_, rfl⟩
  rw [hres]
  have HR := Lib.hid hres
  clear hres
  by_cases hP : ∃ t, s.data.toList = 80 :: t
  · obtain ⟨t0, ht0⟩ := hP
    obtain ⟨b, rfl⟩ := ba_of t0
    have hb : b.size ≤ 9223372036854775807 := by have := congrArg List.length ht0; rw [← size_len, List.length_cons, ← size_len] at this; omega
    have P1 := Lib.hid (fun w => cut_yes s b 80 w ht0)
    have F1 := Lib.hid ht0
    clear ht0
    by_cases hT : ∃ t, b.data.toList = 84 :: t
    · have P2 := Lib.hid (fun w => has_yes b 84 w hT)
      obtain ⟨t1, ht1⟩ := hT
      obtain ⟨c, rfl⟩ := ba_of t1
      have hc : c.size ≤ 9223372036854775807 := by have := congrArg List.length ht1; rw [← size_len, List.length_cons, ← size_len] at this; omega
      have P3 := Lib.hid (fun w => cut_yes b c 84 w ht1)
      have M := fun w => clock_any 0 c w hc
      have e : res = clock 0 (item c.data.toList) := by rw [← HR.out, F1.out, ht1]; rfl
      rw [← e] at M
      have z : ((sat 0 : Nat) : Int) = 0 := rfl
      rw [z] at M
      have M := Lib.hid M
      clear ht1 e z HR
      go_enter Tryd.func35, Tryd.ntmps35
      go_wp2_with fail
      refine wp_scope_named 4 fun J hret hgo => ?_
      have R := Lib.hid hret
      have G := Lib.hid hgo
      clear hret hgo
      go_wp2_with fail
      refine (P1.out _).mono ?_
      rintro _ _ ⟨rfl, rfl⟩
      go_wp2_with fail
      refine (P2.out _).mono ?_
      rintro _ _ ⟨rfl, rfl⟩
      go_wp2_with fail
      go_step3
      refine G.out _ _ _ _ _ rfl ?_
      go_wp2_with fail
      refine (P3.out _).mono ?_
      rintro _ _ ⟨rfl, rfl⟩
      go_wp2_with fail
      refine (M.out _).mono ?_
      rintro _ w1 ⟨rfl, hw1⟩
      go_wp2_with fail
      refine R.out _ _ _ ?_
      go_ret2
      exact ⟨rfl, hw1⟩
    · have P2 := Lib.hid (fun w => has_no b 84 w hT)
      have hbody := body_noT hT
      rcases hi : item b.data.toList with _ | ⟨n, u, r⟩
      · have T := Lib.hid (fun w => item_no b w hb hi)
        have e : res = none := by rw [← HR.out, F1.out]; show body _ = _; rw [hbody, hi]; rfl
        subst e
        clear hi hbody HR hT F1
        go_enter Tryd.func35, Tryd.ntmps35
        go_wp2_with fail
        refine wp_scope_named 4 fun J hret hgo => ?_
        have R := Lib.hid hret
        have G := Lib.hid hgo
        clear hret hgo
        go_wp2_with fail
        refine (P1.out _).mono ?_
        rintro _ _ ⟨rfl, rfl⟩
        go_wp2_with fail
        refine (P2.out _).mono ?_
        rintro _ _ ⟨rfl, rfl⟩
        go_wp2_with fail
        refine (T.out _).mono ?_
        rintro _ w1 ⟨rfl, hw1⟩
        go_wp2_with fail
        go_step3
        refine G.out _ _ _ _ _ rfl ?_
        go_wp2_with fail
        refine R.out _ _ _ ?_
        go_ret2
        exact ⟨rfl, hw1⟩
      · obtain ⟨c, rfl⟩ := ba_of r
        have hn := item_lt hi
        have hc : c.size ≤ 9223372036854775807 := by have := item_len hi; rw [← size_len, ← size_len] at this; omega
        have T := Lib.hid (fun w => item_yes' b n u c w hb hi)
        have hres : res = bodyI (some (n, u, c.data.toList)) := by rw [← HR.out, F1.out]; show body _ = _; rw [hbody, hi]
        clear hi hbody HR hT F1
        by_cases hu : u = 87
        · subst hu
          by_cases hr : c.data.toList = []
          · have p1 : c.toList.isEmpty = true := by rw [Lib.toList_data, hr]; rfl
            have p2 : c.toList = [] := by rw [Lib.toList_data, hr]
            have e : res = some (n * 604800) := by rw [hres]; simp [bodyI, hr]
            subst e
            have D := fun w => longer_sat 0 n 604800 w (by omega) (by omega)
            have z : ((sat 0 : Nat) : Int) = 0 := rfl
            have z2 : 0 + n * 604800 = n * 604800 := by omega
            rw [z, z2] at D
            have D := Lib.hid D
            clear hres hr z z2
            go_enter Tryd.func35, Tryd.ntmps35
            go_wp2_with fail
            refine wp_scope_named 4 fun J hret hgo => ?_
            have R := Lib.hid hret
            have G := Lib.hid hgo
            clear hret hgo
            go_wp2_with fail
            refine (P1.out _).mono ?_
            rintro _ _ ⟨rfl, rfl⟩
            go_wp2_with fail
            refine (P2.out _).mono ?_
            rintro _ _ ⟨rfl, rfl⟩
            go_wp2_with fail
            refine (T.out _).mono ?_
            rintro _ w1 ⟨rfl, hw1⟩
            go_wp2_with fail
            go_step3
            refine G.out _ _ _ _ _ rfl ?_
            go_wp2_with fail
            refine (D.out _).mono ?_
            rintro _ _ ⟨rfl, rfl⟩
            go_wp2_with fail
            refine R.out _ _ _ ?_
            go_ret2
            exact ⟨rfl, hw1⟩
          · have p1 : c.toList.isEmpty = false := by rw [Lib.toList_data, List.isEmpty_eq_false_iff]; exact hr
            have p2 : ¬ c.toList = [] := by rw [Lib.toList_data]; exact hr
            have e : res = none := by rw [hres]; simp [bodyI, hr]
            subst e
            clear hres hr
            go_enter Tryd.func35, Tryd.ntmps35
            go_wp2_with fail
            refine wp_scope_named 4 fun J hret hgo => ?_
            have R := Lib.hid hret
            have G := Lib.hid hgo
            clear hret hgo
            go_wp2_with fail
            refine (P1.out _).mono ?_
            rintro _ _ ⟨rfl, rfl⟩
            go_wp2_with fail
            refine (P2.out _).mono ?_
            rintro _ _ ⟨rfl, rfl⟩
            go_wp2_with fail
            refine (T.out _).mono ?_
            rintro _ w1 ⟨rfl, hw1⟩
            go_wp2_with fail
            go_step3
            refine G.out _ _ _ _ _ rfl ?_
            go_wp2_with fail
            go_step3
            refine G.out _ _ _ _ _ rfl ?_
            go_wp2_with fail
            refine R.out _ _ _ ?_
            go_ret2
            exact ⟨rfl, hw1⟩
        · have q1 : ((u.toNat : Int) == 87) = false := ueq u 87 hu
          have q2 : ¬ ((u.toNat : Int) = 87) := une' u 87 hu
          by_cases hv : u = 68
          · subst hv
            have D := fun w => longer_sat 0 n 86400 w (by omega) (by omega)
            have z : ((sat 0 : Nat) : Int) = 0 := rfl
            have z2 : 0 + n * 86400 = n * 86400 := by omega
            rw [z, z2] at D
            have D := Lib.hid D
            clear z z2 q1 q2 hu
            by_cases hr : c.data.toList = []
            · have p1 : c.toList.isEmpty = true := by rw [Lib.toList_data, hr]; rfl
              have p2 : c.toList = [] := by rw [Lib.toList_data, hr]
              have e : res = some (n * 86400) := by rw [hres]; simp [bodyI, hr]
              subst e
              clear hres hr
              go_enter Tryd.func35, Tryd.ntmps35
              go_wp2_with fail
              refine wp_scope_named 4 fun J hret hgo => ?_
              have R := Lib.hid hret
              have G := Lib.hid hgo
              clear hret hgo
              go_wp2_with fail
              refine (P1.out _).mono ?_
              rintro _ _ ⟨rfl, rfl⟩
              go_wp2_with fail
              refine (P2.out _).mono ?_
              rintro _ _ ⟨rfl, rfl⟩
              go_wp2_with fail
              refine (T.out _).mono ?_
              rintro _ w1 ⟨rfl, hw1⟩
              go_wp2_with fail
              go_step3
              refine G.out _ _ _ _ _ rfl ?_
              go_wp2_with fail
              refine (D.out _).mono ?_
              rintro _ _ ⟨rfl, rfl⟩
              go_wp2_with fail
              refine R.out _ _ _ ?_
              go_ret2
              exact ⟨rfl, hw1⟩
            · have p1 : c.toList.isEmpty = false := by rw [Lib.toList_data, List.isEmpty_eq_false_iff]; exact hr
              have p2 : ¬ c.toList = [] := by rw [Lib.toList_data]; exact hr
              by_cases hT2 : ∃ t, c.data.toList = 84 :: t
              · obtain ⟨t2, ht2⟩ := hT2
                obtain ⟨d, rfl⟩ := ba_of t2
                have hd : d.size ≤ 9223372036854775807 := by have := congrArg List.length ht2; rw [← size_len, List.length_cons, ← size_len] at this; omega
                have P3 := Lib.hid (fun w => cut_yes c d 84 w ht2)
                have M := fun w => clock_any (n * 86400) d w hd
                have e : res = clock (n * 86400) (item d.data.toList) := by rw [hres, ht2]; exact days_T _ _
                rw [← e] at M
                have M := Lib.hid M
                clear ht2 e hres hr
                go_enter Tryd.func35, Tryd.ntmps35
                go_wp2_with fail
                refine wp_scope_named 4 fun J hret hgo => ?_
                have R := Lib.hid hret
                have G := Lib.hid hgo
                clear hret hgo
                go_wp2_with fail
                refine (P1.out _).mono ?_
                rintro _ _ ⟨rfl, rfl⟩
                go_wp2_with fail
                refine (P2.out _).mono ?_
                rintro _ _ ⟨rfl, rfl⟩
                go_wp2_with fail
                refine (T.out _).mono ?_
                rintro _ w1 ⟨rfl, hw1⟩
                go_wp2_with fail
                go_step3
                refine G.out _ _ _ _ _ rfl ?_
                go_wp2_with fail
                refine (D.out _).mono ?_
                rintro _ _ ⟨rfl, rfl⟩
                go_wp2_with fail
                go_step3
                go_wp2_with fail
                refine (P3.out _).mono ?_
                rintro _ _ ⟨rfl, rfl⟩
                go_wp2_with fail
                refine (M.out _).mono ?_
                rintro _ w2 ⟨rfl, hw2⟩
                go_wp2_with fail
                refine R.out _ _ _ ?_
                go_ret2
                exact ⟨rfl, Grw.trans hw1 hw2⟩
              · have P3 := Lib.hid (fun w => cut_no c 84 w hT2)
                have e : res = none := by rw [hres]; exact days_noT hr hT2
                subst e
                clear hres hr hT2
                go_enter Tryd.func35, Tryd.ntmps35
                go_wp2_with fail
                refine wp_scope_named 4 fun J hret hgo => ?_
                have R := Lib.hid hret
                have G := Lib.hid hgo
                clear hret hgo
                go_wp2_with fail
                refine (P1.out _).mono ?_
                rintro _ _ ⟨rfl, rfl⟩
                go_wp2_with fail
                refine (P2.out _).mono ?_
                rintro _ _ ⟨rfl, rfl⟩
                go_wp2_with fail
                refine (T.out _).mono ?_
                rintro _ w1 ⟨rfl, hw1⟩
                go_wp2_with fail
                go_step3
                refine G.out _ _ _ _ _ rfl ?_
                go_wp2_with fail
                refine (D.out _).mono ?_
                rintro _ _ ⟨rfl, rfl⟩
                go_wp2_with fail
                go_step3
                go_wp2_with fail
                refine (P3.out _).mono ?_
                rintro _ _ ⟨rfl, rfl⟩
                go_wp2_with fail
                go_step3
                refine G.out _ _ _ _ _ rfl ?_
                go_wp2_with fail
                refine R.out _ _ _ ?_
                go_ret2
                exact ⟨rfl, hw1⟩
          · have q3 : ((u.toNat : Int) == 68) = false := ueq u 68 hv
            have q4 : ¬ ((u.toNat : Int) = 68) := une' u 68 hv
            have e : res = none := by rw [hres]; simp [bodyI, hu, hv]
            subst e
            clear hres hu hv
            go_enter Tryd.func35, Tryd.ntmps35
            go_wp2_with fail
            refine wp_scope_named 4 fun J hret hgo => ?_
            have R := Lib.hid hret
            have G := Lib.hid hgo
            clear hret hgo
            go_wp2_with fail
            refine (P1.out _).mono ?_
            rintro _ _ ⟨rfl, rfl⟩
            go_wp2_with fail
            refine (P2.out _).mono ?_
            rintro _ _ ⟨rfl, rfl⟩
            go_wp2_with fail
            refine (T.out _).mono ?_
            rintro _ w1 ⟨rfl, hw1⟩
            go_wp2_with fail
            go_step3
            refine G.out _ _ _ _ _ rfl ?_
            go_wp2_with fail
            refine R.out _ _ _ ?_
            go_ret2
            exact ⟨rfl, hw1⟩
  · have P1 := Lib.hid (fun w => cut_no s 80 w hP)
    have e : res = none := by rw [← HR.out]; exact dur_noP hP
    subst e
    clear hP HR
    go_enter Tryd.func35, Tryd.ntmps35
    go_wp2_with fail
    refine wp_scope_named 4 fun J hret hgo => ?_
    have R := Lib.hid hret
    have G := Lib.hid hgo
    clear hret hgo
    go_wp2_with fail
    refine (P1.out _).mono ?_
    rintro _ _ ⟨rfl, rfl⟩
    go_wp2_with fail
    go_step3
    refine G.out _ _ _ _ _ rfl ?_
    go_wp2_with fail
    refine R.out _ _ _ ?_
    go_ret2
    exact ⟨rfl, Grw.rfl' _⟩

set_option maxHeartbeats 1000000 in
theorem isCalendar_any (s : ByteArray) (w : World) (hs : s.size ≤ 9223372036854775807) :
    Calls Tryd.prog 34 #[.string s] w fun e w' => e = .returned (.bool (cal s.data.toList)) ∧ Grw w w' := by
  by_cases hP : ∃ t, s.data.toList = 80 :: t
  · obtain ⟨t0, ht0⟩ := hP
    obtain ⟨b, rfl⟩ := ba_of t0
    have hb : b.size ≤ 9223372036854775807 := by have := congrArg List.length ht0; rw [← size_len, List.length_cons, ← size_len] at this; omega
    have P1 := Lib.hid (fun w => cut_yes s b 80 w ht0)
    rcases hi : item b.data.toList with _ | ⟨n, u, r⟩
    · have T := Lib.hid (fun w => item_no b w hb hi)
      have e : cal s.data.toList = false := by rw [ht0]; simp [cal, hi]
      rw [e]
      clear e hi ht0
      go_enter Tryd.func34, Tryd.ntmps34
      go_wp2_with fail
      refine (P1.out _).mono ?_
      rintro _ _ ⟨rfl, rfl⟩
      go_wp2_with fail
      refine (T.out _).mono ?_
      rintro _ w1 ⟨rfl, hw1⟩
      go_wp2_with fail
      go_ret
      exact ⟨rfl, hw1⟩
    · obtain ⟨c, rfl⟩ := ba_of r
      have T := Lib.hid (fun w => item_yes' b n u c w hb hi)
      have e : cal s.data.toList = (u == 89 || u == 77) := by rw [ht0]; simp [cal, hi]
      rw [e]
      clear e hi ht0
      by_cases h1 : u = 89
      · subst h1
        go_enter Tryd.func34, Tryd.ntmps34
        go_wp2_with fail
        refine (P1.out _).mono ?_
        rintro _ _ ⟨rfl, rfl⟩
        go_wp2_with fail
        refine (T.out _).mono ?_
        rintro _ w1 ⟨rfl, hw1⟩
        go_wp2_with fail
        go_ret
        exact ⟨rfl, hw1⟩
      · have q1 : ((u.toNat : Int) == 89) = false := ueq u 89 h1
        by_cases h2 : u = 77
        · subst h2
          go_enter Tryd.func34, Tryd.ntmps34
          go_wp2_with fail
          refine (P1.out _).mono ?_
          rintro _ _ ⟨rfl, rfl⟩
          go_wp2_with fail
          refine (T.out _).mono ?_
          rintro _ w1 ⟨rfl, hw1⟩
          go_wp2_with fail
          go_ret
          exact ⟨rfl, hw1⟩
        · have q2 : ((u.toNat : Int) == 77) = false := ueq u 77 h2
          have e : (u == 89 || u == 77) = false := by simp [h1, h2]
          rw [e]
          clear e h1 h2
          go_enter Tryd.func34, Tryd.ntmps34
          go_wp2_with fail
          refine (P1.out _).mono ?_
          rintro _ _ ⟨rfl, rfl⟩
          go_wp2_with fail
          refine (T.out _).mono ?_
          rintro _ w1 ⟨rfl, hw1⟩
          go_wp2_with fail
          go_ret
          exact ⟨rfl, hw1⟩
  · have P1 := Lib.hid (fun w => cut_no s 80 w hP)
    rw [cal_noP hP]
    clear hP
    rcases hi : item s.data.toList with _ | ⟨n, u, r⟩
    · have T := Lib.hid (fun w => item_no s w hs hi)
      clear hi
      go_enter Tryd.func34, Tryd.ntmps34
      go_wp2_with fail
      refine (P1.out _).mono ?_
      rintro _ _ ⟨rfl, rfl⟩
      go_wp2_with fail
      refine (T.out _).mono ?_
      rintro _ w1 ⟨rfl, hw1⟩
      go_wp2_with fail
      go_ret
      exact ⟨rfl, hw1⟩
    · obtain ⟨c, rfl⟩ := ba_of r
      have T := Lib.hid (fun w => item_yes' s n u c w hs hi)
      clear hi
      go_enter Tryd.func34, Tryd.ntmps34
      go_wp2_with fail
      refine (P1.out _).mono ?_
      rintro _ _ ⟨rfl, rfl⟩
      go_wp2_with fail
      refine (T.out _).mono ?_
      rintro _ w1 ⟨rfl, hw1⟩
      go_wp2_with fail
      go_ret
      exact ⟨rfl, hw1⟩

set_option maxHeartbeats 1000000 in
theorem parse_any (s : ByteArray) (w : World) (hs : s.size ≤ 9223372036854775807) :
    Calls Tryd.prog 20 #[.string s] w fun e w' => e = .returned (.tuple #[.int .u64 (pV s.data.toList), .int .i64 (pE s.data.toList)]) ∧ Grw w w' := by
  have C := fun w => isCalendar_any s w hs
  have M := fun w => measure_any s w hs
  rcases hc : cal s.data.toList with _ | _
  · rw [hc] at C
    have C := Lib.hid C
    rcases hd : dur s.data.toList with _ | x
    · have e1 : pV s.data.toList = 0 := by unfold pV; simp [hc, hd]
      have e2 : pE s.data.toList = 2 := by unfold pE; simp [hc, hd]
      rw [hd] at M
      have M := Lib.hid M
      rw [e1, e2]
      clear e1 e2 hc hd
      go_enter Tryd.func20, Tryd.ntmps20
      go_wp2_with fail
      refine (C.out _).mono ?_
      rintro _ w1 ⟨rfl, hw1⟩
      go_wp2_with fail
      refine (M.out _).mono ?_
      rintro _ w2 ⟨rfl, hw2⟩
      have hb : mB none = false := rfl
      go_wp2_with fail
      go_ret2
      exact ⟨rfl, Grw.trans hw1 hw2⟩
    · rw [hd] at M
      have hb : mB (some x) = true := rfl
      have hv : mV (some x) = sat x := rfl
      rw [hb, hv] at M
      have M := Lib.hid M
      by_cases hx : x ≤ top
      · have e1 : pV s.data.toList = x := by unfold pV; simp [hc, hd, hx]
        have e2 : pE s.data.toList = 0 := by unfold pE; simp [hc, hd, hx]
        have e3 : sat x = x := by unfold sat; unfold top at hx; omega
        rw [e3] at M
        rw [e1, e2]
        unfold top at hx
        clear e1 e2 e3 hc hd hb hv
        go_enter Tryd.func20, Tryd.ntmps20
        go_wp2_with fail
        refine (C.out _).mono ?_
        rintro _ w1 ⟨rfl, hw1⟩
        go_wp2_with fail
        refine (M.out _).mono ?_
        rintro _ w2 ⟨rfl, hw2⟩
        go_wp2_with fail
        go_ret2
        exact ⟨rfl, Grw.trans hw1 hw2⟩
      · have e1 : pV s.data.toList = 0 := by unfold pV; simp [hc, hd, hx]
        have e2 : pE s.data.toList = 3 := by unfold pE; simp [hc, hd, hx]
        have e3 : 1125899906842624 < sat x := by unfold sat; unfold top at hx; omega
        rw [e1, e2]
        clear e1 e2 hc hd hb hv hx
        generalize sat x = y at *
        go_enter Tryd.func20, Tryd.ntmps20
        go_wp2_with fail
        refine (C.out _).mono ?_
        rintro _ w1 ⟨rfl, hw1⟩
        go_wp2_with fail
        refine (M.out _).mono ?_
        rintro _ w2 ⟨rfl, hw2⟩
        go_wp2_with fail
        go_ret2
        exact ⟨rfl, Grw.trans hw1 hw2⟩
  · rw [hc] at C
    have C := Lib.hid C
    have e1 : pV s.data.toList = 0 := by unfold pV; simp [hc]
    have e2 : pE s.data.toList = 4 := by unfold pE; simp [hc]
    rw [e1, e2]
    clear e1 e2 hc
    go_enter Tryd.func20, Tryd.ntmps20
    go_wp2_with fail
    refine (C.out _).mono ?_
    rintro _ w1 ⟨rfl, hw1⟩
    go_wp2_with fail
    go_ret2
    exact ⟨rfl, hw1⟩
end Go.Proofs.YtcdfjheklggfhaaDoor
