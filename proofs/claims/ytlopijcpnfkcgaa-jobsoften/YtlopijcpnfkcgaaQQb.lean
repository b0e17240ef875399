/- container/heap at the line: up and down. -/
import Derived.Test.YtlopijcpnfkcgaaQQa
namespace Go.Proofs.Ytlopijcpnfkcgaa
namespace QQ
open Go.RowKit
set_option linter.unusedSimpArgs false

theorem meth_less (b o : Nat) : ∀ w, Sem.run Try.prog (method (Try.prog.types.size + 100) 92 (.pointer (some ⟨b, o, none⟩)) "Less") w = .ok (88, .pointer (some ⟨b, o, none⟩)) w := fun _ => by kernel_rfl
theorem meth_swap (b o : Nat) : ∀ w, Sem.run Try.prog (method (Try.prog.types.size + 100) 92 (.pointer (some ⟨b, o, none⟩)) "Swap") w = .ok (91, .pointer (some ⟨b, o, none⟩)) w := fun _ => by kernel_rfl
theorem meth_len (b o : Nat) : ∀ w, Sem.run Try.prog (method (Try.prog.types.size + 100) 92 (.pointer (some ⟨b, o, none⟩)) "Len") w = .ok (37, .pointer (some ⟨b, o, none⟩)) w := fun _ => by kernel_rfl
theorem meth_push (b o : Nat) : ∀ w, Sem.run Try.prog (method (Try.prog.types.size + 100) 92 (.pointer (some ⟨b, o, none⟩)) "Push") w = .ok (90, .pointer (some ⟨b, o, none⟩)) w := fun _ => by kernel_rfl
theorem meth_pop (b o : Nat) : ∀ w, Sem.run Try.prog (method (Try.prog.types.size + 100) 92 (.pointer (some ⟨b, o, none⟩)) "Pop") w = .ok (89, .pointer (some ⟨b, o, none⟩)) w := fun _ => by kernel_rfl

theorem less_gt (b o : Nat) (a : Int) (g cap : Nat) (l : List Wt) (i j : Nat) (t : Bool) (w : World) (h : LR b o a g cap w l) (hi : i < l.length) (hj : j < l.length) (e : les a (gt l i) (gt l j) = t) :
    Calls Try.prog 88 #[.pointer (some ⟨b, o, none⟩), .int .i64 i, .int .i64 j] w fun e w' => e = .returned (.bool t) ∧ Grw w w' := by
  rw [gt_at hi, gt_at hj] at e
  exact e ▸ line_less b o a g cap l i j w h hi hj

set_option maxHeartbeats 1000000 in
set_option maxRecDepth 100000 in
theorem up_is (b o : Nat) (a : Int) (g cap n j0 : Nat) (l : List Wt) (w : World) (h : LR b o a g cap w l) (hb : n ≤ l.length) (hsz : l.length ≤ 1000000) (hj : j0 < n) (hu : HU a l n j0) :
    Calls Try.prog 47 #[.iface 92 (.pointer (some ⟨b, o, none⟩)), .int .i64 j0] w fun e w' => e = .returned (.tuple #[]) ∧ ∃ l', LR b o a g cap w' l' ∧ Frm (fun k => k = g) w w' ∧ l'.Perm l ∧ Hp a l' n ∧ ∀ k, n ≤ k → gt l' k = gt l k := by
  have H := Lib.hid h
  have HU0 := Lib.hid hu
  have HL := Lib.hid (And.intro hb hsz)
  have mL := meth_less b o
  have mS := meth_swap b o
  have hj1 : j0 ≤ 1000000 := by omega
  clear h hu hb hsz
  go_enter Try.func47, Try.ntmps47
  go_wp2_with fail
  go_loopw [1] (fun s1 wr => ∃ (j : Nat) (m : List Wt), s1 = .int .i64 j ∧ j ≤ j0 ∧ LR b o a g cap wr m ∧ Frm (fun k => k = g) w wr ∧ m.Perm l ∧ HU a m n j ∧ ∀ k, n ≤ k → gt m k = gt l k) (fun s1 _ => (intOf s1).toNat)
  case atStart => exact ⟨j0, l, rfl, Nat.le_refl _, H.out, Frm.rfl' _ _, List.Perm.refl _, HU0.out, fun _ _ => rfl⟩
  case round =>
    obtain ⟨j, m, rfl, hjj, hm, hf, hp, hu, hk⟩ := hrel
    have M := Lib.hid hm
    have F := Lib.hid hf
    have Pm := Lib.hid (And.intro hp (And.intro hu hk))
    have hml := hp.length_eq
    have ML := Lib.hid hml
    clear hm hf hp hu hk hml
    obtain ⟨i, hi⟩ : ∃ i : Nat, (j - 1) / 2 = i := ⟨_, rfl⟩
    have HI := Lib.hid hi
    have q1 : IntKind.i64.wrap ((j : Int) - 1) = (j : Int) - 1 := by simp [IntKind.wrap_i64]; omega
    have q2 : Int.tdiv ((j : Int) - 1) 2 = (i : Int) := by
      rcases Nat.eq_zero_or_pos j with c | c
      · subst c; simp at hi; subst hi; decide
      · rw [← hi, show (j : Int) - 1 = ((j - 1 : Nat) : Int) by omega, Int.tdiv_eq_ediv_of_nonneg (by omega)]; omega
    have q3 : IntKind.i64.wrap (i : Int) = (i : Int) := by simp [IntKind.wrap_i64]; omega
    by_cases c : j = 0
    · have e1 : ((i : Int) == (j : Int)) = true := by simp; omega
      subst c
      have R := Lib.hid (And.intro M.out (And.intro F.out (And.intro Pm.out.1 (And.intro Pm.out.2.1.top Pm.out.2.2))))
      go_wp2_with fail
      go_end0
      exact ⟨rfl, m, R.out⟩
    · have e1 : ((i : Int) == (j : Int)) = false := by simp; omega
      have hjn : j < n := by omega
      have hjm : j < m.length := by rw [ML.out]; have := HL.out.1; omega
      have him : i < m.length := by omega
      obtain ⟨t, ht⟩ : ∃ t, les a (gt m j) (gt m i) = t := ⟨_, rfl⟩
      have C := Lib.hid (fun w h => less_gt b o a g cap m j i t w h hjm him ht)
      have S := Lib.hid (fun w h => line_swap b o a g cap m i j w h him hjm)
      have HT := Lib.hid ht
      have HJ := Lib.hid (And.intro hjm (And.intro him hjn))
      clear ht hjm him hjn hi
      cases t with
      | false =>
        go_wp2_with fail
        refine (C.out _ M.out).mono ?_
        rintro _ w1 ⟨rfl, hw⟩
        go_wp2_with fail
        go_end0
        exact ⟨rfl, m, M.out.keep (hw.frm (fun _ => False)) (fun e => e) (fun e => e), F.out.grw' hw, Pm.out.1, Pm.out.2.1.done (by rw [HI.out]; exact HT.out), Pm.out.2.2⟩
      | true =>
        go_wp2_with fail
        refine (C.out _ M.out).mono ?_
        rintro _ w1 ⟨rfl, hw⟩
        have M1 := Lib.hid (M.out.keep (hw.frm (fun _ => False)) (fun e => e) (fun e => e))
        have F1 := Lib.hid (F.out.grw' hw)
        clear hw
        go_wp2_with fail
        refine (S.out _ M1.out).mono ?_
        rintro _ w2 ⟨rfl, h1, h2⟩
        have M2 := Lib.hid h1
        have F2 := Lib.hid (F1.out.trans h2 (fun _ e => Or.inl e))
        clear h1 h2
        go_wp2_with fail
        have hi := HI.out
        refine ⟨⟨i, swp m i j, rfl, by omega, M2.out, F2.out, (swp_perm HJ.out.2.1 HJ.out.1).trans Pm.out.1, Pm.out.2.1.up HJ.out.1 (by omega) hi HJ.out.2.2 HT.out, fun k hk => ?_⟩, by simp [intOf]; omega⟩
        rw [swp_gt HJ.out.2.1 HJ.out.1, if_neg (by have := HJ.out.2.2; omega), if_neg (by have := HJ.out.2.2; omega)]
        exact Pm.out.2.2 k hk

set_option maxHeartbeats 2000000 in
set_option maxRecDepth 100000 in
theorem down_is (b o : Nat) (a : Int) (g cap n i0 : Nat) (l : List Wt) (w : World) (h : LR b o a g cap w l) (hb : n ≤ l.length) (hsz : l.length ≤ 1000000) (hi0 : i0 ≤ n) (hd : HD a l n i0 i0) :
    Calls Try.prog 48 #[.iface 92 (.pointer (some ⟨b, o, none⟩)), .int .i64 i0, .int .i64 n] w fun e w' => ∃ t, e = .returned (.bool t) ∧ ∃ l', LR b o a g cap w' l' ∧ Frm (fun k => k = g) w w' ∧ l'.Perm l ∧ (t = true → Hp a l' n) ∧ (t = false → HU a l' n i0) ∧ ∀ k, n ≤ k → gt l' k = gt l k := by
  have H := Lib.hid h
  have HD0 := Lib.hid hd
  have HL := Lib.hid (And.intro hb hsz)
  have mL := meth_less b o
  have mS := meth_swap b o
  have hn1 : n ≤ 1000000 := by omega
  clear h hd hb hsz
  go_enter Try.func48, Try.ntmps48
  go_wp2_with fail
  go_loopw [7] (fun s7 wr => ∃ (i : Nat) (m : List Wt), s7 = .int .i64 i ∧ i0 ≤ i ∧ i ≤ n ∧ LR b o a g cap wr m ∧ Frm (fun k => k = g) w wr ∧ m.Perm l ∧ HD a m n i0 i ∧ ∀ k, n ≤ k → gt m k = gt l k) (fun s7 _ => n - (intOf s7).toNat)
  case atStart => exact ⟨i0, l, rfl, Nat.le_refl _, hi0, H.out, Frm.rfl' _ _, List.Perm.refl _, HD0.out, fun _ _ => rfl⟩
  case round =>
    obtain ⟨i, m, rfl, hii, hin, hm, hf, hp, hd, hk⟩ := hrel
    have M := Lib.hid hm
    have F := Lib.hid hf
    have Pm := Lib.hid (And.intro hp (And.intro hd hk))
    have hml := hp.length_eq
    have ML := Lib.hid hml
    clear hm hf hp hd hk hml
    have q1 : IntKind.i64.wrap (2 * (i : Int)) = 2 * (i : Int) := by simp [IntKind.wrap_i64]; omega
    have q2 : IntKind.i64.wrap (2 * (i : Int) + 1) = ((2 * i + 1 : Nat) : Int) := by simp [IntKind.wrap_i64]; omega
    have q3 : IntKind.i64.wrap (((2 * i + 1 : Nat) : Int) + 1) = ((2 * i + 2 : Nat) : Int) := by simp [IntKind.wrap_i64]; omega
    obtain ⟨j1, hj1⟩ : ∃ j1, 2 * i + 1 = j1 := ⟨_, rfl⟩
    obtain ⟨j2, hj2⟩ : ∃ j2, 2 * i + 2 = j2 := ⟨_, rfl⟩
    rw [hj1] at q2 q3
    rw [hj2] at q3
    have d2 : decide ((j1 : Int) < 0) = false := by simp
    have HI := Lib.hid (And.intro hj1 hj2)
    by_cases c1 : n ≤ j1
    · have d1 : decide (n ≤ j1) = true := by simp [c1]
      by_cases c9 : i0 < i
      · have d9 : decide (i0 < i) = true := by simp [c9]
        go_wp2_with fail
        go_ret
        exact ⟨true, rfl, m, M.out, F.out, Pm.out.1, fun _ => Pm.out.2.1.leaf (by have := HI.out.1; omega) c9, (by intro e; cases e), Pm.out.2.2⟩
      · obtain rfl : i0 = i := by omega
        have d9 : decide (i0 < i0) = false := by simp
        go_wp2_with fail
        go_ret
        exact ⟨false, rfl, m, M.out, F.out, Pm.out.1, (by intro e; cases e), fun _ => Pm.out.2.1.leaf' (by have := HI.out.1; omega), Pm.out.2.2⟩
    · have d1 : decide (n ≤ j1) = false := by simp; omega
      have q4 : IntKind.i64.wrap (j1 : Int) = j1 := by simp [IntKind.wrap_i64]; omega
      by_cases c2 : n ≤ j2
      · have d3 : decide (j2 < n) = false := by simp; omega
        have CH := Lib.hid (show Ch a m n i j1 from HI.out.1 ▸ ch_one (by have := HI.out.1; omega) (by have := HI.out.2; omega))
        obtain ⟨t, ht⟩ : ∃ t, les a (gt m j1) (gt m i) = t := ⟨_, rfl⟩
        have C := Lib.hid (fun w h => less_gt b o a g cap m j1 i t w h (by have := CH.out.lt; have := ML.out; have := HL.out.1; omega) (by have := ML.out; have := HL.out.1; omega) ht)
        have S := Lib.hid (fun w h => line_swap b o a g cap m i j1 w h (by have := ML.out; have := HL.out.1; omega) (by have := CH.out.lt; have := ML.out; have := HL.out.1; omega))
        have HT := Lib.hid ht
        clear ht
        cases t with
        | false =>
          go_wp2_with fail
          refine (C.out _ M.out).mono ?_
          rintro _ w5 ⟨rfl, hw⟩
          have M5 := Lib.hid (M.out.keep (hw.frm (fun _ => False)) (fun e => e) (fun e => e))
          have F5 := Lib.hid (F.out.grw' hw)
          clear hw
          by_cases c9 : i0 < i
          · have d9 : decide (i0 < i) = true := by simp [c9]
            go_wp2_with fail
            go_ret
            exact ⟨true, rfl, m, M5.out, F5.out, Pm.out.1, fun _ => Pm.out.2.1.done CH.out HT.out c9, (by intro e; cases e), Pm.out.2.2⟩
          · obtain rfl : i0 = i := by omega
            have d9 : decide (i0 < i0) = false := by simp
            go_wp2_with fail
            go_ret
            exact ⟨false, rfl, m, M5.out, F5.out, Pm.out.1, (by intro e; cases e), fun _ => Pm.out.2.1.done' CH.out HT.out, Pm.out.2.2⟩
        | true =>
          go_wp2_with fail
          refine (C.out _ M.out).mono ?_
          rintro _ w5 ⟨rfl, hw⟩
          have M5 := Lib.hid (M.out.keep (hw.frm (fun _ => False)) (fun e => e) (fun e => e))
          have F5 := Lib.hid (F.out.grw' hw)
          clear hw
          go_wp2_with fail
          refine (S.out _ M5.out).mono ?_
          rintro _ w6 ⟨rfl, h1, h2⟩
          have M6 := Lib.hid h1
          have F6 := Lib.hid (F5.out.trans h2 (fun _ e => Or.inl e))
          clear h1 h2
          go_wp2_with fail
          have hc := CH.out
          have hp := hc.par
          have h0 := hc.pos
          have hl := hc.lt
          have hml := ML.out
          have hnl := HL.out.1
          refine ⟨⟨j1, swp m i j1, rfl, by omega, by omega, M6.out, F6.out, (swp_perm (by omega) (by omega)).trans Pm.out.1, Pm.out.2.1.down hc (by omega) hii HT.out, fun k hk => ?_⟩, by simp [intOf]; omega⟩
          rw [swp_gt (by omega) (by omega), if_neg (by omega), if_neg (by omega)]
          exact Pm.out.2.2 k hk
      · have d3 : decide (j2 < n) = true := by simp; omega
        have C0 := Lib.hid (fun t w h e => less_gt b o a g cap m j2 j1 t w h (by have := ML.out; have := HL.out.1; omega) (by have := ML.out; have := HL.out.1; omega) e)
        have HU := Lib.hid (And.intro c1 c2)
        obtain ⟨u, hu⟩ : ∃ u, les a (gt m j2) (gt m j1) = u := ⟨_, rfl⟩
        cases u with
        | false =>
          have CH := Lib.hid (show Ch a m n i j1 from HI.out.1 ▸ ch_left (by have := HI.out.2; omega) (by rw [HI.out.1, HI.out.2]; exact hu))
          go_wp2_with fail
          refine (C0.out _ _ M.out hu).mono ?_
          rintro _ w4 ⟨rfl, hw⟩
          have M4 := Lib.hid (M.out.keep (hw.frm (fun _ => False)) (fun e => e) (fun e => e))
          have F4 := Lib.hid (F.out.grw' hw)
          clear hw hu
          obtain ⟨t, ht⟩ : ∃ t, les a (gt m j1) (gt m i) = t := ⟨_, rfl⟩
          have C := Lib.hid (fun w h => less_gt b o a g cap m j1 i t w h (by have := CH.out.lt; have := ML.out; have := HL.out.1; omega) (by have := ML.out; have := HL.out.1; omega) ht)
          have S := Lib.hid (fun w h => line_swap b o a g cap m i j1 w h (by have := ML.out; have := HL.out.1; omega) (by have := CH.out.lt; have := ML.out; have := HL.out.1; omega))
          have HT := Lib.hid ht
          clear ht
          cases t with
          | false =>
            go_wp2_with fail
            refine (C.out _ M4.out).mono ?_
            rintro _ w5 ⟨rfl, hw⟩
            have M5 := Lib.hid (M4.out.keep (hw.frm (fun _ => False)) (fun e => e) (fun e => e))
            have F5 := Lib.hid (F4.out.grw' hw)
            clear hw
            by_cases c9 : i0 < i
            · have d9 : decide (i0 < i) = true := by simp [c9]
              go_wp2_with fail
              go_ret
              exact ⟨true, rfl, m, M5.out, F5.out, Pm.out.1, fun _ => Pm.out.2.1.done CH.out HT.out c9, (by intro e; cases e), Pm.out.2.2⟩
            · obtain rfl : i0 = i := by omega
              have d9 : decide (i0 < i0) = false := by simp
              go_wp2_with fail
              go_ret
              exact ⟨false, rfl, m, M5.out, F5.out, Pm.out.1, (by intro e; cases e), fun _ => Pm.out.2.1.done' CH.out HT.out, Pm.out.2.2⟩
          | true =>
            go_wp2_with fail
            refine (C.out _ M4.out).mono ?_
            rintro _ w5 ⟨rfl, hw⟩
            have M5 := Lib.hid (M4.out.keep (hw.frm (fun _ => False)) (fun e => e) (fun e => e))
            have F5 := Lib.hid (F4.out.grw' hw)
            clear hw
            go_wp2_with fail
            refine (S.out _ M5.out).mono ?_
            rintro _ w6 ⟨rfl, h1, h2⟩
            have M6 := Lib.hid h1
            have F6 := Lib.hid (F5.out.trans h2 (fun _ e => Or.inl e))
            clear h1 h2
            go_wp2_with fail
            have hc := CH.out
            have hp := hc.par
            have h0 := hc.pos
            have hl := hc.lt
            have hml := ML.out
            have hnl := HL.out.1
            refine ⟨⟨j1, swp m i j1, rfl, by omega, by omega, M6.out, F6.out, (swp_perm (by omega) (by omega)).trans Pm.out.1, Pm.out.2.1.down hc (by omega) hii HT.out, fun k hk => ?_⟩, by simp [intOf]; omega⟩
            rw [swp_gt (by omega) (by omega), if_neg (by omega), if_neg (by omega)]
            exact Pm.out.2.2 k hk
        | true =>
          have CH := Lib.hid (show Ch a m n i j2 from HI.out.2 ▸ ch_right (by have := HI.out.2; omega) (by rw [HI.out.1, HI.out.2]; exact hu))
          go_wp2_with fail
          refine (C0.out _ _ M.out hu).mono ?_
          rintro _ w4 ⟨rfl, hw⟩
          have M4 := Lib.hid (M.out.keep (hw.frm (fun _ => False)) (fun e => e) (fun e => e))
          have F4 := Lib.hid (F.out.grw' hw)
          clear hw hu
          obtain ⟨t, ht⟩ : ∃ t, les a (gt m j2) (gt m i) = t := ⟨_, rfl⟩
          have C := Lib.hid (fun w h => less_gt b o a g cap m j2 i t w h (by have := CH.out.lt; have := ML.out; have := HL.out.1; omega) (by have := ML.out; have := HL.out.1; omega) ht)
          have S := Lib.hid (fun w h => line_swap b o a g cap m i j2 w h (by have := ML.out; have := HL.out.1; omega) (by have := CH.out.lt; have := ML.out; have := HL.out.1; omega))
          have HT := Lib.hid ht
          clear ht
          cases t with
          | false =>
            go_wp2_with fail
            refine (C.out _ M4.out).mono ?_
            rintro _ w5 ⟨rfl, hw⟩
            have M5 := Lib.hid (M4.out.keep (hw.frm (fun _ => False)) (fun e => e) (fun e => e))
            have F5 := Lib.hid (F4.out.grw' hw)
            clear hw
            by_cases c9 : i0 < i
            · have d9 : decide (i0 < i) = true := by simp [c9]
              go_wp2_with fail
              go_ret
              exact ⟨true, rfl, m, M5.out, F5.out, Pm.out.1, fun _ => Pm.out.2.1.done CH.out HT.out c9, (by intro e; cases e), Pm.out.2.2⟩
            · obtain rfl : i0 = i := by omega
              have d9 : decide (i0 < i0) = false := by simp
              go_wp2_with fail
              go_ret
              exact ⟨false, rfl, m, M5.out, F5.out, Pm.out.1, (by intro e; cases e), fun _ => Pm.out.2.1.done' CH.out HT.out, Pm.out.2.2⟩
          | true =>
            go_wp2_with fail
            refine (C.out _ M4.out).mono ?_
            rintro _ w5 ⟨rfl, hw⟩
            have M5 := Lib.hid (M4.out.keep (hw.frm (fun _ => False)) (fun e => e) (fun e => e))
            have F5 := Lib.hid (F4.out.grw' hw)
            clear hw
            go_wp2_with fail
            refine (S.out _ M5.out).mono ?_
            rintro _ w6 ⟨rfl, h1, h2⟩
            have M6 := Lib.hid h1
            have F6 := Lib.hid (F5.out.trans h2 (fun _ e => Or.inl e))
            clear h1 h2
            go_wp2_with fail
            have hc := CH.out
            have hp := hc.par
            have h0 := hc.pos
            have hl := hc.lt
            have hml := ML.out
            have hnl := HL.out.1
            refine ⟨⟨j2, swp m i j2, rfl, by omega, by omega, M6.out, F6.out, (swp_perm (by omega) (by omega)).trans Pm.out.1, Pm.out.2.1.down hc (by omega) hii HT.out, fun k hk => ?_⟩, by simp [intOf]; omega⟩
            rw [swp_gt (by omega) (by omega), if_neg (by omega), if_neg (by omega)]
            exact Pm.out.2.2 k hk
end QQ
end Go.Proofs.Ytlopijcpnfkcgaa
