/- LexTells, walked. -/
import Derived.Test.YtiocnagbcbhggaaDoorLa
import Derived.Test.YtiocnagbcbhggaaDoorWk
namespace Go.Proofs.YtiocnagbcbhggaaDoor
open Go.RowKit SM
set_option linter.unusedSimpArgs false
set_option linter.unusedVariables false

set_option maxHeartbeats 1000000 in
set_option maxRecDepth 100000 in
theorem rlex_long (s : ByteArray) (w : World) (hs : 60 < s.size) : Calls Tryd.prog 10 #[.string s] w (LexQ w s.data.toList) := by
  have HS : Hid (60 < s.data.toList.length) := Lib.hid (by rw [← size_len]; exact hs)
  have hs' : (60 : Int) < s.size := by omega
  go_enter Tryd.func10, Tryd.ntmps10
  go_wp2_with fail
  go_ret2
  exact lexQ_long HS.out (Grw.rfl' _)
theorem rlex_at (s : ByteArray) (y : List Sg × Nat) (n : Nat) (w : World) (h : lq s.data.toList = y) (hn : y.1.length = n) : Calls Tryd.prog 10 #[.string s] w fun e w' =>
    ∃ ao cap, e = .returned (.tuple #[.slice ao n cap, .int .i64 ((y.2 : Nat) : Int)]) ∧ w'.ownsRow w.heap.size 35 2 (.slice ao n cap) n (cz y.1) ∧ Lies w' ao (cs (y.1.map up)) ∧ Grw w w' := by
  subst hn
  by_cases h6 : s.size ≤ 60
  · exact (rlex_short s w h6).mono fun e w' g => lexQ_at g h
  · exact (rlex_long s w (by omega)).mono fun e w' g => lexQ_at g h
/-- a sign's text, if it has one. -/
def tz (z : Zs) : ByteArray := if gz z then ⟨(tx (dn z)).toArray⟩ else ⟨#[]⟩
theorem text_is (k n : Int) (q : ByteArray) (b : Bool) (w : World) (t : Mks w) (tt : Tab w) (hq : tz ⟨k, n⟩ = q) (hb : gz ⟨k, n⟩ = b) :
    Calls Tryd.prog 14 #[.agg #[.int .i64 k, .int .i64 n]] w fun e w' => e = .returned (.tuple #[.string q, .bool b]) ∧ Grw w w' := by
  subst hq
  subst hb
  rcases h : gz ⟨k, n⟩ with _ | _
  · have e : tz ⟨k, n⟩ = ⟨#[]⟩ := by unfold tz; rw [h]; rfl
    rw [e]; exact text_no k n w t h
  · obtain ⟨s, hs, hz⟩ := gz_good h
    have e : tz ⟨k, n⟩ = ⟨(tx s).toArray⟩ := by unfold tz; rw [h, if_pos rfl, hz, dn_up]
    have e1 : k = s.k := congrArg Zs.k hz
    have e2 : n = s.n := congrArg Zs.n hz
    rw [e, e1, e2]
    exact text_yes s _ w t tt hs (by simp)
theorem rtext_is (k n : Int) (q : ByteArray) (w : World) (hq : tz ⟨k, n⟩ = q) :
    Calls Tryd.prog 17 #[.agg #[.int .i64 k, .int .i64 n]] w fun e w' => e = .returned (.string q) ∧ Grw w w' := by
  subst hq
  rcases h : gz ⟨k, n⟩ with _ | _
  · have e : tz ⟨k, n⟩ = ⟨#[]⟩ := by unfold tz; rw [h]; rfl
    rw [e]; exact rtext_no k n w h
  · obtain ⟨s, hs, hz⟩ := gz_good h
    have e : tz ⟨k, n⟩ = ⟨(tx s).toArray⟩ := by unfold tz; rw [h, if_pos rfl, hz, dn_up]
    have e1 : k = s.k := congrArg Zs.k hz
    have e2 : n = s.n := congrArg Zs.n hz
    rw [e, e1, e2]
    exact rtext_yes s _ w hs (by simp)

set_option maxHeartbeats 8000000 in
set_option maxRecDepth 100000 in
theorem tells_in (s : ByteArray) (l : List Zs) (ao : Option Addr) (ca n : Nat) (w : World) (t : Mks w) (tt : Tab w) (ha : Lies w ao (cs l)) (hn : l.length = n) (hn2 : n ≤ 60) (hs : s.size ≤ 300) :
    Calls Tryd.prog 3 #[.string s, .slice ao n ca] w fun e w' => e = .returned (.bool true) ∧ Grw w w' := by
  have z1 : ¬ (300 : Int) < (s.size : Int) := by omega
  have z2 : ¬ (60 : Int) < (n : Int) := by omega
  have z3 : decide ((300 : Int) < (s.size : Int)) = false := decide_eq_false z1
  have z4 : decide ((60 : Int) < (n : Int)) = false := decide_eq_false z2
  obtain ⟨Y, hY⟩ : ∃ Y, (lq s.data.toList).1 = Y := ⟨_, rfl⟩
  obtain ⟨y2, hy2⟩ : ∃ y2, (lq s.data.toList).2 = y2 := ⟨_, rfl⟩
  have hy : lq s.data.toList = (Y, y2) := Prod.ext hY hy2
  obtain ⟨m, hm⟩ : ∃ m, Y.length = m := ⟨_, rfl⟩
  have ly := lq_len s.data.toList
  rw [hY, hm] at ly
  obtain ⟨ok, hok⟩ : ∃ ok, ok = l.all gz := ⟨_, rfl⟩
  obtain ⟨r, hr⟩ := ba_of (if ok then pr (l.map dn) else [])
  have HT := Lib.hid t
  have HTT := Lib.hid tt
  have RA := Lib.hid ha
  have HN := Lib.hid hn
  have HM := Lib.hid hm
  have L1 := Lib.hid (lex_at s (Y, y2) m w t hy hm)
  have L2 := Lib.hid (fun w => rlex_at s (Y, y2) m w hy hm)
  have P1 := Lib.hid (fun w (t : Mks w) (tt : Tab w) ha => print_is l ao ca n r ok w t tt hn (by omega) ha hok hr)
  have P2 := Lib.hid (fun w ha => rprint_is l ao ca n r ok w hn (by omega) ha hok hr)
  clear t tt ha hn hs hY hy2 hy hm hok hr
  go_enter Tryd.func3, Tryd.ntmps3
  go_wp2_with fail
  with_reducible refine L1.out.mono ?_
  rintro _ w1 ⟨a1, c1, rfl, _, l1, h1⟩
  have G1 := Lib.hid h1
  have M1 := Lib.hid l1
  clear h1 l1 L1
  go_wp2_with fail
  with_reducible refine (L2.out _).mono ?_
  rintro _ w2 ⟨a2, c2, rfl, _, l2, h2⟩
  have G2 := Lib.hid (G1.out.trans h2)
  have M2 := Lib.hid l2
  replace M1 := Lib.hid (M1.out.later h2)
  clear h2 l2 L2
  go_wp2_with fail
  with_reducible refine (P1.out _ (mks_grw G2.out HT.out) (tab_grw G2.out HTT.out) (RA.out.later G2.out)).mono ?_
  rintro _ w3 ⟨rfl, h3⟩
  have G3 := Lib.hid (G2.out.trans h3)
  replace M1 := Lib.hid (M1.out.later h3)
  replace M2 := Lib.hid (M2.out.later h3)
  clear h3 P1
  go_wp2_with fail
  with_reducible refine (P2.out _ (RA.out.later G3.out)).mono ?_
  rintro _ w4 ⟨rfl, h4⟩
  have G4 := Lib.hid (G3.out.trans h4)
  have g5 : Grw w4 (w4.alloc (.cells #[.string r, .bool ok] 30)) := (Grw.rfl' w4).alloc _
  replace M1 := Lib.hid ((M1.out.later h4).later g5)
  replace M2 := Lib.hid ((M2.out.later h4).later g5)
  have G5 := Lib.hid (G4.out.trans g5)
  have S1 := Lib.hid (signs_same a1 a2 c1 c2 m (Y.map up) (w4.alloc (.cells #[.string r, .bool ok] 30)) (by omega) (by rw [List.length_map]; exact HM.out) M1.out M2.out)
  clear h4 P2 g5
  go_wp2_with fail
  with_reducible refine S1.out.mono ?_
  rintro _ w6 ⟨rfl, h6⟩
  have T := Two.grown h6
  have c0 := T.c0
  have c1' := T.c1
  have G6 := Lib.hid (G5.out.trans h6)
  clear h6 T S1 M1 M2
  go_wp2_with fail
  go_loopw [12] (fun iv wr => ∃ k : Nat, k ≤ n ∧ iv = .int .i64 k ∧ Grw w wr) (fun iv _ => n - (intOf iv).toNat)
  case atStart => exact ⟨0, Nat.zero_le _, rfl, G6.out⟩
  case round =>
    obtain ⟨k, hk, rfl, hg⟩ := hrel
    have G := Lib.hid hg
    by_cases hk' : k < n
    · have hki : (k : Int) < (n : Int) := by omega
      have hkl : k < l.length := by rw [HN.out]; exact hk'
      obtain ⟨ab, off, rfl, c0, c1⟩ := slies_at (RA.out.later hg) hkl
      obtain ⟨z, hz⟩ : ∃ z, l[k] = z := ⟨_, rfl⟩
      rw [hz] at c0 c1
      obtain ⟨zk, zn⟩ := z
      simp only at c0 c1
      obtain ⟨gq, hgq⟩ : ∃ gq, gz ⟨zk, zn⟩ = gq := ⟨_, rfl⟩
      obtain ⟨tq, htq⟩ : ∃ tq, tz ⟨zk, zn⟩ = tq := ⟨_, rfl⟩
      have I := Lib.hid (text_is zk zn tq gq wr (mks_grw hg HT.out) (tab_grw hg HTT.out) htq hgq)
      have I15 := Lib.hid (fun w (t : Mks w) => good_is zk zn gq w t hgq)
      have I16 := Lib.hid (fun w => rgood_is zk zn gq w hgq)
      have I17 := Lib.hid (fun w => rtext_is zk zn tq w htq)
      clear hg hz hgq htq
      go_wp2_with fail
      with_reducible refine I.out.mono ?_
      rintro _ w7 ⟨rfl, h7⟩
      have G7 := Lib.hid (G.out.trans h7)
      have d0 := gw_cell (h7.cell c0)
      have d1 := gw_cell (h7.cell c1)
      have J15 := Lib.hid (fun (p : GW w7) => I15.out p.x (mks_grw p.h (mks_grw G7.out HT.out)))
      clear h7 c0 c1 I I15
      go_wp2_with fail
      refine wp_region_grown (by kernel_rfl) (by kernel_rfl) ?_
      repeat (go_big_quiet_step (first | (go_at_call 15; with_reducible exact calls_grown (J15.out _)) | (go_at_call 16; with_reducible exact calls_grown (I16.out _)) | (go_at_call 17; with_reducible exact calls_grown (I17.out _))))
      refine wpQuiet_nil ?_
      rintro _ ⟨q, rfl⟩
      have GQ := Lib.hid (G7.out.trans q.h)
      clear d0 d1
      go_wp2_with fail
      go_roundw
      case rel => exact ⟨k + 1, by omega, by go_num, GQ.out⟩
      case measure => simp [intOf]; omega
    · have hki : ¬ (k : Int) < (n : Int) := by omega
      have WK := Lib.hid (wakes_any wr (mks_grw hg HT.out) (tab_grw hg HTT.out))
      clear hg
      go_wp2_with fail
      with_reducible refine WK.out.mono ?_
      rintro _ w8 ⟨rfl, h8⟩
      go_wp2_with fail
      go_ret
      exact ⟨rfl, G.out.trans h8⟩

set_option maxHeartbeats 1000000 in
set_option maxRecDepth 100000 in
theorem tells_over (s : ByteArray) (ao : Option Addr) (ca n : Nat) (w : World) (t : Mks w) (tt : Tab w) (h : 300 < s.size ∨ 60 < n) :
    Calls Tryd.prog 3 #[.string s, .slice ao n ca] w fun e w' => e = .returned (.bool true) ∧ Grw w w' := by
  have WK := Lib.hid (wakes_any w t tt)
  by_cases h1 : 300 < s.size
  · have z1 : (300 : Int) < (s.size : Int) := by omega
    have z3 : decide ((300 : Int) < (s.size : Int)) = true := decide_eq_true z1
    clear t tt h
    go_enter Tryd.func3, Tryd.ntmps3
    go_wp2_with fail
    with_reducible refine WK.out.mono ?_
    rintro _ v8 ⟨rfl, j8⟩
    go_wp2_with fail
    go_ret
    exact ⟨rfl, j8⟩
  · have h2 := h.resolve_left h1
    have z1 : ¬ (300 : Int) < (s.size : Int) := by omega
    have z3 : decide ((300 : Int) < (s.size : Int)) = false := decide_eq_false z1
    have z2 : (60 : Int) < (n : Int) := by omega
    have z4 : decide ((60 : Int) < (n : Int)) = true := decide_eq_true z2
    clear t tt h
    go_enter Tryd.func3, Tryd.ntmps3
    go_wp2_with fail
    with_reducible refine WK.out.mono ?_
    rintro _ v8 ⟨rfl, j8⟩
    go_wp2_with fail
    go_ret
    exact ⟨rfl, j8⟩
theorem tells_walk (s : ByteArray) (l : List Zs) (ao : Option Addr) (ca n : Nat) (w : World) (t : Mks w) (tt : Tab w) (ha : Lies w ao (cs l)) (hn : l.length = n) :
    Calls Tryd.prog 3 #[.string s, .slice ao n ca] w fun e w' => e = .returned (.bool true) ∧ Grw w w' := by
  by_cases h : 300 < s.size ∨ 60 < n
  · exact tells_over s ao ca n w t tt h
  · exact tells_in s l ao ca n w t tt ha hn (by omega) (by omega)
end Go.Proofs.YtiocnagbcbhggaaDoor
