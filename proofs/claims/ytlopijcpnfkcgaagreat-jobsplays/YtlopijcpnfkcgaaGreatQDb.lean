/- The contracts of the document's Ahead and First at this program. -/
import Derived.Test.YtlopijcpnfkcgaaGreatQWa
import Derived.Test.YtlopijcpnfkcgaaGreatQRw
namespace Go.Proofs.YtlopijcpnfkcgaaGreat
namespace QQ
open Go.RowKit
set_option linter.unusedSimpArgs false

set_option maxHeartbeats 2000000 in
set_option maxRecDepth 100000 in
theorem rahead_is (a : Int) (yi yc ym : Int) (ao : Option Addr) (cap : Nat) (l : List Wt) (n r : Nat) (w : World) (hl : Lies w ao (cw l)) (hb : l.length ≤ 1000000) (hn : l.length = n) (hr : ahd a ⟨yi, yc, ym⟩ l = r) :
    Calls Tryz.prog 70 #[.int .i64 a, .agg #[.int .i64 yi, .int .i64 yc, .int .i64 ym], .slice ao n cap] w fun e w' => e = .returned (.int .i64 r) ∧ Grw w w' := by
  have LI := Lib.hid hl
  rw [hn] at hb
  have HN := Lib.hid (And.intro hn hr)
  have BY := Lib.hid (Bx.new w (.int .i64 yi) (.int .i64 yc) (.int .i64 ym) 77)
  have G0 := Lib.hid ((Grw.rfl' w).alloc (.cells #[.int .i64 yi, .int .i64 yc, .int .i64 ym] 77))
  obtain ⟨w0, hw0⟩ : ∃ w0, w.alloc (.cells #[.int .i64 yi, .int .i64 yc, .int .i64 ym] 77) = w0 := ⟨_, rfl⟩
  rw [hw0] at BY G0
  obtain ⟨B, hB⟩ : ∃ B, w.heap.size = B := ⟨_, rfl⟩
  rw [hB] at BY
  clear hl hn hr
  go_enter Tryz.func70, Tryz.ntmps70
  go_wp2_with fail
  clear hw0 hB
  go_loopw [7, 8] (fun u v wr => ∃ k : Nat, k ≤ n ∧ u = .int .i64 (ahd a ⟨yi, yc, ym⟩ (l.take k) : Nat) ∧ v = .int .i64 k ∧ Grw w0 wr) (fun _ v _ => n - (intOf v).toNat)
  case atStart => exact ⟨0, Nat.zero_le _, rfl, rfl, Grw.rfl' _⟩
  case round =>
    obtain ⟨k, hk, rfl, rfl, hg⟩ := hrel
    have G := Lib.hid hg
    by_cases hk' : k < n
    · have hki : (k : Int) < (n : Int) := by omega
      have hkl : k < l.length := by rw [HN.out.1]; exact hk'
      obtain ⟨b, off, rfl, c0, c1, c2⟩ := wlies_at (LI.out.later (G0.out.trans hg)) hkl
      obtain ⟨x, hx⟩ : ∃ x, l[k] = x := ⟨_, rfl⟩
      rw [hx] at c0 c1 c2
      have bt := BY.out.later hg
      have e0 := bt.c0
      have e1 := bt.c1
      have e2 := bt.c2
      have hstep := ahd_take (a := a) (x := ⟨yi, yc, ym⟩) hkl
      obtain ⟨t, ht⟩ : ∃ t, les a x ⟨yi, yc, ym⟩ = t := ⟨_, rfl⟩
      rw [hx, ht] at hstep
      obtain ⟨m, hm⟩ : ∃ m, ahd a ⟨yi, yc, ym⟩ (l.take k) = m := ⟨_, rfl⟩
      rw [hm] at hstep ⊢
      have hmk : m ≤ 1000000 := by rw [← hm]; exact Nat.le_trans (ahd_le _ _ _) (by simp; omega)
      have ST := Lib.hid hstep
      obtain ⟨xi, xc, xm⟩ := x
      simp only at c0 c1 c2
      have C := Lib.hid (fun w => rless_is a xi xc xm yi yc ym t w ht)
      clear hx ht hg hm hstep bt
      cases t with
      | true =>
        have m0 := gw_cell c0
        have m1 := gw_cell c1
        have m2 := gw_cell c2
        have m3 := gw_cell e0
        have m4 := gw_cell e1
        have m5 := gw_cell e2
        clear c0 c1 c2 e0 e1 e2
        go_wp2_with fail
        refine wp_region_grown (by kernel_rfl) (by kernel_rfl) ?_
        repeat (go_big_quiet_step (first | (go_at_call 73; with_reducible exact calls_grown (C.out _))))
        refine wpQuiet_nil ?_
        rintro _ ⟨q, rfl⟩
        have GQ := Lib.hid (G.out.trans q.h)
        clear m0 m1 m2 m3 m4 m5
        go_wp2_with fail
        go_roundw
        case rel => exact ⟨k + 1, by omega, by rw [ST.out]; simp, by go_num, GQ.out⟩
        case measure => simp [intOf]; omega
      | false =>
        have m0 := gw_cell c0
        have m1 := gw_cell c1
        have m2 := gw_cell c2
        have m3 := gw_cell e0
        have m4 := gw_cell e1
        have m5 := gw_cell e2
        clear c0 c1 c2 e0 e1 e2
        go_wp2_with fail
        refine wp_region_grown (by kernel_rfl) (by kernel_rfl) ?_
        repeat (go_big_quiet_step (first | (go_at_call 73; with_reducible exact calls_grown (C.out _))))
        refine wpQuiet_nil ?_
        rintro _ ⟨q, rfl⟩
        have GQ := Lib.hid (G.out.trans q.h)
        clear m0 m1 m2 m3 m4 m5
        go_wp2_with fail
        go_roundw
        case rel => exact ⟨k + 1, by omega, by rw [ST.out]; rfl, by go_num, GQ.out⟩
        case measure => simp [intOf]; omega
    · have hki : ¬ (k : Int) < (n : Int) := by omega
      obtain rfl : n = k := by omega
      have e : l.take n = l := List.take_of_length_le (by rw [HN.out.1]; exact Nat.le_refl _)
      rw [e, HN.out.2]
      clear hg e
      go_wp2_with fail
      go_ret
      exact ⟨rfl, G0.out.trans G.out⟩
set_option maxHeartbeats 2000000 in
set_option maxRecDepth 100000 in
theorem rfirst_is (a : Int) (ao : Option Addr) (cap : Nat) (l : List Wt) (n : Nat) (r : Int) (w : World) (hl : Lies w ao (cw l)) (hb : l.length ≤ 1000000) (hn : l.length = n) (hr : frs a l = r) :
    Calls Tryz.prog 57 #[.int .i64 a, .slice ao n cap] w fun e w' => e = .returned (.int .i64 r) ∧ Grw w w' := by
  have LI := Lib.hid hl
  have HB := Lib.hid hb
  rw [hn] at hb
  have HN := Lib.hid (And.intro hn hr)
  clear hl hn hr
  go_enter Tryz.func57, Tryz.ntmps57
  go_wp2_with fail
  go_loopw [5] (fun u wr => ∃ k : Nat, k ≤ n ∧ u = .int .i64 k ∧ (∀ i (hi : i < l.length), i < k → ahd a l[i] l ≠ 0) ∧ Grw w wr) (fun u _ => n - (intOf u).toNat)
  case atStart => exact ⟨0, Nat.zero_le _, rfl, fun i _ h => by omega, Grw.rfl' _⟩
  case round =>
    obtain ⟨k, hk, rfl, hno, hg⟩ := hrel
    have G := Lib.hid hg
    have NO := Lib.hid hno
    by_cases hk' : k < n
    · have hki : (k : Int) < (n : Int) := by omega
      have hkl : k < l.length := by rw [HN.out.1]; exact hk'
      obtain ⟨b, off, rfl, c0, c1, c2⟩ := wlies_at (LI.out.later hg) hkl
      obtain ⟨x, hx⟩ : ∃ x, l[k] = x := ⟨_, rfl⟩
      rw [hx] at c0 c1 c2
      obtain ⟨m, hm⟩ : ∃ m, ahd a x l = m := ⟨_, rfl⟩
      have HX := Lib.hid (And.intro hx hm)
      obtain ⟨xi, xc, xm⟩ := x
      simp only at c0 c1 c2
      have C := Lib.hid (rahead_is a xi xc xm (some ⟨b, off, none⟩) cap l n m wr (LI.out.later hg) HB.out HN.out.1 hm)
      clear hx hg hm hno
      by_cases hz : m = 0
      · have hd : ((m : Int) == 0) = true := by simp [hz]
        have HZ := Lib.hid hz
        clear hz
        go_wp2_with fail
        refine C.out.mono ?_
        rintro _ w1 ⟨rfl, hw⟩
        have GQ := Lib.hid (G.out.trans hw)
        clear hw c0 c1 c2
        go_wp2_with fail
        go_ret
        refine ⟨?_, GQ.out⟩
        have hf : Fst a l k := fst_of_none hkl (by rw [HX.out.1, HX.out.2]; exact HZ.out) (fun i hi h => NO.out i hi h)
        rw [← HN.out.2, frs_of hf]
        rfl
      · have hd : ((m : Int) == 0) = false := by simp; omega
        have HZ := Lib.hid hz
        clear hz
        go_wp2_with fail
        refine C.out.mono ?_
        rintro _ w1 ⟨rfl, hw⟩
        have GQ := Lib.hid (G.out.trans hw)
        clear hw c0 c1 c2
        go_wp2_with fail
        go_roundw
        case rel => exact ⟨k + 1, by omega, by go_num, fun i hi h => (by
          rcases (by omega : i < k ∨ i = k) with e | e
          · exact NO.out i hi e
          · subst e; rw [HX.out.1, HX.out.2]; exact HZ.out), GQ.out⟩
        case measure => simp [intOf]; omega
    · have hki : ¬ (k : Int) < (n : Int) := by omega
      obtain rfl : n = k := by omega
      clear hg hno
      go_wp2_with fail
      go_ret
      refine ⟨?_, G.out⟩
      rw [← HN.out.2]
      rcases Nat.eq_zero_or_pos l.length with h0 | h0
      · have : l = [] := List.eq_nil_of_length_eq_zero h0
        subst this
        rfl
      · obtain ⟨j, _, hj⟩ := frs_spec a h0
        exact absurd hj.none (NO.out j hj.lt (by have := hj.lt; rw [HN.out.1] at this; exact this))
end QQ
end Go.Proofs.YtlopijcpnfkcgaaGreat
