/- The contracts of wheel.order and of slices.BinarySearchFunc with it, at this program. -/
import Derived.Test.YtjkhgpdhhnfmlaaDoorRj
namespace Go.Proofs.YtjkhgpdhhnfmlaaDoor
open Go.RowKit MK
open RG (Du)
set_option linter.unusedSimpArgs false

set_option maxHeartbeats 1000000 in
set_option maxRecDepth 100000 in
theorem order_w (a b : Du) (w : World) :
    Calls Tryd.prog 53 #[dv a, dv b] w fun e w' => e = .returned (.int .i64 (ord a b)) ∧ Grw w w' := by
  obtain ⟨r, hr⟩ : ∃ r, ord a b = r := ⟨_, rfl⟩
  rw [hr]
  unfold ord at hr
  obtain ⟨ai, a2⟩ := a
  obtain ⟨bi, b2⟩ := b
  simp only at hr
  unfold dv
  simp only
  obtain ⟨x, hx⟩ : ∃ x, cmp a2 b2 = x := ⟨_, rfl⟩
  obtain ⟨y, hy⟩ : ∃ y, cmp ai bi = y := ⟨_, rfl⟩
  rw [hx, hy] at hr
  have C1 := Lib.hid (fun w => cmpu_is a2 b2 x hx w)
  have C2 := Lib.hid (fun w => cmpi_is ai bi y hy w)
  have C3 := Lib.hid (fun g w => or_is x y r hr g w)
  clear hx hy hr
  go_enter Tryd.func53, Tryd.ntmps53
  go_wp2_with fail
  go_region_held3 (fun u => u.cell? ⟨w.heap.size, 0, none⟩ = some (.int .i64 ai) ∧ u.cell? ⟨w.heap.size, 1, none⟩ = some (.int .u64 a2) ∧ u.cell? ⟨w.heap.size + 1, 0, none⟩ = some (.int .i64 bi) ∧ u.cell? ⟨w.heap.size + 1, 1, none⟩ = some (.int .u64 b2)) (go_keep)
    (first | (go_at_call 71; refine (C1.out _).mono ?_; rintro _ w1 ⟨rfl, rfl⟩) | (go_at_call 72; refine (C2.out _).mono ?_; rintro _ w1 ⟨rfl, rfl⟩) | (go_at_call 70; refine (C3.out _ _ (by simp [go_sem]) (by simp [go_sem])).mono ?_; rintro _ w1 ⟨rfl, rfl⟩))
  go_wp2_with fail
  go_ret
  exact ⟨rfl, ((((Grw.rfl' _).alloc _).alloc _).drew).alloc _⟩
theorem order_wis (a b : Du) (r : Int) (h : ord a b = r) (w : World) :
    Calls Tryd.prog 53 #[dv a, dv b] w fun e w' => e = .returned (.int .i64 r) ∧ Grw w w' := by rw [← h]; exact order_w a b w
set_option maxHeartbeats 2000000 in
set_option maxRecDepth 100000 in
theorem search_w (ao : Option Addr) (cap : Nat) (l : List Du) (d : Du) (w : World) (hr : Lies w ao (cd l)) (hs : RG.Srt l) (hb : l.length ≤ 1000000) :
    Calls Tryd.prog 47 #[.slice ao l.length cap, dv d, .func (.func 53) #[] #[]] w (SearchQ d l w) := by
  obtain ⟨di, dt⟩ := d
  have S := Lib.hid hs
  have LI := Lib.hid hr
  have EX : ∀ q, ∀ h : q < l.length, RG.less l[q] ⟨di, dt⟩ = decide (ord l[q] ⟨di, dt⟩ < 0) := fun q h => (ord_neg _ _).symm
  have E := Lib.hid EX
  obtain ⟨n, hn⟩ : ∃ n, l.length = n := ⟨_, rfl⟩
  rw [hn] at hb ⊢
  have N := Lib.hid hn
  clear hs hr EX hn
  unfold dv
  simp only
  go_enter Tryd.func47, Tryd.ntmps47
  go_wp2_with fail
  go_loopw [9, 10] (fun u v wr => ∃ i j : Nat, i ≤ j ∧ j ≤ n ∧ u = .int .i64 i ∧ v = .int .i64 j ∧ Grw (w.alloc (.cells #[.int .i64 di, .int .u64 dt] 42)) wr ∧
      (∀ q (h : q < l.length), q < i → RG.less l[q] ⟨di, dt⟩ = true) ∧ (∀ q (h : q < l.length), j ≤ q → RG.less l[q] ⟨di, dt⟩ = false)) (fun u v _ => (intOf v).toNat - (intOf u).toNat)
  case atStart => exact ⟨0, n, Nat.zero_le _, Nat.le_refl _, rfl, rfl, Grw.rfl' _, fun q _ h => by omega, fun q h1 h2 => by rw [N.out] at h1; omega⟩
  case round =>
    obtain ⟨i, j, hij, hjn, rfl, rfl, hg, hlo, hhi⟩ := hrel
    have LO := Lib.hid hlo
    have HI := Lib.hid hhi
    have G := Lib.hid hg
    have K := Kp.grown hg
    have k0 := gw_cell K.t.c0
    have k1 := gw_cell K.t.c1
    clear hlo hhi hg K
    by_cases hlt : i < j
    · have hlti : (i : Int) < (j : Int) := by omega
      obtain ⟨h, hh⟩ : ∃ h, (i + j) / 2 = h := ⟨_, rfl⟩
      have hh1 : ((i : Int) + (j : Int)) / 2 = (h : Int) := by omega
      have hhn : h < n := by omega
      have hhi : i ≤ h := by omega
      have hhj : h < j := by omega
      have hhl : h < l.length := by rw [N.out]; exact hhn
      obtain ⟨b, off, rfl, c0, c1⟩ := lies_at ((LI.out.later ((Grw.rfl' _).alloc _)).later G.out) hhl
      have m0 := gw_cell c0
      have m1 := gw_cell c1
      obtain ⟨x, hx⟩ : ∃ x, l[h] = x := ⟨_, rfl⟩
      obtain ⟨r, hr⟩ : ∃ r, ord x ⟨di, dt⟩ = r := ⟨_, rfl⟩
      have hL := E.out h hhl
      rw [hx, hr] at hL
      rw [hx] at m0 m1
      have C := Lib.hid (fun w => order_wis x ⟨di, dt⟩ r hr w)
      obtain ⟨xi, xt⟩ := x
      unfold dv at C
      simp only at C m0 m1
      have HL := Lib.hid (And.intro hx hL)
      have HH := Lib.hid hh
      clear c0 c1 hx hr hL hh
      by_cases hneg : r < 0
      · have hd : decide (r < 0) = true := by simp [hneg]
        go_wp2_with fail
        refine wp_region_grown (by kernel_rfl) (by kernel_rfl) ?_
        repeat (go_big_quiet_step (first | (go_at_call 53; exact calls_grown (C.out _))))
        refine wpQuiet_nil ?_
        rintro _ ⟨q', rfl⟩
        have GQ := Lib.hid (G.out.trans q'.h)
        clear k0 k1 m0 m1
        go_wp2_with fail
        go_roundw
        case rel => exact ⟨h + 1, j, by omega, by omega, by go_num, rfl, GQ.out, fun q h1 h2 => srt_less S.out hhl (by omega : q ≤ h) (by rw [HL.out.1, HL.out.2]; exact hd), HI.out⟩
        case measure => simp [intOf]; omega
      · have hd : decide (r < 0) = false := by simp; omega
        go_wp2_with fail
        refine wp_region_grown (by kernel_rfl) (by kernel_rfl) ?_
        repeat (go_big_quiet_step (first | (go_at_call 53; exact calls_grown (C.out _))))
        refine wpQuiet_nil ?_
        rintro _ ⟨q', rfl⟩
        have GQ := Lib.hid (G.out.trans q'.h)
        clear k0 k1 m0 m1
        go_wp2_with fail
        go_roundw
        case rel => exact ⟨i, h, by omega, by omega, rfl, rfl, GQ.out, LO.out, fun q h1 h2 => srt_not S.out h1 h2 (by rw [HL.out.1, HL.out.2]; exact hd)⟩
        case measure => simp [intOf]; omega
    · have hlti : ¬ (i : Int) < (j : Int) := by omega
      obtain rfl : i = j := by omega
      by_cases hin : i < n
      · have hini : decide ((i : Int) < (n : Int)) = true := by simp; omega
        have hil : i < l.length := by rw [N.out]; exact hin
        obtain ⟨b, off, rfl, c0, c1⟩ := lies_at ((LI.out.later ((Grw.rfl' _).alloc _)).later G.out) hil
        have m0 := gw_cell c0
        have m1 := gw_cell c1
        obtain ⟨x, hx⟩ : ∃ x, l[i] = x := ⟨_, rfl⟩
        obtain ⟨r, hr⟩ : ∃ r, ord x ⟨di, dt⟩ = r := ⟨_, rfl⟩
        rw [hx] at m0 m1
        have C := Lib.hid (fun w => order_wis x ⟨di, dt⟩ r hr w)
        obtain ⟨xi, xt⟩ := x
        unfold dv at C
        simp only at C m0 m1
        clear c0 c1 hx hr
        go_wp2_with fail
        refine wp_region_grown (by kernel_rfl) (by kernel_rfl) ?_
        repeat (go_big_quiet_step (first | (go_at_call 53; exact calls_grown (C.out _))))
        refine wpQuiet_nil ?_
        rintro _ ⟨q', rfl⟩
        have GQ := Lib.hid (G.out.trans q'.h)
        clear k0 k1 m0 m1
        go_wp2_with fail
        refine bodyPost_ret (v := .tuple #[.int .i64 i, .bool (r == 0)]) (by simp [results, Tryd.results47, go_sem]) rfl ?_
        exact ⟨i, _, rfl, ⟨by rw [N.out]; exact hjn, LO.out, HI.out⟩, GQ.out.two⟩
      · have hini : decide ((i : Int) < (n : Int)) = false := by simp; omega
        go_wp2_with fail
        refine wp_region_grown (by kernel_rfl) (by kernel_rfl) ?_
        repeat (go_big_quiet_step (fail))
        refine wpQuiet_nil ?_
        rintro _ ⟨q', rfl⟩
        have GQ := Lib.hid (G.out.trans q'.h)
        clear k0 k1
        go_wp2_with fail
        refine bodyPost_ret (v := .tuple #[.int .i64 i, .bool false]) (by simp [results, Tryd.results47, go_sem]) rfl ?_
        exact ⟨i, _, rfl, ⟨by rw [N.out]; exact hjn, LO.out, HI.out⟩, GQ.out.two⟩
end Go.Proofs.YtjkhgpdhhnfmlaaDoor
