/- The law TurnOvertakes, walked. -/
import Derived.Test.YtffoaldfklcfgaaWc
namespace Go.Proofs.Ytffoaldfklcfgaa
open Go.RowKit
set_option linter.unusedSimpArgs false

theorem les_lt {a : Int} {x y : Wt} (ha1 : 1 ≤ a) (ha2 : a ≤ 1000) (hx : gd x = true) (hy : gd y = true) (h : x.ca + a * x.cl < y.ca + a * y.cl) : les a x y = true := by
  rw [les_t, trn_of hx ha1 ha2, trn_of hy ha1 ha2]
  exact Or.inl h
set_option maxHeartbeats 2000000 in
set_option maxRecDepth 100000 in
theorem overtakes_walk (g n0 n1 t : Nat) (w : World) (hg : g < 65536) (h0 : n0 < 65536) (h1 : n1 < 65536) (ht : t < 65536) :
    Calls Try.prog 5 #[.int .u16 (g : Nat), .agg #[.int .u16 (n0 : Nat), .int .u16 (n1 : Nat)], .int .u16 (t : Nat)] w fun e w' => e = .returned (.bool true) ∧ Grw w w' := by
  have J1 := Lib.hid (fun w => job_is 1 n0 n1 w h0 h1)
  obtain ⟨c, hc⟩ : ∃ c, (n0 : Int) % 8 = c := ⟨_, rfl⟩
  rw [hc] at J1
  have hc0 : 0 ≤ c := by omega
  have hc8 : c < 8 := by omega
  obtain ⟨a, ha⟩ : ∃ a : Int, 1 + (g : Int) % 1000 = a := ⟨_, rfl⟩
  have ha1 : 1 ≤ a := by omega
  have ha2 : a ≤ 1000 := by omega
  have hm := mul_small ha1 ha2 hc0 hc8
  obtain ⟨m, hmm⟩ : ∃ m, a * c = m := ⟨_, rfl⟩
  rw [hmm] at hm
  have q1 : IntKind.i64.wrap (g : Int) = g := by simp [IntKind.wrap_i64]; omega
  have q3 : IntKind.i64.wrap (1 + (g : Int) % 1000) = a := by rw [ha]; simp [IntKind.wrap_i64]; omega
  have q4 : IntKind.i64.wrap (t : Int) = t := by simp [IntKind.wrap_i64]; omega
  have q5 : IntKind.i64.wrap (a * c) = m := by rw [hmm]; simp [IntKind.wrap_i64]; omega
  have G0 := Lib.hid ((Grw.rfl' w).alloc (.cells #[.int .u16 (n0 : Nat), .int .u16 (n1 : Nat)] 37))
  have gx : gd ⟨1, c, n1⟩ = true := gd_of hc0 hc8 (by simp) (by simp; omega)
  have hp : 0 ≤ a * ((t : Int) % 8) := Int.mul_nonneg (by omega) (by omega)
  have L1 := Lib.hid (fun w => less_is a 1 c n1 2 ((t : Int) % 8) (n1 + m + 1 + (t : Int) / 8) true w (les_lt ha1 ha2 gx (gd_of (by simp; omega) (by simp; omega) (by simp; omega) (by simp; omega)) (by simp only; omega)))
  have L2 := Lib.hid (fun w => less_is a 1 c n1 2 c (n1 + 1 + t) true w (les_lt ha1 ha2 gx (gd_of hc0 hc8 (by simp; omega) (by simp; omega)) (by simp only; omega)))
  have L3 := Lib.hid (fun (k : Nat) (hk : (k : Int) < c) w => less_is a 2 k n1 1 c n1 true w (les_lt ha1 ha2 (gd_of (by simp) (by simp; omega) (by simp) (by simp; omega)) gx (by
    simp only
    have h1 : a * (k : Int) < a * c := Int.mul_lt_mul_of_pos_left hk (by omega)
    omega)))
  have WK := Lib.hid wakes_any
  clear hc ha gx hp
  go_enter Try.func5, Try.ntmps5
  go_wp2_with fail
  refine (J1.out _).mono ?_
  rintro _ w1 ⟨rfl, hw⟩
  have G1 := Lib.hid (G0.out.trans hw)
  have BX := Lib.hid (((Bx.new w1 (.int .i64 1) (.int .i64 c) (.int .i64 (n1 : Nat)) 24).later ((Grw.rfl' _).alloc (.cells #[.int .i64 2, .int .i64 ((t : Int) % 8), .int .i64 (n1 + m + 1 + (t : Int) / 8)] 24))).later ((Grw.rfl' _).alloc (.cells #[.int .i64 2, .int .i64 c, .int .i64 (n1 + 1 + t)] 24)))
  have bz := Bx.new ((w1.alloc (.cells #[.int .i64 1, .int .i64 c, .int .i64 (n1 : Nat)] 24)).alloc (.cells #[.int .i64 2, .int .i64 ((t : Int) % 8), .int .i64 (n1 + m + 1 + (t : Int) / 8)] 24)) (.int .i64 2) (.int .i64 c) (.int .i64 (n1 + 1 + t)) 24
  rw [size_new, size_new] at bz
  have BZ := Lib.hid bz
  have G3 := Lib.hid (((G1.out.alloc (.cells #[.int .i64 1, .int .i64 c, .int .i64 (n1 : Nat)] 24)).alloc (.cells #[.int .i64 2, .int .i64 ((t : Int) % 8), .int .i64 (n1 + m + 1 + (t : Int) / 8)] 24)).alloc (.cells #[.int .i64 2, .int .i64 c, .int .i64 (n1 + 1 + t)] 24))
  clear hw bz
  go_wp2_with fail
  refine (L1.out _).mono ?_
  rintro _ w2 ⟨rfl, hw⟩
  have BX2 := Lib.hid (BX.out.later hw)
  have BZ2 := Lib.hid (BZ.out.later hw)
  have G4 := Lib.hid (G3.out.trans hw)
  have x0 := BX2.out.c0
  have x1 := BX2.out.c1
  have x2 := BX2.out.c2
  have z0 := BZ2.out.c0
  have z1 := BZ2.out.c1
  have z2 := BZ2.out.c2
  clear hw
  go_wp2_with fail
  refine (L2.out _).mono ?_
  rintro _ w3 ⟨rfl, hw⟩
  have BX3 := Lib.hid (BX2.out.later hw)
  have G5 := Lib.hid (G4.out.trans hw)
  obtain ⟨b, hb⟩ : ∃ b, w1.heap.size = b := ⟨_, rfl⟩
  rw [hb] at BX3
  clear hw x0 x1 x2 z0 z1 z2
  go_wp2_with fail
  clear hb
  go_loopw [11] (fun u wr => ∃ k : Nat, (k : Int) ≤ c ∧ u = .int .i64 k ∧ Bx wr b (.int .i64 1) (.int .i64 c) (.int .i64 (n1 : Nat)) ∧ Grw w wr) (fun u _ => 8 - (intOf u).toNat)
  case atStart => exact ⟨0, by omega, rfl, BX3.out, G5.out⟩
  case round =>
    obtain ⟨k, hk, rfl, hbx, hgr⟩ := hrel
    have x0 := hbx.c0
    have x1 := hbx.c1
    have x2 := hbx.c2
    have B := Lib.hid hbx
    have G := Lib.hid hgr
    clear hbx hgr
    by_cases hk' : (k : Int) < c
    · have L := Lib.hid (L3.out k hk')
      go_wp2_with fail
      refine (L.out _).mono ?_
      rintro _ w4 ⟨rfl, hw⟩
      have B4 := Lib.hid (B.out.later hw)
      have G6 := Lib.hid (G.out.trans hw)
      clear hw x0 x1 x2
      go_wp2_with fail
      go_roundw
      case rel => exact ⟨k + 1, by omega, by go_num, B4.out, G6.out⟩
      case measure => simp [intOf]; omega
    · have hki : decide ((k : Int) < c) = false := by simp; omega
      go_wp2_with fail
      refine (WK.out _).mono ?_
      rintro _ w4 ⟨rfl, hw⟩
      have G6 := Lib.hid (G.out.trans hw)
      clear hw x0 x1 x2
      go_wp2_with fail
      go_ret
      exact ⟨rfl, G6.out⟩
end Go.Proofs.Ytffoaldfklcfgaa
