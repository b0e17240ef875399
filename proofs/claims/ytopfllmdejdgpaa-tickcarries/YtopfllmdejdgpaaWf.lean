/- The walk of TickCarries. -/
import Derived.Test.YtopfllmdejdgpaaWe
namespace Go.Proofs.Ytopfllmdejdgpaa
open Go.RowKit TM

set_option maxHeartbeats 2000000 in
set_option maxRecDepth 100000 in
theorem carries_walk (a : Int) (w : World) (ha : Wd a) :
    Calls Try.prog 7 #[.int .u64 a] w fun e w' => e = .returned (.bool true) ∧ Grw w w' := by
  by_cases hg : a = 18446744073709551615
  · have hb : (a == 18446744073709551615) = true := by simpa using hg
    clear hg ha
    go_enter Try.func7, Try.ntmps7
    go_wp2_with (go_at_call 20; refine (wakes_grw _).mono ?_; rintro _ _ ⟨rfl, hw⟩)
    go_ret
    exact ⟨rfl, hw⟩
  · have hb : (a == 18446744073709551615) = false := by simpa using hg
    have ha1 : Wd (a + 1) := ⟨by have := ha.1; omega, by have := ha.2; omega⟩
    have D1 := Lib.hid (fun w => digits_any a w ha)
    have D2 := Lib.hid (fun w => digits_any (a + 1) w ha1)
    have a0 := ha.1
    have a1 : a < 18446744073709551615 := by have := ha.2; omega
    have T1 := Lib.hid (fun w => top_any a (a + 1) w ha ha1)
    clear hg ha ha1
    go_enter Try.func7, Try.ntmps7
    go_wp2_with fail
    refine (D1.out _).mono ?_
    rintro _ _ ⟨rfl, c1, c2, rfl⟩
    go_wp2_with fail
    refine (D2.out _).mono ?_
    rintro _ _ ⟨rfl, c3, c4, rfl⟩
    go_wp2_with fail
    have hinv := tinv_start a (a + 1) w c1 c2 c3 c4
    go_loopw [5] (fun v wr => ∃ k : Nat, k ≤ 10 ∧ v = .int .i64 k ∧ Car a k ∧ TInv a (a + 1) (w.heap.size + 1 + 1 + 1 + 1) w wr) (fun v _ => 11 - (intOf v).toNat)
    case atStart => exact ⟨0, by omega, rfl, car_zero a, hinv⟩
    case round =>
      clear hinv D1 D2
      obtain ⟨k, hk, rfl, hcar, hinv⟩ := hrel
      generalize w.heap.size + 1 + 1 + 1 + 1 = B at *
      have q1 := hinv.2.1 k (by omega)
      have q2 := hinv.2.2 k (by omega)
      have i1 : (k : Int) < 11 := by omega
      by_cases hd : dig a k = 63
      · by_cases hk10 : k = 10
        · subst hk10; exact absurd hd (car_ten a ⟨a0, by omega⟩)
        · have i2 : (k : Int) < 10 := by omega
          obtain ⟨s1, s2⟩ := car_step hcar hd
          rw [hd] at q1
          rw [s2] at q2
          clear hd s2 T1
          go_wp2_with fail
          go_roundw
          case rel => exact ⟨k + 1, by omega, by go_num, s1, hinv⟩
          case measure => simp [intOf]; omega
      · obtain ⟨s1, s2⟩ := car_end hcar hd
        have s3 := car_top a0 a1 hcar hd
        have hd' : (dig a k == 63) = false := by simpa using hd
        have S2 := Lib.hid s2
        have S3 := Lib.hid s3
        clear s2 s3 hd hcar
        have hcase : (k : Int) < 10 ∨ 10 ≤ (k : Int) := by omega
        rcases hcase with i2 | i2
        all_goals
          go_wp2_with fail
          go_loopw [6] (fun v wr => ∃ i : Nat, i ≤ 11 ∧ k < i ∧ v = .int .i64 i ∧ TInv a (a + 1) B w wr) (fun v _ => 11 - (intOf v).toNat)
          case atStart => exact ⟨k + 1, by omega, by omega, by go_num, hinv⟩
          case round =>
            clear hinv q1 q2
            obtain ⟨i, hi, hki, rfl, hinv⟩ := hrel
            by_cases hlt : i < 11
            · have p1 := hinv.2.1 i hlt
              have p2 := hinv.2.2 i hlt
              have he := S2.out i hki
              rw [he] at p1
              have i1 : (i : Int) < 11 := by omega
              clear he S2 S3
              go_wp2_with fail
              go_quiet (fail)
              go_wp2_with fail
              go_roundw
              case rel => exact ⟨i + 1, by omega, by omega, by go_num, hinv.drewN _⟩
              case measure => simp [intOf]; omega
            · have p1 := gw_cell (hinv.2.1 k (by omega))
              have p2 := gw_cell (hinv.2.2 k (by omega))
              rw [s1] at p2
              have T2 := T1.out
              rw [S3.out] at T2
              have T3 := Lib.hid T2
              obtain ⟨d0, d1⟩ := dig_range a k
              have g := hinv.1
              clear T1 T2 S2 S3 hinv s1 hd'
              go_wp2_with fail
              refine wp_region_grown (by kernel_rfl) (by kernel_rfl) ?_
              repeat (go_big_quiet_step (first | (go_at_call 20; exact calls_grown (wakes_grw _)) | (go_at_call 18; exact calls_grown_same (T3.out _))))
              refine wpQuiet_nil ?_
              rintro _ ⟨q, rfl⟩
              go_wp2
              go_ret
              exact ⟨rfl, g.trans q.h⟩
end Go.Proofs.Ytopfllmdejdgpaa
