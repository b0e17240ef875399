/- The law RetryRuns, walked. -/
import Derived.Test.YtfpadikoplgflaaWh
namespace Go.Proofs.Ytfpadikoplgflaa
open Go.RowKit
set_option linter.unusedSimpArgs false

set_option maxHeartbeats 4000000 in
set_option maxRecDepth 100000 in
theorem runs_walk (n s u : Int) (ao : Option Addr) (m cap : Nat) (l : List Int) (w : World) (hl : Lies w ao (ci l)) (hm : l.length = m) :
    Calls Try.prog 4 #[.int .i64 n, .agg #[.int .i64 s, .int .i64 u], .slice ao m cap] w fun e w' => e = .returned (.bool true) ∧ Grw w w' := by
  have WK := Lib.hid wakes_any
  have G0 := Lib.hid ((Grw.rfl' w).alloc (.cells #[.int .i64 s, .int .i64 u] 23))
  by_cases hb : m ≤ 100
  · have hd : decide ((m : Int) > 100) = false := by simp; omega
    obtain ⟨p, hp⟩ : ∃ p, rn n s u l = p := ⟨_, rfl⟩
    obtain ⟨a, b', o⟩ := p
    have LI := Lib.hid hl
    have R1 := Lib.hid (fun (x : World) (hx : Grw w x) => run_is n s u ao m cap l a b' o x (LI.out.later hx) hm (by omega) hp)
    have R2 := Lib.hid (fun (x : World) (hx : Grw w x) => rrun_is n s u ao m cap l a b' o x (LI.out.later hx) hm (by omega) hp)
    have T0 := Lib.hid (Two.new w (.int .i64 s) (.int .i64 u) 23)
    obtain ⟨b, hb⟩ : ∃ b, w.heap.size = b := ⟨_, rfl⟩
    have BW : Hid (b < (w.alloc (.cells #[.int .i64 s, .int .i64 u] 23)).heap.size) := (by rw [size_new]; omega : b < (w.alloc (.cells #[.int .i64 s, .int .i64 u] 23)).heap.size)
    rw [hb] at T0
    obtain ⟨z, hz⟩ : ∃ z : Int, (o : Int) = z := ⟨_, rfl⟩
    rw [hz] at R1 R2
    clear hl hp hm hz
    go_enter Try.func4, Try.ntmps4
    go_wp2_with fail
    refine (R1.out _ G0.out).mono ?_
    rintro _ w2 ⟨rfl, hw⟩
    have G2 := Lib.hid (G0.out.trans hw)
    have T2 := Lib.hid ((T0.out.later hw BW.out).later ((Grw.rfl' w2).alloc (.cells #[.int .i64 a, .int .i64 b'] 23)) (Nat.lt_of_lt_of_le BW.out (Below.size hw)))
    have N2 := Lib.hid (Two.new w2 (.int .i64 a) (.int .i64 b') 23)
    clear hw hb
    go_wp2_with fail
    have m0 := gw_cell T2.out.c0
    have m1 := gw_cell T2.out.c1
    have m2 := gw_cell N2.out.c0
    have m3 := gw_cell N2.out.c1
    refine wp_region_grown (by kernel_rfl) (by kernel_rfl) ?_
    repeat (go_big_quiet_step (first | (go_at_call 16; with_reducible exact calls_grown (R2.out _ ((G2.out.alloc _).trans (GW.h _)))) | (go_at_call 14; with_reducible exact calls_grown (WK.out _))))
    refine wpQuiet_nil ?_
    rintro _ ⟨q, rfl⟩
    have G3 := Lib.hid ((G2.out.alloc _).trans q.h)
    clear m0 m1 m2 m3
    go_wp2_with fail
    go_ret
    exact ⟨rfl, G3.out⟩
  · have hd : decide ((m : Int) > 100) = true := by simp; omega
    clear hl hm
    go_enter Try.func4, Try.ntmps4
    go_wp2_with fail
    refine (WK.out _).mono ?_
    rintro _ w2 ⟨rfl, hw⟩
    have G2 := Lib.hid (G0.out.trans hw)
    clear hw
    go_wp2_with fail
    go_ret
    exact ⟨rfl, G2.out⟩
end Go.Proofs.Ytfpadikoplgflaa
