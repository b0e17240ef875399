/- The contracts of the document's Of, With, Without at this program. -/
import Derived.Test.YtlihcljjpalapaaDoorWd
namespace Go.Proofs.YtlihcljjpalapaaDoor
open Go.RowKit MK
set_option linter.unusedSimpArgs false

theorem rhas_is (m : Nat) (i : Int) (b : Bool) (w : World) (h : has m i = b) :
    Calls Tryd.prog 49 #[.int .u64 m, .int .i64 i] w fun e w' => e = .returned (.bool b) ∧ Grw w w' := by rw [← h]; exact rhas_any m i w
theorem wth_out {m : Nat} {i : Int} (h : ¬ (0 ≤ i ∧ i < 64)) : wth m i = m := if_neg h
theorem wth_has {m : Nat} {i : Int} (hm : m < 2 ^ 64) (h : has m i = true) : wth m i = m := by
  refine ext64 (wth_lt hm i) hm fun k hk => ?_
  rw [wth_bit m i k hk]
  by_cases e : i = (k : Int)
  · subst e
    rw [has_nat m k hk] at h
    simp [h]
  · simp [e]
theorem wth_add {m q : Nat} (hq : q < 64) (h : has m (q : Int) = false) : wth m (q : Int) = m + 2 ^ q := by
  rw [has_nat m q hq] at h
  rw [add_bit h]
  unfold wth
  rw [if_pos (by omega)]; rfl

set_option maxHeartbeats 1000000 in
set_option maxRecDepth 100000 in
theorem rof_any (ao : Option Addr) (n cap : Nat) (f : Nat → Int) (w : World) (hn : n ≤ 9223372036854775807) (hrow : RowF w ao n f) :
    Calls Tryd.prog 41 #[.slice ao n cap] w fun e w' => e = .returned (.int .u64 (ofL (fl n f) : Nat)) ∧ Grw w w' := by
  have R := Lib.hid hrow
  clear hrow
  go_enter Tryd.func41, Tryd.ntmps41
  go_wp2_with fail
  go_loopw [3, 4] (fun v i wr => ∃ k : Nat, k ≤ n ∧ i = .int .i64 k ∧ v = .int .u64 (ofL (fl k f) : Nat) ∧ Grw w wr) (fun _ i _ => n - (intOf i).toNat)
  case atStart => exact ⟨0, Nat.zero_le _, rfl, rfl, Grw.rfl' _⟩
  case round =>
    obtain ⟨k, hk, rfl, rfl, hg⟩ := hrel
    by_cases hk' : k < n
    · have hki : (k : Int) < (n : Int) := by omega
      obtain ⟨b, off, rfl, hc⟩ := (R.out.later hg).at (by omega : 0 < n)
      have hcx := hc k hk'
      have hl : ofL (fl k f) < 18446744073709551616 := ofL_lt _
      have hs := ofL_fl_succ k f
      obtain ⟨x, hx⟩ : ∃ x, ofL (fl k f) = x := ⟨_, rfl⟩
      obtain ⟨z, hz⟩ : ∃ z, f k = z := ⟨_, rfl⟩
      rw [hx, hz] at hs
      rw [hx] at hl ⊢
      rw [hz] at hcx
      have G := Lib.hid hg
      clear hc hx hz hg
      by_cases h0 : 0 ≤ z
      · by_cases h6 : z < 64
        · obtain ⟨q, rfl⟩ := Int.eq_ofNat_of_zero_le h0
          have hq : q < 64 := by omega
          rcases hh : has x (q : Int) with _ | _
          · have hsum := wth_lt (show x < 2 ^ 64 from hl) (q : Int)
            have hp := wrap_pow q hq
            rw [wth_add hq hh] at hs hsum
            obtain ⟨p, hpe⟩ : ∃ p, 2 ^ q = p := ⟨_, rfl⟩
            rw [hpe] at hs hsum hp
            have hsum' : x + p < 18446744073709551616 := hsum
            have A := Lib.hid (fun w => rhas_is x (q : Int) false w hh)
            have S := Lib.hid hs
            clear hs hh hsum hpe
            go_wp2_with fail
            refine (A.out _).mono ?_
            rintro _ w1 ⟨rfl, hw1⟩
            have G1 := Lib.hid (G.out.trans hw1)
            have hcx1 := hw1.cell hcx
            clear hw1
            go_wp2_with fail
            go_roundw
            case rel => exact ⟨k + 1, by omega, by go_num, by rw [S.out]; go_num, G1.out⟩
            case measure => simp [intOf]; omega
          · have A := Lib.hid (fun w => rhas_is x (q : Int) true w hh)
            rw [wth_has hl hh] at hs
            have S := Lib.hid hs
            clear hs hh
            go_wp2_with fail
            refine (A.out _).mono ?_
            rintro _ w1 ⟨rfl, hw1⟩
            have G1 := Lib.hid (G.out.trans hw1)
            clear hw1
            go_wp2_with fail
            go_roundw
            case rel => exact ⟨k + 1, by omega, by go_num, by rw [S.out], G1.out⟩
            case measure => simp [intOf]; omega
        · rw [wth_out (by omega)] at hs
          have S := Lib.hid hs
          clear hs
          go_wp2_with fail
          go_roundw
          case rel => exact ⟨k + 1, by omega, by go_num, by rw [S.out], G.out⟩
          case measure => simp [intOf]; omega
      · rw [wth_out (by omega)] at hs
        have S := Lib.hid hs
        clear hs
        go_wp2_with fail
        go_roundw
        case rel => exact ⟨k + 1, by omega, by go_num, by rw [S.out], G.out⟩
        case measure => simp [intOf]; omega
    · have hki : ¬ (k : Int) < (n : Int) := by omega
      have hke : k = n := by omega
      have G := Lib.hid hg
      clear hg
      go_wp2_with fail
      go_ret
      exact ⟨by subst hke; rfl, G.out⟩
end Go.Proofs.YtlihcljjpalapaaDoor
