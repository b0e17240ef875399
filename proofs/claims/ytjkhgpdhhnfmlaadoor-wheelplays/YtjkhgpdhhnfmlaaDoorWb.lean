/- The contracts of mask.isSlot, only, With, Without, Has at this program. -/
import Derived.Test.YtjkhgpdhhnfmlaaDoorRows
import Derived.Test.YtjkhgpdhhnfmlaaDoorMm
import Derived.Test.YtjkhgpdhhnfmlaaDoorGrow
import Derived.WalkKit
import Derived.WalkSpells
import Derived.WalkLawsBesides
import Derived.Laws.BitsAllLaws
namespace Go.Proofs.YtjkhgpdhhnfmlaaDoor
open Go.RowKit MK
set_option linter.unusedSimpArgs false

theorem isSlot_yes (n : Nat) (w : World) (h : n < 64) :
    Calls Tryd.prog 87 #[.int .i64 n] w fun e w' => e = .returned (.bool true) ∧ w = w' := by
  have hi : (n : Int) < 64 := by omega
  go_enter Tryd.func87, Tryd.ntmps87
  go_wp2
  go_ret
  exact ⟨rfl, rfl⟩
theorem isSlot_no (i : Int) (w : World) (h : ¬ (0 ≤ i ∧ i < 64)) :
    Calls Tryd.prog 87 #[.int .i64 i] w fun e w' => e = .returned (.bool false) ∧ w = w' := by
  by_cases h0 : 0 ≤ i
  · have h1 : ¬ i < 64 := fun g => h ⟨h0, g⟩
    clear h
    go_enter Tryd.func87, Tryd.ntmps87
    go_wp2
    go_ret
    exact ⟨rfl, rfl⟩
  · clear h
    go_enter Tryd.func87, Tryd.ntmps87
    go_wp2
    go_ret
    exact ⟨rfl, rfl⟩
theorem wrap_pow (n : Nat) (h : n < 64) : IntKind.u64.wrap ((2 : Int) ^ n) = ((2 ^ n : Nat) : Int) := by
  rw [IntKind.wrap_u64]
  have h1 : 2 ^ n < 18446744073709551616 := Nat.lt_of_lt_of_le (Nat.pow_lt_pow_right (by omega) h : 2 ^ n < 2 ^ 64) (by decide)
  have h2 : ((2 ^ n : Nat) : Int) = (2 : Int) ^ n := by rw [Int.natCast_pow]; rfl
  rw [← h2]
  generalize 2 ^ n = x at *
  omega
theorem only_any (i : Int) (w : World) :
    Calls Tryd.prog 92 #[.int .i64 i] w fun e w' => e = .returned (.int .u64 (onl i : Nat)) ∧ w = w' := by
  by_cases h : 0 ≤ i ∧ i < 64
  · obtain ⟨n, rfl⟩ := Int.eq_ofNat_of_zero_le h.1
    have hn : n < 64 := by omega
    have E := Lib.hid (onl_in h)
    have A := Lib.hid (fun w => isSlot_yes n w hn)
    clear h
    go_enter Tryd.func92, Tryd.ntmps92
    go_wp2_with fail
    refine (A.out _).mono ?_
    rintro _ w1 ⟨rfl, rfl⟩
    go_wp2_with fail
    go_ret
    exact ⟨by rw [E.out, wrap_pow n hn]; rfl, rfl⟩
  · have E := Lib.hid (onl_out h)
    have A := Lib.hid (fun w => isSlot_no i w h)
    clear h
    go_enter Tryd.func92, Tryd.ntmps92
    go_wp2_with fail
    refine (A.out _).mono ?_
    rintro _ w1 ⟨rfl, rfl⟩
    go_wp2_with fail
    go_ret
    exact ⟨by rw [E.out]; rfl, rfl⟩
theorem only_is (i : Int) (o : Nat) (h : onl i = o) (w : World) :
    Calls Tryd.prog 92 #[.int .i64 i] w fun e w' => e = .returned (.int .u64 (o : Nat)) ∧ w = w' := by rw [← h]; exact only_any i w
theorem with_any (m : Nat) (i : Int) (w : World) (hm : m < 18446744073709551616) :
    Calls Tryd.prog 89 #[.int .u64 m, .int .i64 i] w fun e w' => e = .returned (.int .u64 (wth m i : Nat)) ∧ w = w' := by
  have hl := onl_lt i
  have hb := u64_or_nat m (onl i) hm hl
  have hv := or_onl m i
  obtain ⟨o, ho⟩ : ∃ o, onl i = o := ⟨_, rfl⟩
  rw [ho] at hb hv
  have A := Lib.hid (fun w => only_is i o ho w)
  have B := Lib.hid hb
  have V := Lib.hid hv
  clear hb hv hl ho
  go_enter Tryd.func89, Tryd.ntmps89
  go_wp2_with fail
  refine (A.out _).mono ?_
  rintro _ w1 ⟨rfl, rfl⟩
  go_wp2_with fail
  go_ret
  exact ⟨by rw [B.out, V.out]; rfl, rfl⟩
end Go.Proofs.YtjkhgpdhhnfmlaaDoor

/- The contracts of math/bits.TrailingZeros64, mask.Next and mask.Round at this program. Premise: the library's table reads as its own text lays it. -/
namespace Go.Proofs.YtjkhgpdhhnfmlaaDoor
open Go.RowKit MK
set_option linter.unusedSimpArgs false

/-- the library's table, cell by cell. -/
def Tab (w : World) : Prop := ∀ j, j < 64 → w.cell? ⟨0, j, none⟩ = some (.int .u8 (Lib.deBruijn64tab.getD j 0 : Nat))
theorem tab_grw {w x : World} (h : Grw w x) (t : Tab w) : Tab x := fun j hj => h.cell (t j hj)

theorem tz_key (x a : Nat) (hx : x < 18446744073709551616) (hx0 : x ≠ 0) (hlow : x &&& (18446744073709551616 - x) = a) :
    IntKind.u64.wrap (bits BinOp.and IntKind.u64 (x : Int) (IntKind.u64.wrap (-(x : Int))) * 285870213051353865) / 288230376151711744 = ((a * 285870213051353865 % 18446744073709551616 / 288230376151711744 : Nat) : Int) := by
  have e1 : IntKind.u64.wrap (-(x : Int)) = ((18446744073709551616 - x : Nat) : Int) := by rw [IntKind.wrap_u64]; omega
  rw [e1, u64_and_nat x _ hx (by omega), hlow, IntKind.wrap_u64]
  omega
set_option maxHeartbeats 1000000 in
theorem tz_core (x k idx : Nat) (w : World) (hx0 : ((x : Int) == 0) = false)
    (key : IntKind.u64.wrap (bits BinOp.and IntKind.u64 (x : Int) (IntKind.u64.wrap (-(x : Int))) * 285870213051353865) / 288230376151711744 = (idx : Int))
    (hi : idx < 64) (hk : k < 64) (hcell : w.cell? ⟨0, idx, none⟩ = some (.int .u8 k)) :
    Calls Tryd.prog 91 #[.int .u64 x] w fun e w' => e = .returned (.int .i64 k) ∧ w = w' := by
  go_enter Tryd.func91, Tryd.ntmps91
  go_wp2_with (simp only [key])
  go_ret
  exact ⟨rfl, rfl⟩
theorem tz_any (x : Nat) (hx : x < 18446744073709551616) (hx0 : x ≠ 0) (w : World) (t : Tab w) :
    Calls Tryd.prog 91 #[.int .u64 x] w fun e w' => e = .returned (.int .i64 (Lib.ctz 64 x : Nat)) ∧ w = w' := by
  obtain ⟨hlow, hk⟩ := Lib.lowest_bit 64 x hx0 hx
  obtain ⟨hi, htab⟩ := Lib.deBruijn64_at _ hk
  have hcell := t _ hi
  rw [htab] at hcell
  exact tz_core x _ _ w (by simp; omega) (tz_key x _ hx hx0 hlow) hi hk hcell

theorem shr_nat (m s : Nat) : (m : Int) / (2 : Int) ^ s = ((m / 2 ^ s : Nat) : Int) := by
  rw [show (2 : Int) ^ s = ((2 ^ s : Nat) : Int) by rw [Int.natCast_pow]; rfl]
  exact (Int.natCast_ediv _ _).symm
theorem shl_nat (m s : Nat) (hm : m < 18446744073709551616) : IntKind.u64.wrap (((m / 2 ^ s : Nat) : Int) * (2 : Int) ^ s) = (rest m s : Nat) := by
  have := rest_le m s
  rw [show (2 : Int) ^ s = ((2 ^ s : Nat) : Int) by rw [Int.natCast_pow]; rfl, ← Int.natCast_mul, IntKind.wrap_u64]
  unfold rest at *
  generalize m / 2 ^ s * 2 ^ s = r at *
  omega

theorem next_way0 (m s r : Nat) (w : World) (hs : s < 64) (hr : IntKind.u64.wrap ((m : Int) / (2 : Int) ^ s * (2 : Int) ^ s) = (r : Nat)) (h0 : ((r : Int) == 0) = true) :
    Calls Tryd.prog 88 #[.int .u64 m, .int .i64 s] w fun e w' => e = .returned (.tuple #[.int .i64 0, .bool false]) ∧ w = w' := by
  go_enter Tryd.func88, Tryd.ntmps88
  go_wp2_with fail
  go_ret2
  exact ⟨rfl, rfl⟩
theorem next_way1 (m s r c : Nat) (w : World) (hs : s < 64) (hr : IntKind.u64.wrap ((m : Int) / (2 : Int) ^ s * (2 : Int) ^ s) = (r : Nat)) (h0 : ((r : Int) == 0) = false)
    (A : Hid (Calls Tryd.prog 91 #[.int .u64 (r : Nat)] w fun e w' => e = .returned (.int .i64 (c : Nat)) ∧ w = w')) :
    Calls Tryd.prog 88 #[.int .u64 m, .int .i64 s] w fun e w' => e = .returned (.tuple #[.int .i64 (c : Nat), .bool true]) ∧ w = w' := by
  go_enter Tryd.func88, Tryd.ntmps88
  go_wp2_with fail
  refine A.out.mono ?_
  rintro _ w1 ⟨rfl, rfl⟩
  go_wp2_with fail
  go_ret2
  exact ⟨rfl, rfl⟩
theorem next_way2 (m : Nat) (f : Int) (w : World) (hf : f < 0) (hm : IntKind.u64.wrap (m : Int) = (m : Int)) (h0 : ((m : Int) == 0) = true) :
    Calls Tryd.prog 88 #[.int .u64 m, .int .i64 f] w fun e w' => e = .returned (.tuple #[.int .i64 0, .bool false]) ∧ w = w' := by
  go_enter Tryd.func88, Tryd.ntmps88
  go_wp2_with fail
  go_ret2
  exact ⟨rfl, rfl⟩
theorem next_way3 (m c : Nat) (f : Int) (w : World) (hf : f < 0) (hm : IntKind.u64.wrap (m : Int) = (m : Int)) (h0 : ((m : Int) == 0) = false)
    (A : Hid (Calls Tryd.prog 91 #[.int .u64 (m : Nat)] w fun e w' => e = .returned (.int .i64 (c : Nat)) ∧ w = w')) :
    Calls Tryd.prog 88 #[.int .u64 m, .int .i64 f] w fun e w' => e = .returned (.tuple #[.int .i64 (c : Nat), .bool true]) ∧ w = w' := by
  go_enter Tryd.func88, Tryd.ntmps88
  go_wp2_with fail
  refine A.out.mono ?_
  rintro _ w1 ⟨rfl, rfl⟩
  go_wp2_with fail
  go_ret2
  exact ⟨rfl, rfl⟩
theorem next_way4 (m s : Nat) (w : World) (hs : 64 ≤ s) (hr : IntKind.u64.wrap ((m : Int) / 18446744073709551616 * 18446744073709551616) = 0) :
    Calls Tryd.prog 88 #[.int .u64 m, .int .i64 s] w fun e w' => e = .returned (.tuple #[.int .i64 0, .bool false]) ∧ w = w' := by
  go_enter Tryd.func88, Tryd.ntmps88
  go_wp2_with fail
  go_ret2
  exact ⟨rfl, rfl⟩
theorem wrap_m (m : Nat) (hm : m < 18446744073709551616) : IntKind.u64.wrap (m : Int) = (m : Int) := by rw [IntKind.wrap_u64]; omega
theorem eq0_yes {r : Nat} (h : r = 0) : ((r : Int) == 0) = true := by subst h; rfl
theorem eq0_no {r : Nat} (h : r ≠ 0) : ((r : Int) == 0) = false := by simp; omega
theorem next_any (m : Nat) (f : Int) (w : World) (hm : m < 18446744073709551616) (t : Tab w) :
    Calls Tryd.prog 88 #[.int .u64 m, .int .i64 f] w fun e w' => e = .returned (.tuple #[.int .i64 (ov (nxt m f)), .bool (nxt m f).isSome]) ∧ w = w' := by
  rcases (by omega : f < 0 ∨ (0 ≤ f ∧ f < 64) ∨ 64 ≤ f) with h2 | ⟨h2, h3⟩ | h2
  · have hs : ∀ j : Nat, f ≤ (j : Int) ↔ 0 ≤ j := fun j => by omega
    have hr : rest m 0 = m := by unfold rest; simp
    by_cases h0 : m = 0
    · rw [nxt_zero f hs (by rw [hr]; exact h0)]
      exact next_way2 m f w h2 (wrap_m m hm) (eq0_yes h0)
    · rw [nxt_ctz f hm hs (by rw [hr]; exact h0), hr]
      exact next_way3 m _ f w h2 (wrap_m m hm) (eq0_no h0) (Lib.hid (tz_any m hm h0 w t))
  · obtain ⟨s, rfl⟩ := Int.eq_ofNat_of_zero_le h2
    have hs : ∀ j : Nat, (s : Int) ≤ (j : Int) ↔ s ≤ j := fun j => by omega
    have hr : IntKind.u64.wrap ((m : Int) / (2 : Int) ^ s * (2 : Int) ^ s) = (rest m s : Nat) := by rw [shr_nat, shl_nat m s hm]
    have hl := Nat.lt_of_le_of_lt (rest_le m s) hm
    by_cases h0 : rest m s = 0
    · rw [nxt_zero s hs h0]
      exact next_way0 m s _ w (by omega) hr (eq0_yes h0)
    · rw [nxt_ctz s hm hs h0]
      exact next_way1 m s _ _ w (by omega) hr (eq0_no h0) (Lib.hid (tz_any _ hl h0 w t))
  · obtain ⟨s, rfl⟩ := Int.eq_ofNat_of_zero_le (by omega : 0 ≤ f)
    rw [nxt_none (fun j hj hf => by omega)]
    exact next_way4 m s w (by omega) (by rw [IntKind.wrap_u64]; omega)
theorem round_out (m : Nat) (f : Int) (w : World) (h : ¬ (0 ≤ f ∧ f < 64)) :
    Calls Tryd.prog 79 #[.int .u64 m, .int .i64 f] w fun e w' => e = .returned (.tuple #[.int .i64 0, .bool false]) ∧ w = w' := by
  have A := Lib.hid (isSlot_no f w h)
  clear h
  go_enter Tryd.func79, Tryd.ntmps79
  go_wp2_with fail
  refine A.out.mono ?_
  rintro _ w1 ⟨rfl, rfl⟩
  go_wp2_with fail
  go_ret2
  exact ⟨rfl, rfl⟩
theorem round_first (m f : Nat) (v : Int) (w : World) (h : f < 64) (B : Hid (Calls Tryd.prog 88 #[.int .u64 m, .int .i64 f] w fun e w' => e = .returned (.tuple #[.int .i64 v, .bool true]) ∧ w = w')) :
    Calls Tryd.prog 79 #[.int .u64 m, .int .i64 f] w fun e w' => e = .returned (.tuple #[.int .i64 v, .bool true]) ∧ w = w' := by
  have A := Lib.hid (isSlot_yes f w h)
  go_enter Tryd.func79, Tryd.ntmps79
  go_wp2_with fail
  refine A.out.mono ?_
  rintro _ w1 ⟨rfl, rfl⟩
  go_wp2_with fail
  refine B.out.mono ?_
  rintro _ w1 ⟨rfl, rfl⟩
  go_wp2_with fail
  go_ret2
  exact ⟨rfl, rfl⟩
theorem round_again (m f : Nat) (v : Int) (b : Bool) (w : World) (h : f < 64) (B : Hid (Calls Tryd.prog 88 #[.int .u64 m, .int .i64 f] w fun e w' => e = .returned (.tuple #[.int .i64 0, .bool false]) ∧ w = w'))
    (C : Hid (Calls Tryd.prog 88 #[.int .u64 m, .int .i64 0] w fun e w' => e = .returned (.tuple #[.int .i64 v, .bool b]) ∧ w = w')) :
    Calls Tryd.prog 79 #[.int .u64 m, .int .i64 f] w fun e w' => e = .returned (.tuple #[.int .i64 v, .bool b]) ∧ w = w' := by
  have A := Lib.hid (isSlot_yes f w h)
  go_enter Tryd.func79, Tryd.ntmps79
  go_wp2_with fail
  refine A.out.mono ?_
  rintro _ w1 ⟨rfl, rfl⟩
  go_wp2_with fail
  refine B.out.mono ?_
  rintro _ w1 ⟨rfl, rfl⟩
  go_wp2_with fail
  refine C.out.mono ?_
  rintro _ w1 ⟨rfl, rfl⟩
  go_wp2_with fail
  go_ret2
  exact ⟨rfl, rfl⟩
theorem round_any (m : Nat) (f : Int) (w : World) (hm : m < 18446744073709551616) (t : Tab w) :
    Calls Tryd.prog 79 #[.int .u64 m, .int .i64 f] w fun e w' => e = .returned (.tuple #[.int .i64 (ov (rnd m f)), .bool (rnd m f).isSome]) ∧ w = w' := by
  unfold rnd
  by_cases h : 0 ≤ f ∧ f < 64
  · rw [if_pos h]
    obtain ⟨n, rfl⟩ := Int.eq_ofNat_of_zero_le h.1
    have A := next_any m n w hm t
    have B := next_any m 0 w hm t
    rcases e : nxt m (n : Int) with _ | v
    · rw [e] at A
      exact round_again m n _ _ w (by omega) (Lib.hid A) (Lib.hid B)
    · rw [e] at A
      exact round_first m n v w (by omega) (Lib.hid A)
  · rw [if_neg h]
    exact round_out m f w h
end Go.Proofs.YtjkhgpdhhnfmlaaDoor
