/- Small whole numbers as floats, there and back; wheel.parts and the digits' facts on levels. -/
import Derived.Test.YtjkhgpdhhnfmlaaDoorTk
import Derived.Test.YtjkhgpdhhnfmlaaDoorVm
import Derived.Laws.FloatArith
import Derived.Laws.Cover3
namespace Go.Proofs.YtjkhgpdhhnfmlaaDoor
open Go.RowKit TM

theorem fl_back65 : ∀ n : Fin 65, floatToIntVal .f64 (floatOfInt .f64 ((n.val : Int) - 1)) .i64 = some ((n.val : Int) - 1) := by decide +kernel
theorem fl_eq65 : ∀ n : Fin 65, (FloatKind.f64.format.order (floatOfInt .f64 ((n.val : Int) - 1)) (floatOfInt .f64 ((n.val : Int) - 1)) == some .eq) = true := by decide +kernel
theorem fl_back (i : Int) (h : -1 ≤ i) (h' : i ≤ 63) : floatToIntVal .f64 (floatOfInt .f64 i) .i64 = some i := by
  have := fl_back65 ⟨(i + 1).toNat, by omega⟩
  simp only [show (((i + 1).toNat : Nat) : Int) - 1 = i by omega] at this
  exact this
theorem fl_eq (i : Int) (h : -1 ≤ i) (h' : i ≤ 63) : (FloatKind.f64.format.order (floatOfInt .f64 i) (floatOfInt .f64 i) == some .eq) = true := by
  have := fl_eq65 ⟨(i + 1).toNat, by omega⟩
  simp only [show (((i + 1).toNat : Nat) : Int) - 1 = i by omega] at this
  exact this
theorem run_back (i : Int) (h : -1 ≤ i) (h' : i ≤ 63) (w : World) : (convert 84 3 (.float .f64 (floatOfInt .f64 i))).run Tryd.prog w = .ok (.int .i64 i) w :=
  run_convert_float_int w 84 3 .f64 .i64 _ i (by kernel_rfl) Tryd.underlying3 (fl_back i h h')
theorem parts_any (s l : Int) (w : World) (hs : -1 ≤ s) (hs' : s ≤ 63) (hl : -1 ≤ l) (hl' : l ≤ 63) :
    Calls Tryd.prog 51 #[.complex .f64 (floatOfInt .f64 s) (floatOfInt .f64 l)] w fun e w' => e = .returned (.tuple #[.int .i64 s, .int .i64 l]) ∧ w = w' := by
  have h1 := fun w => run_back s hs hs' w
  have h2 := fun w => run_back l hl hl' w
  obtain ⟨x, hx⟩ : ∃ x, floatOfInt .f64 s = x := ⟨_, rfl⟩
  obtain ⟨y, hy⟩ : ∃ y, floatOfInt .f64 l = y := ⟨_, rfl⟩
  rw [hx] at h1 ⊢
  rw [hy] at h2 ⊢
  have H1 := Lib.hid h1
  have H2 := Lib.hid h2
  clear h1 h2 hx hy hs hs' hl hl'
  go_enter Tryd.func51, Tryd.ntmps51
  go_wp2_with (first | simp only [H1.out] | simp only [H2.out])
  go_ret2
  exact ⟨rfl, rfl⟩
/-- the level, by the highest digit that differs. -/
theorem lvl_top {now t : Nat} (hn : now < 2 ^ 64) (ht : t < 2 ^ 64) : (VM.lvl now t < 6 ∧ max (topV (t : Int) (now : Int)) 0 = (VM.lvl now t : Int)) ∨ (VM.lvl now t = 6 ∧ 6 ≤ max (topV (t : Int) (now : Int)) 0) := by
  by_cases e : t = now
  · subst e
    left
    have h0 : VM.lvl t t = 0 := by unfold VM.lvl; simp
    rw [h0, topV_self]
    exact ⟨by omega, by decide⟩
  · rw [topV_nat ht hn e]
    have a1 := top_above ht hn e
    have a2 := top_at ht hn e
    have h6 := VM.lvl_six now t
    rcases Nat.lt_or_ge (topN t now) 6 with h | h
    · left
      have b1 := (VM.lvl_le now t _ h).2 a1
      have b2 : topN t now ≤ VM.lvl now t := by
        rcases hz : topN t now with _ | m
        · omega
        · rw [hz] at a2 h
          exact (VM.lvl_not now t m (by omega)).2 a2
      have b3 : VM.lvl now t = topN t now := by omega
      rw [b3]
      exact ⟨h, by omega⟩
    · right
      have b1 : 5 < VM.lvl now t := (VM.lvl_not now t 5 (by omega)).2 (fun c => a2 (VM.agr_up c h))
      exact ⟨by omega, by omega⟩
/-- the slot of a time; -1 beyond the rings. -/
def posS (now t : Nat) : Int := if VM.lvl now t = 6 then -1 else (VM.dg t (VM.lvl now t) : Nat)
theorem posS_range (now t : Nat) : -1 ≤ posS now t ∧ posS now t ≤ 63 := by
  unfold posS
  split
  · omega
  · have := VM.dg_lt t (VM.lvl now t)
    omega
theorem dig_dg (t k : Nat) : dig (t : Int) k = ((VM.dg t k : Nat) : Int) := dig_nat t k
end Go.Proofs.YtjkhgpdhhnfmlaaDoor
