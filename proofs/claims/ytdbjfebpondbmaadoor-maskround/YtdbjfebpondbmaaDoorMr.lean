/- Going round a set: one step. Nothing of the program is named here. -/
import Derived.Test.YtdbjfebpondbmaaDoorMm
namespace Go.Proofs.YtdbjfebpondbmaaDoor
namespace MK

theorem met_le (m a d : Nat) : (met m a d).length ≤ d := by
  unfold met
  exact Nat.le_trans (List.length_filter_le _ _) (by simp)
theorem some_in {m f : Nat} (hm : m < 2 ^ 64) (h : m ≠ 0) : ∃ s, s < 64 ∧ m.testBit ((f + s) % 64) = true :=
  Classical.byContradiction fun g => h ((far_none_iff hm).1 g)
/-- the elements met, as integers. -/
def metI (m a d : Nat) : List Int := (met m a d).map (fun k : Nat => (k : Int))
theorem metI_len (m a d : Nat) : (metI m a d).length = (met m a d).length := by unfold metI; simp
theorem metI_le (m a d : Nat) : (metI m a d).length ≤ d := by rw [metI_len]; exact met_le m a d
theorem metI_first {m a : Nat} (hm : m < 2 ^ 64) (h : m ≠ 0) : metI m a (far m a) = [] := by
  have := met_skip m a 0 (far m a) (fun s hs => by rw [Nat.add_zero]; exact (far_some (some_in hm h)).2.2 s hs)
  rw [Nat.zero_add] at this
  unfold metI; rw [this]; rfl
theorem metI_succ {m a d : Nat} (h : m.testBit ((a + d) % 64) = true) : metI m a (d + 1) = metI m a d ++ [(((a + d) % 64 : Nat) : Int)] := by
  unfold metI; rw [met_succ, if_pos h]; simp
theorem metI_all {m : Nat} (hm : m < 2 ^ 64) (a : Nat) : ofL (metI m a 64) = m :=
  ofL_eq hm _ fun k hk => by
    unfold metI
    rw [List.mem_map]
    constructor
    · rintro ⟨n, h1, h2⟩
      have : n = k := by omega
      subst this
      exact (mem_met m a n hk).1 h1
    · intro h
      exact ⟨k, (mem_met m a k hk).2 h, rfl⟩
theorem metI_all_len (m a : Nat) : (metI m a 64).length = (els m).length := by rw [metI_len, met_len, els_lst]

/-- from the one at distance d on: either the next one is at a distance below 64 and is not the first, or it is the first, and all have been met. -/
theorem step_round {m a d : Nat} (hm : m < 2 ^ 64) (h0 : m ≠ 0) (h1 : far m a ≤ d) (h2 : d < 64) (h3 : m.testBit ((a + d) % 64) = true) :
    (∃ d', d < d' ∧ d' < 64 ∧ m.testBit ((a + d') % 64) = true ∧ rnd m ((((a + d) % 64 + 1) % 64 : Nat) : Int) = some (((a + d') % 64 : Nat) : Int) ∧ (a + d') % 64 ≠ (a + far m a) % 64 ∧ metI m a d' = metI m a d ++ [(((a + d) % 64 : Nat) : Int)]) ∨
    (rnd m ((((a + d) % 64 + 1) % 64 : Nat) : Int) = some (((a + far m a) % 64 : Nat) : Int) ∧ metI m a 64 = metI m a d ++ [(((a + d) % 64 : Nat) : Int)]) := by
  have hf := rnd_far (m := m) (f := ((a + d) % 64 + 1) % 64) (Nat.mod_lt _ (by omega)) (some_in hm h0)
  obtain ⟨e1, e2, e3⟩ := far_some (m := m) (f := ((a + d) % 64 + 1) % 64) (some_in hm h0)
  obtain ⟨g1, g2, g3⟩ := far_some (m := m) (f := a) (some_in hm h0)
  generalize far m (((a + d) % 64 + 1) % 64) = e at *
  generalize far m a = d0 at *
  have hp : ∀ s, (((a + d) % 64 + 1) % 64 + s) % 64 = (a + (d + 1) + s) % 64 := fun s => by omega
  have hs : ∀ s, s < e → m.testBit ((a + (d + 1) + s) % 64) = false := fun s h => by rw [← hp]; exact e3 s h
  rw [hp] at hf e2
  by_cases hd : d + 1 + e < 64
  · left
    refine ⟨d + 1 + e, by omega, hd, by rw [show a + (d + 1 + e) = a + (d + 1) + e by omega]; exact e2, by rw [show a + (d + 1 + e) = a + (d + 1) + e by omega]; exact hf, by omega, ?_⟩
    rw [← metI_succ h3]
    unfold metI; rw [met_skip m a (d + 1) e hs]
  · right
    have hle : d + 1 + e ≤ 64 + d0 := by
      rcases Nat.lt_or_ge (64 + d0) (d + 1 + e) with h | h
      · have := hs (64 + d0 - (d + 1)) (by omega)
        rw [show (a + (d + 1) + (64 + d0 - (d + 1))) % 64 = (a + d0) % 64 by omega, g2] at this
        cases this
      · exact h
    have hge : 64 + d0 ≤ d + 1 + e := by
      rcases Nat.lt_or_ge (d + 1 + e) (64 + d0) with h | h
      · have := g3 (d + 1 + e - 64) (by omega)
        rw [show (a + (d + 1 + e - 64)) % 64 = (a + (d + 1) + e) % 64 by omega, e2] at this
        cases this
      · exact h
    refine ⟨by rw [hf, show (a + (d + 1) + e) % 64 = (a + d0) % 64 by omega], ?_⟩
    rw [← metI_succ h3]
    have := met_skip m a (d + 1) (63 - d) (fun s h => hs s (by omega))
    rw [show d + 1 + (63 - d) = 64 by omega] at this
    unfold metI; rw [this]
end MK
end Go.Proofs.YtdbjfebpondbmaaDoor
