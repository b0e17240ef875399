/- What PlanInserts puts and takes: timers of numbers 0, 1, 2 and so on. Nothing of the program is named here. -/
import Derived.Test.YtjkhgpdhhnfmlaaPm
namespace Go.Proofs.Ytjkhgpdhhnfmlaa
open PM
open RG (Du sort sort_congr sort_filter sort_perm)

def nD (τ : Nat → Nat) (i : Nat) : Du := ⟨(i : Int), τ i⟩
def nL (τ : Nat → Nat) (i : Nat) : List Du := (List.range i).map (nD τ)
def nK (τ : Nat → Nat) (s N i : Nat) : List Du := (List.range i).map (fun j => nD τ ((j + s) % N))
theorem nL_len (τ : Nat → Nat) (i : Nat) : (nL τ i).length = i := by simp [nL]
theorem nK_len (τ : Nat → Nat) (s N i : Nat) : (nK τ s N i).length = i := by simp [nK]
theorem nL_succ (τ : Nat → Nat) (i : Nat) : nL τ (i + 1) = nL τ i ++ [nD τ i] := by simp [nL, List.range_succ]
theorem nK_succ (τ : Nat → Nat) (s N i : Nat) : nK τ s N (i + 1) = nK τ s N i ++ [nD τ ((i + s) % N)] := by simp [nK, List.range_succ]
theorem nL_ids {τ : Nat → Nat} {i : Nat} {z : Int} : z ∈ ids (nL τ i) ↔ ∃ j, j < i ∧ z = (j : Int) := by
  rw [mem_ids]
  constructor
  · rintro ⟨d, hd, rfl⟩
    obtain ⟨j, hj, rfl⟩ := List.mem_map.1 hd
    exact ⟨j, List.mem_range.1 hj, rfl⟩
  · rintro ⟨j, hj, rfl⟩
    exact ⟨nD τ j, List.mem_map.2 ⟨j, List.mem_range.2 hj, rfl⟩, rfl⟩
theorem nK_ids {τ : Nat → Nat} {s N i : Nat} {z : Int} : z ∈ ids (nK τ s N i) ↔ ∃ j, j < i ∧ z = (((j + s) % N : Nat) : Int) := by
  rw [mem_ids]
  constructor
  · rintro ⟨d, hd, rfl⟩
    obtain ⟨j, hj, rfl⟩ := List.mem_map.1 hd
    exact ⟨j, List.mem_range.1 hj, rfl⟩
  · rintro ⟨j, hj, rfl⟩
    exact ⟨nD τ ((j + s) % N), List.mem_map.2 ⟨j, List.mem_range.2 hj, rfl⟩, rfl⟩
theorem nL_new (τ : Nat → Nat) (i : Nat) : (nD τ i).id ∉ ids (nL τ i) := fun h => by
  obtain ⟨j, hj, e⟩ := nL_ids.1 h
  simp only [nD] at e
  omega
theorem mod_inj {s N i j : Nat} (hi : i < N) (hj : j < i) : (j + s) % N ≠ (i + s) % N := fun e => by
  have h1 : (i + s) % N = ((j + s) % N + (i - j)) % N := by rw [Nat.mod_add_mod]; congr 1; omega
  rw [← e] at h1
  have hr : (j + s) % N < N := Nat.mod_lt _ (by omega)
  generalize (j + s) % N = r at *
  rcases Nat.lt_or_ge (r + (i - j)) N with c | c
  · rw [Nat.mod_eq_of_lt c] at h1; omega
  · rw [Nat.mod_eq_sub_mod c, Nat.mod_eq_of_lt (by omega)] at h1; omega
theorem nK_new (τ : Nat → Nat) {s N i : Nat} (hi : i < N) : (nD τ ((i + s) % N)).id ∉ ids (nK τ s N i) := fun h => by
  obtain ⟨j, hj, e⟩ := nK_ids.1 h
  simp only [nD] at e
  exact mod_inj (s := s) hi hj (by omega)
theorem nL_nodup (τ : Nat → Nat) (i : Nat) : (ids (nL τ i)).Nodup := by
  induction i with
  | zero => exact List.nodup_nil
  | succ i ih =>
    rw [nL_succ, ids_app]
    refine List.nodup_append.2 ⟨ih, by simp [ids], fun x hx y hy e => ?_⟩
    obtain rfl : y = (nD τ i).id := by simpa [ids] using hy
    exact nL_new τ i (e ▸ hx)
theorem nK_nodup (τ : Nat → Nat) (s N : Nat) {i : Nat} (hi : i ≤ N) : (ids (nK τ s N i)).Nodup := by
  induction i with
  | zero => exact List.nodup_nil
  | succ i ih =>
    rw [nK_succ, ids_app]
    refine List.nodup_append.2 ⟨ih (by omega), by simp [ids], fun x hx y hy e => ?_⟩
    obtain rfl : y = (nD τ ((i + s) % N)).id := by simpa [ids] using hy
    exact nK_new τ (by omega) (e ▸ hx)
/-- all of them, begun at another place. -/
theorem nK_perm (τ : Nat → Nat) (s N : Nat) (hN : 0 < N) : (nK τ s N N).Perm (nL τ N) := by
  have hs : s % N < N := Nat.mod_lt _ hN
  have e : (List.range N).map (fun j => (j + s) % N) = (List.range N).drop (s % N) ++ (List.range N).take (s % N) := by
    refine List.ext_getElem (by simp; omega) fun j h1 h2 => ?_
    have hj : j < N := by simpa using h1
    rw [List.getElem_map, List.getElem_range, ← Nat.add_mod_mod]
    generalize s % N = r at *
    by_cases c : j < N - r
    · rw [List.getElem_append_left (by simpa using c), List.getElem_drop, List.getElem_range, Nat.mod_eq_of_lt (by omega)]; omega
    · rw [List.getElem_append_right (by simpa using c), List.getElem_take, List.getElem_range, List.length_drop, List.length_range, Nat.mod_eq_sub_mod (by omega), Nat.mod_eq_of_lt (by omega)]; omega
  have e2 : nK τ s N N = ((List.range N).map (fun j => (j + s) % N)).map (nD τ) := by simp [nK]
  rw [e2, e, nL]
  refine List.Perm.map _ ?_
  exact List.perm_append_comm.trans (by rw [List.take_append_drop])
theorem nsort_same (τ : Nat → Nat) (s N : Nat) : sort (nK τ s N N) = sort (nL τ N) := by
  rcases Nat.eq_zero_or_pos N with h | h
  · subst h; rfl
  · exact sort_congr (nK_perm τ s N h)
/-- those from i on. -/
def nM (τ : Nat → Nat) (N i : Nat) : List Du := (nL τ N).drop i
theorem nM_len (τ : Nat → Nat) (N i : Nat) : (nM τ N i).length = N - i := by simp [nM, nL_len]
theorem nM_cons (τ : Nat → Nat) {N i : Nat} (h : i < N) : nM τ N i = nD τ i :: nM τ N (i + 1) := by
  unfold nM
  rw [List.drop_eq_getElem_cons (by rw [nL_len]; exact h)]
  simp [nL]
theorem nM_nodup (τ : Nat → Nat) (N i : Nat) : (ids (nM τ N i)).Nodup := (nL_nodup τ N).sublist ((List.drop_sublist i (nL τ N)).map _)
theorem nM_del (τ : Nat → Nat) {N i : Nat} (h : i < N) : del (i : Int) (sort (nM τ N i)) = sort (nM τ N (i + 1)) := by
  unfold del
  rw [← sort_filter, nM_cons τ h, List.filter_cons_of_neg (by simp [nD])]
  congr 1
  refine List.filter_eq_self.2 fun d hd => ?_
  have hn := nM_nodup τ N i
  rw [nM_cons τ h] at hn
  have := (List.nodup_cons.1 (show ((nD τ i).id :: ids (nM τ N (i + 1))).Nodup from hn)).1
  simp only [ne_eq, decide_eq_true_eq]
  exact fun e => this (mem_ids.2 ⟨d, hd, e⟩)
theorem sort_ids {l : List Du} {z : Int} : z ∈ ids (sort l) ↔ z ∈ ids l := (ids_perm (sort_perm l)).mem_iff
end Go.Proofs.Ytjkhgpdhhnfmlaa
