/- Which of the timers 0, 1, .. are left in a list; how many on each level; the greatest time on each. -/
import Derived.Test.YtjkhgpdhhnfmlaaDoorXt
namespace Go.Proofs.YtjkhgpdhhnfmlaaDoor
open Go.RowKit TM MK
open RG (Du La listR putB putR dropR dropO takeR hasId Srt)
open VM (RK BK lvl idsD)

def inL (L : List Du) (a : Nat → Nat) (j : Nat) : Bool := decide ((⟨(j : Int), a j⟩ : Du) ∈ L)
/-- each timer of L is one of those below n. -/
def Fr (L : List Du) (a : Nat → Nat) (n : Nat) : Prop := ∀ d ∈ L, ∃ j, j < n ∧ d = ⟨(j : Int), a j⟩
theorem inL_atO {L : List Du} {a : Nat → Nat} {n : Nat} (hn : (idsD L).Nodup) (h : Fr L a n) (j : Nat) : atO L (j : Int) = if inL L a j then some (a j) else none := by
  by_cases c : (⟨(j : Int), a j⟩ : Du) ∈ L
  · have e : inL L a j = true := decide_eq_true c
    rw [e]
    exact atO_of hn c
  · have e : inL L a j = false := decide_eq_false c
    rw [e]
    refine atO_none fun d hd q => ?_
    obtain ⟨i, hi, rfl⟩ := h d hd
    have q' : (i : Int) = (j : Int) := q
    have : i = j := by omega
    subst this
    exact c hd
theorem nodup_of_ids {L : List Du} (h : (idsD L).Nodup) : L.Nodup := by
  unfold VM.idsD at h
  unfold List.Nodup at *
  rw [List.pairwise_map] at h
  exact h.imp (fun hne e => hne (by rw [e]))
theorem inL_perm {L : List Du} {a : Nat → Nat} {n : Nat} (hn : (idsD L).Nodup) (h : Fr L a n) : L.Perm (((List.range n).filter (inL L a)).map (fun j : Nat => (⟨(j : Int), a j⟩ : Du))) := by
  refine (List.perm_ext_iff_of_nodup (nodup_of_ids hn) ?_).2 fun d => ?_
  · unfold List.Nodup
    rw [List.pairwise_map]
    refine ((List.nodup_range (n := n)).filter _).imp ?_
    intro i j hij e
    injection e with e1 _
    exact hij (by omega)
  · rw [List.mem_map]
    constructor
    · intro hd
      obtain ⟨j, hj, rfl⟩ := h d hd
      exact ⟨j, List.mem_filter.2 ⟨List.mem_range.2 hj, decide_eq_true hd⟩, rfl⟩
    · rintro ⟨j, hj, rfl⟩
      exact of_decide_eq_true (List.mem_filter.1 hj).2
def lcN (now : Nat) (L : List Du) (a : Nat → Nat) (i k : Nat) : Nat := ((List.range i).filter (fun j => inL L a j && decide (lvl now (a j) = k))).length
def leN (L : List Du) (a : Nat → Nat) (i : Nat) : Nat := ((List.range i).filter (inL L a)).length
theorem lcN_succ (now : Nat) (L : List Du) (a : Nat → Nat) (i k : Nat) : lcN now L a (i + 1) k = if inL L a i && decide (lvl now (a i) = k) then lcN now L a i k + 1 else lcN now L a i k := by
  unfold lcN
  rw [List.range_succ, List.filter_append, List.length_append, List.filter_cons]
  split <;> simp
theorem leN_succ (L : List Du) (a : Nat → Nat) (i : Nat) : leN L a (i + 1) = if inL L a i then leN L a i + 1 else leN L a i := by
  unfold leN
  rw [List.range_succ, List.filter_append, List.length_append, List.filter_cons]
  split <;> simp
theorem lcN_all {now : Nat} {L : List Du} {a : Nat → Nat} {n : Nat} (hn : (idsD L).Nodup) (h : Fr L a n) (k : Nat) : lcN now L a n k = ld now L k := by
  unfold ld lcN
  rw [((inL_perm hn h).filter _).length_eq, List.filter_map, List.length_map, List.filter_filter]
  congr 1
  apply List.filter_congr
  intro j _
  exact Bool.and_comm _ _
theorem leN_all {L : List Du} {a : Nat → Nat} {n : Nat} (hn : (idsD L).Nodup) (h : Fr L a n) : leN L a n = L.length := by
  rw [(inL_perm hn h).length_eq, List.length_map]
  rfl
theorem leN_le (L : List Du) (a : Nat → Nat) (i : Nat) : leN L a i ≤ i := by
  unfold leN
  exact Nat.le_trans (List.length_filter_le _ _) (by simp)
theorem lcN_le (now : Nat) (L : List Du) (a : Nat → Nat) (i k : Nat) : lcN now L a i k ≤ i := by
  unfold lcN
  exact Nat.le_trans (List.length_filter_le _ _) (by simp)
def mxN (now : Nat) (L : List Du) (a : Nat → Nat) : Nat → Nat → Nat
  | 0, _ => 0
  | i + 1, k => if inL L a i && decide (lvl now (a i) = k) then max (mxN now L a i k) (a i) else mxN now L a i k
theorem mxN_is (now : Nat) (L : List Du) (a : Nat → Nat) (i k : Nat) : mxN now L a i k = 0 ∨ ∃ j, j < i ∧ inL L a j = true ∧ lvl now (a j) = k ∧ mxN now L a i k = a j := by
  induction i with
  | zero => exact Or.inl rfl
  | succ i ih =>
    unfold mxN
    by_cases c : (inL L a i && decide (lvl now (a i) = k)) = true
    · rw [if_pos c]
      rw [Bool.and_eq_true, decide_eq_true_eq] at c
      rcases Nat.le_total (mxN now L a i k) (a i) with g | g
      · rw [Nat.max_eq_right g]
        exact Or.inr ⟨i, by omega, c.1, c.2, rfl⟩
      · rw [Nat.max_eq_left g]
        rcases ih with e | ⟨j, h1, h2⟩
        · exact Or.inl e
        · exact Or.inr ⟨j, by omega, h2⟩
    · rw [if_neg c]
      rcases ih with e | ⟨j, h1, h2⟩
      · exact Or.inl e
      · exact Or.inr ⟨j, by omega, h2⟩
/-- those on lower levels are due ahead. -/
theorem mx_less {now : Nat} {L : List Du} {a : Nat → Nat} {i k j : Nat} (hL : ∀ d ∈ L, now ≤ d.t) (hpos : 0 < a j) (hj : inL L a j = true) (hk : k < lvl now (a j)) : mxN now L a i k < a j := by
  have hd := hL _ (of_decide_eq_true hj)
  simp only at hd
  rcases mxN_is now L a i k with e | ⟨j2, _, _, h3, h4⟩
  · omega
  · rw [h4]
    exact VM.lvl_less hd (by omega)
/-- seven numbers. -/
def a7 (g : Nat → Nat) : Array Value := ((List.range 7).map fun i => Value.int .i64 (g i : Nat)).toArray
def u7 (g : Nat → Nat) : Array Value := ((List.range 7).map fun i => Value.int .u64 (g i : Nat)).toArray
theorem a7_get (g : Nat → Nat) (i : Nat) (h : i < 7) : (a7 g)[i]? = some (.int .i64 (g i : Nat)) := by unfold a7; simp [h]
theorem u7_get (g : Nat → Nat) (i : Nat) (h : i < 7) : (u7 g)[i]? = some (.int .u64 (g i : Nat)) := by unfold u7; simp [h]
theorem a7_set (g g' : Nat → Nat) (k : Nat) (h : k < 7) (e : ∀ i, i ≠ k → g' i = g i) : (a7 g).setIfInBounds k (.int .i64 (g' k : Nat)) = a7 g' := by
  apply Array.ext_getElem?
  intro i
  rw [Array.getElem?_setIfInBounds]
  by_cases hi : i < 7
  · rw [a7_get g' i hi]
    by_cases c : k = i
    · subst c; rw [if_pos rfl, if_pos (by unfold a7; simp; omega)]
    · rw [if_neg c, a7_get g i hi, e i (fun q => c q.symm)]
  · have h1 : (a7 g')[i]? = none := by unfold a7; simp; omega
    have h2 : (a7 g)[i]? = none := by unfold a7; simp; omega
    rw [h1, h2, if_neg (by omega)]
theorem u7_set (g g' : Nat → Nat) (k : Nat) (h : k < 7) (e : ∀ i, i ≠ k → g' i = g i) : (u7 g).setIfInBounds k (.int .u64 (g' k : Nat)) = u7 g' := by
  apply Array.ext_getElem?
  intro i
  rw [Array.getElem?_setIfInBounds]
  by_cases hi : i < 7
  · rw [u7_get g' i hi]
    by_cases c : k = i
    · subst c; rw [if_pos rfl, if_pos (by unfold u7; simp; omega)]
    · rw [if_neg c, u7_get g i hi, e i (fun q => c q.symm)]
  · have h1 : (u7 g')[i]? = none := by unfold u7; simp; omega
    have h2 : (u7 g)[i]? = none := by unfold u7; simp; omega
    rw [h1, h2, if_neg (by omega)]
theorem a7_zero : a7 (fun _ => 0) = #[.int .i64 0, .int .i64 0, .int .i64 0, .int .i64 0, .int .i64 0, .int .i64 0, .int .i64 0] := by simp [a7, List.range, List.range.loop]
theorem u7_zero : u7 (fun _ => 0) = #[.int .u64 0, .int .u64 0, .int .u64 0, .int .u64 0, .int .u64 0, .int .u64 0, .int .u64 0] := by simp [u7, List.range, List.range.loop]
theorem a7_lit (g : Nat → Nat) : a7 g = #[.int .i64 (g 0 : Nat), .int .i64 (g 1 : Nat), .int .i64 (g 2 : Nat), .int .i64 (g 3 : Nat), .int .i64 (g 4 : Nat), .int .i64 (g 5 : Nat), .int .i64 (g 6 : Nat)] := by simp [a7, List.range, List.range.loop]
/-- what is left of the timers laid, behind an advance. -/
theorem fr_lay (now : Nat) (f : Nat → Nat) (n : Nat) : Fr (lay now f n) (fun j => now + f j) n := fun d hd => (mem_lay now f n d).1 hd
theorem Fr.sub {L M : List Du} {a : Nat → Nat} {n : Nat} (h : Fr L a n) (e : ∀ d ∈ M, d ∈ L) : Fr M a n := fun d hd => h d (e d hd)
end Go.Proofs.YtjkhgpdhhnfmlaaDoor
