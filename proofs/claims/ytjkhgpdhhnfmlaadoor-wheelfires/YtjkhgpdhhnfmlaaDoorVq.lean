/- What WheelFires looks at: the timers left after cancelling, those that an advance tells, and what was told. Nothing of the program is named here but the lists of the earlier texts. -/
import Derived.Test.YtjkhgpdhhnfmlaaDoorVp
namespace Go.Proofs.YtjkhgpdhhnfmlaaDoor
open Go.RowKit TM MK
open RG (Du Srt)
open VM (idsD)

theorem tw_due {to : Nat} {L : List Du} {d : Du} (h : d ∈ L.takeWhile (dueP to)) : dueP to d = true := by
  induction L with
  | nil => cases h
  | cons a L ih =>
    rw [List.takeWhile_cons] at h
    split at h
    · rcases List.mem_cons.1 h with e | e
      · subst e; assumption
      · exact ih e
    · cases h
theorem lay_nd (now : Nat) (f : Nat → Nat) (n : Nat) : (idsD (lay now f n)).Nodup := by
  induction n with
  | zero => exact List.nodup_nil
  | succ k ih =>
    have hp : (idsD (lay now f (k + 1))).Perm ((k : Int) :: idsD (lay now f k)) := (RG.put_perm ⟨(k : Int), now + f k⟩ (lay now f k)).map (fun d : Du => d.id)
    rw [hp.nodup_iff, List.nodup_cons]
    refine ⟨fun c => ?_, ih⟩
    obtain ⟨d, hd, e⟩ := List.mem_map.1 c
    exact lay_no now f k d hd e
/-- while every fifth one is cancelled: the counter stands at j. -/
structure Cs (now n j : Nat) (f : Nat → Nat) (L : List Du) : Prop where
  s : Srt L
  nd : (idsD L).Nodup
  m : ∀ d, d ∈ L ↔ ∃ k, k < n ∧ (k % 5 = 0 → j ≤ k) ∧ d = ⟨(k : Int), now + f k⟩
/-- the clock stands at c: these are left. -/
structure Fs (now n c : Nat) (f : Nat → Nat) (L : List Du) : Prop where
  s : Srt L
  nd : (idsD L).Nodup
  m : ∀ d, d ∈ L ↔ ∃ k, k < n ∧ k % 5 ≠ 0 ∧ c < now + f k ∧ d = ⟨(k : Int), now + f k⟩
theorem Cs.start (now n : Nat) (f : Nat → Nat) : Cs now n 0 f (lay now f n) :=
  ⟨lay_srt now f n, lay_nd now f n, fun d => by
    rw [mem_lay]
    exact ⟨fun ⟨k, h1, h2⟩ => ⟨k, h1, fun _ => Nat.zero_le _, h2⟩, fun ⟨k, h1, _, h2⟩ => ⟨k, h1, h2⟩⟩⟩
theorem Cs.step {now n j : Nat} {f : Nat → Nat} {L : List Du} (h : Cs now n j f L) (hj : j < n) (h5 : j % 5 = 0) : atO L (j : Int) = some (now + f j) ∧ Cs now n (j + 5) f (VM.del (j : Int) L) := by
  have hm : (⟨(j : Int), now + f j⟩ : Du) ∈ L := (h.m _).2 ⟨j, hj, fun _ => Nat.le_refl _, rfl⟩
  refine ⟨atO_of h.nd hm, RG.srt_filter h.s _, ?_, fun d => ?_⟩
  · unfold VM.del idsD
    exact List.Nodup.sublist (List.Sublist.map _ List.filter_sublist) h.nd
  · unfold VM.del
    rw [List.mem_filter, h.m, decide_eq_true_eq]
    constructor
    · rintro ⟨⟨k, h1, h2, rfl⟩, h3⟩
      refine ⟨k, h1, fun e => ?_, rfl⟩
      have := h2 e
      simp only at h3
      omega
    · rintro ⟨k, h1, h2, rfl⟩
      refine ⟨⟨k, h1, fun e => by have := h2 e; omega, rfl⟩, ?_⟩
      simp only
      intro e
      have e' : k = j := by omega
      subst e'
      have := h2 h5
      omega
theorem Cs.done {now n j : Nat} {f : Nat → Nat} {L : List Du} (h : Cs now n j f L) (hj : n ≤ j) (hf : ∀ k, k < n → 0 < f k) : Fs now n now f L := by
  refine ⟨h.s, h.nd, fun d => ?_⟩
  rw [h.m]
  constructor
  · rintro ⟨k, h1, h2, rfl⟩
    refine ⟨k, h1, fun e => by have := h2 e; omega, by have := hf k h1; omega, rfl⟩
  · rintro ⟨k, h1, h2, _, rfl⟩
    exact ⟨k, h1, fun e => absurd e h2, rfl⟩
theorem Fs.drop {now n c to : Nat} {f : Nat → Nat} {L : List Du} (h : Fs now n c f L) (hc : c ≤ to) : Fs now n to f (L.dropWhile (dueP to)) := by
  have hsub : (L.dropWhile (dueP to)).Sublist L := List.dropWhile_sublist _
  refine ⟨List.Pairwise.sublist hsub h.s, List.Nodup.sublist (hsub.map _) h.nd, fun d => ?_⟩
  constructor
  · intro hd
    obtain ⟨k, h1, h2, _, rfl⟩ := (h.m _).1 (hsub.subset hd)
    rw [← twN_drop] at hd
    exact ⟨k, h1, h2, due_rest h.s to _ hd, rfl⟩
  · rintro ⟨k, h1, h2, h3, rfl⟩
    have hm : (⟨(k : Int), now + f k⟩ : Du) ∈ L := (h.m _).2 ⟨k, h1, h2, by omega, rfl⟩
    rw [← List.takeWhile_append_dropWhile (p := dueP to) (l := L), List.mem_append] at hm
    rcases hm with hm | hm
    · have := tw_due hm
      unfold dueP at this
      rw [decide_eq_true_eq] at this
      simp only at this
      omega
    · exact hm
/-- what was told at clock c. -/
def tl (now c : Nat) (f : Nat → Nat) (k : Nat) : Bool := decide (k % 5 ≠ 0) && decide (now + f k ≤ c)
/-- and with the first i of l. -/
def tk (g : Nat → Bool) (l : List Du) (i k : Nat) : Bool := g k || (l.take i).any (fun d => decide (d.id = (k : Int)))
theorem tk_zero (g : Nat → Bool) (l : List Du) (k : Nat) : tk g l 0 k = g k := by simp [tk]
theorem tk_succ (g : Nat → Bool) (l : List Du) (i k q t : Nat) (h : l[i]? = some ⟨(k : Int), t⟩) : tk g l (i + 1) q = if q = k then true else tk g l i q := by
  unfold tk
  rw [List.take_add_one, h, Option.toList_some, List.any_append]
  by_cases e : q = k
  · subst e; simp
  · rw [if_neg e]
    simp only [List.any_cons, List.any_nil, Bool.or_false]
    rw [show (decide ((k : Int) = (q : Int))) = false by rw [decide_eq_false_iff_not]; omega, Bool.or_false]
/-- the i-th one that an advance to 'to' tells. -/
theorem Fs.told {now n c to : Nat} {f : Nat → Nat} {L l : List Du} (h : Fs now n c f L) (hl : L.takeWhile (dueP to) = l) (i : Nat) (hi : i < l.length) :
    ∃ k, k < n ∧ k % 5 ≠ 0 ∧ c < now + f k ∧ now + f k ≤ to ∧ l[i]? = some ⟨(k : Int), now + f k⟩ ∧ tk (tl now c f) l i k = false := by
  have hm : l[i] ∈ L.takeWhile (dueP to) := by rw [hl]; exact List.getElem_mem hi
  have h1 := tw_due hm
  obtain ⟨k, h2, h3, h4, h5⟩ := (h.m _).1 ((List.takeWhile_sublist _).subset hm)
  have h6 : now + f k ≤ to := by
    rw [h5] at h1
    unfold dueP at h1
    rw [decide_eq_true_eq] at h1
    exact h1
  refine ⟨k, h2, h3, h4, h6, by rw [List.getElem?_eq_getElem hi, h5], ?_⟩
  have hnd : (idsD l).Nodup := by rw [← hl]; exact List.Nodup.sublist ((List.takeWhile_sublist _).map _) h.nd
  unfold tk
  rw [Bool.or_eq_false_iff]
  refine ⟨?_, ?_⟩
  · unfold tl
    rw [show decide (now + f k ≤ c) = false by rw [decide_eq_false_iff_not]; omega, Bool.and_false]
  · rw [List.any_eq_false]
    intro d hd hc
    rw [decide_eq_true_eq] at hc
    obtain ⟨j, hj, e⟩ := List.mem_take_iff_getElem.1 hd
    have hji : j < i := by omega
    have hx := List.pairwise_iff_getElem.1 hnd j i (by unfold idsD; rw [List.length_map]; omega) (by unfold idsD; rw [List.length_map]; omega) hji
    unfold idsD at hx
    rw [List.getElem_map, List.getElem_map, h5, e, hc] at hx
    exact hx rfl
/-- two that follow one another. -/
theorem Fs.next {now n c to : Nat} {f : Nat → Nat} {L l : List Du} (h : Fs now n c f L) (hl : L.takeWhile (dueP to) = l) (i : Nat) (a b : Du) (ha : l[i]? = some a) (hb : l[i + 1]? = some b) : a.t < b.t ∨ (a.t = b.t ∧ a.id < b.id) := by
  have hsub : l.Sublist L := by rw [← hl]; exact List.takeWhile_sublist _
  have hs : Srt l := List.Pairwise.sublist hsub h.s
  have hnd : (idsD l).Nodup := List.Nodup.sublist (hsub.map _) h.nd
  obtain ⟨h1, e1⟩ := List.getElem?_eq_some_iff.1 ha
  obtain ⟨h2, e2⟩ := List.getElem?_eq_some_iff.1 hb
  have g1 := List.pairwise_iff_getElem.1 hs i (i + 1) h1 h2 (by omega)
  have g2 := List.pairwise_iff_getElem.1 hnd i (i + 1) (by unfold idsD; rw [List.length_map]; omega) (by unfold idsD; rw [List.length_map]; omega) (by omega)
  unfold idsD at g2
  rw [List.getElem_map, List.getElem_map, e1, e2] at g2
  rw [e1, e2, RG.le_iff] at g1
  omega
theorem Fs.end {now n c to : Nat} {f : Nat → Nat} {L l : List Du} (h : Fs now n c f L) (hl : L.takeWhile (dueP to) = l) (hc : c ≤ to) (q : Nat) (hq : q < n) : tk (tl now c f) l l.length q = tl now to f q := by
  rw [Bool.eq_iff_iff]
  unfold tk tl
  rw [List.take_length, Bool.or_eq_true, Bool.and_eq_true, Bool.and_eq_true, decide_eq_true_eq, decide_eq_true_eq, decide_eq_true_eq, List.any_eq_true]
  constructor
  · rintro (⟨h1, h2⟩ | ⟨d, hd, e⟩)
    · exact ⟨h1, by omega⟩
    · rw [decide_eq_true_eq] at e
      rw [← hl] at hd
      have h1 := tw_due hd
      obtain ⟨k, h2, h3, h4, rfl⟩ := (h.m _).1 ((List.takeWhile_sublist _).subset hd)
      unfold dueP at h1
      rw [decide_eq_true_eq] at h1
      simp only at e h1
      obtain rfl : k = q := by omega
      exact ⟨h3, h1⟩
  · rintro ⟨h1, h2⟩
    by_cases h3 : now + f q ≤ c
    · exact Or.inl ⟨h1, h3⟩
    · refine Or.inr ⟨⟨(q : Int), now + f q⟩, ?_, by simp⟩
      have hm : (⟨(q : Int), now + f q⟩ : Du) ∈ L := (h.m _).2 ⟨q, hq, h1, by omega, rfl⟩
      rw [← List.takeWhile_append_dropWhile (p := dueP to) (l := L), List.mem_append] at hm
      rcases hm with hm | hm
      · rw [← hl]; exact hm
      · rw [← twN_drop] at hm
        have := due_rest h.s to _ hm
        simp only at this
        omega
end Go.Proofs.YtjkhgpdhhnfmlaaDoor
