/- A ring in memory against the document's: slots, numbers, lengths, sets. Nothing of the program's functions is named here. -/
import Derived.Test.YtlihcljjpalapaaDoorRm
import Derived.Test.YtlihcljjpalapaaDoorRa
namespace Go.Proofs.YtlihcljjpalapaaDoor
open Go.RowKit MK
open RG

/-- what each slot of a ring holds. -/
def LR (R : List La) : Nat → List Du := fun k => listR R (k : Int)
theorem mem_listR (R : List La) (s : Int) (d : Du) : d ∈ listR R s ↔ ⟨s, d⟩ ∈ R := by
  unfold listR
  rw [(sort_perm _).mem_iff]
  unfold inSlot
  rw [List.mem_map]
  constructor
  · rintro ⟨x, hx, rfl⟩
    rw [List.mem_filter, decide_eq_true_eq] at hx
    obtain ⟨h1, h2⟩ := hx
    subst h2
    exact h1
  · intro h
    exact ⟨⟨s, d⟩, List.mem_filter.2 ⟨h, by simp⟩, rfl⟩
theorem has_slots {R : List La} (g : RG.Good R) (i : Int) : (∃ k, k < 64 ∧ ∃ x ∈ LR R k, x.id = i) ↔ hasId R i = true := by
  rw [hasId_iff]
  unfold ids
  rw [List.mem_map]
  constructor
  · rintro ⟨k, _, x, hx, rfl⟩
    exact ⟨_, (mem_listR R k x).1 hx, rfl⟩
  · rintro ⟨⟨s, d⟩, hx, rfl⟩
    have hs := g.slot _ hx
    simp only at hs
    obtain ⟨k, rfl⟩ := Int.eq_ofNat_of_zero_le hs.1
    exact ⟨k, by omega, d, (mem_listR R k d).2 hx, rfl⟩
theorem LR_put (R : List La) (s : Nat) (d : Du) (k : Nat) : upd (LR R) s (put d (LR R s)) k = LR (R ++ [⟨(s : Int), d⟩]) k := by
  unfold LR
  by_cases h : k = s
  · subst h
    rw [upd_same]
    exact listR_put.symm
  · rw [upd_other _ _ _ h]
    unfold listR
    rw [inSlot_put, if_neg (by omega)]
theorem LR_take (R : List La) (s : Nat) (k : Nat) : upd (LR R) s [] k = LR (takeR R (s : Int)) k := by
  unfold LR
  by_cases h : k = s
  · subst h
    rw [upd_same, listR_take, if_pos rfl]
  · rw [upd_other _ _ _ h, listR_take, if_neg (by omega)]
theorem listR_srt (R : List La) (s : Int) : Srt (listR R s) := sort_srt _
theorem listR_len (R : List La) (s : Int) : (listR R s).length ≤ R.length := by
  unfold listR inSlot
  rw [sort_len, List.length_map]
  exact List.length_filter_le _ _
/-- a number lies in one slot alone, once. -/
theorem good_once {R : List La} (g : RG.Good R) {s s' : Int} {d d' : Du} (h : ⟨s, d⟩ ∈ R) (h' : ⟨s', d'⟩ ∈ R) (e : d.id = d'.id) : s = s' ∧ d = d' := by
  obtain ⟨j, hj, ej⟩ := List.mem_iff_getElem.1 h
  obtain ⟨k, hk, ek⟩ := List.mem_iff_getElem.1 h'
  have : j = k := g.inj hj hk (by rw [ej, ek]; exact e)
  subst this
  rw [ej] at ek
  injection ek with e1 e2
  exact ⟨e1, e2⟩
theorem nodup_listR {R : List La} (g : RG.Good R) (s : Int) : ((listR R s).map (·.id)).Nodup := by
  have h1 : ((inSlot R s).map (·.id)).Nodup := by
    unfold inSlot
    rw [List.map_map]
    have := g.once
    unfold ids at this
    exact this.sublist ((List.filter_sublist).map _)
  exact (((sort_perm _).map _).nodup_iff).2 h1
theorem LR_drop {R : List La} (g : RG.Good R) {s j : Nat} {i : Int} (hj : j < (LR R s).length) (e : (LR R s)[j].id = i) (k : Nat) : upd (LR R) s ((LR R s).take j ++ (LR R s).drop (j + 1)) k = LR (dropR R i) k := by
  have hm : ⟨(s : Int), (LR R s)[j]⟩ ∈ R := (mem_listR R s _).1 (List.getElem_mem hj)
  have key : ∀ k : Nat, LR (dropR R i) k = (LR R k).filter (fun d => decide (d.id ≠ i)) := fun k => listR_drop R i k
  rw [key k]
  by_cases h : k = s
  · subst h
    rw [upd_same]
    have hn := nodup_listR g (k : Int)
    have hn' : ∀ a b, (ha : a < (LR R k).length) → (hb : b < (LR R k).length) → ((LR R k)[a]).id = ((LR R k)[b]).id → a = b := by
      intro a b ha hb hab
      unfold List.Nodup at hn
      rw [List.pairwise_map, List.pairwise_iff_getElem] at hn
      rcases Nat.lt_trichotomy a b with q | q | q
      · exact absurd hab (hn a b ha hb q)
      · exact q
      · exact absurd hab.symm (hn b a hb ha q)
    have e1 : ((LR R k).take j).filter (fun d => decide (d.id ≠ i)) = (LR R k).take j := by
      rw [List.filter_eq_self]
      intro x hx
      obtain ⟨a, ha, rfl⟩ := List.mem_take_iff_getElem.1 hx
      rw [decide_eq_true_eq]
      intro q
      have := hn' a j (by omega) hj (by rw [q, e])
      omega
    have e2 : ((LR R k).drop (j + 1)).filter (fun d => decide (d.id ≠ i)) = (LR R k).drop (j + 1) := by
      rw [List.filter_eq_self]
      intro x hx
      obtain ⟨a, ha, rfl⟩ := List.mem_drop_iff_getElem.1 hx
      rw [decide_eq_true_eq]
      intro q
      have := hn' (j + 1 + a) j (by omega) hj (by rw [q, e])
      omega
    have e3 : LR R k = (LR R k).take j ++ (LR R k)[j] :: (LR R k).drop (j + 1) := by rw [← List.drop_eq_getElem_cons hj, List.take_append_drop]
    conv => rhs; rw [e3]
    rw [List.filter_append, List.filter_cons, e1, e2]
    simp [e]
  · rw [upd_other _ _ _ h, eq_comm, List.filter_eq_self]
    intro x hx
    rw [decide_eq_true_eq]
    intro q
    have hx' : ⟨(k : Int), x⟩ ∈ R := (mem_listR R k x).1 hx
    have := (good_once g hx' hm (by rw [q, e])).1
    omega
theorem dropO_slot {R : List La} (g : RG.Good R) {s j : Nat} {i : Int} (hj : j < (LR R s).length) (e : (LR R s)[j].id = i) : dropO R i = some (s : Int) := by
  have hm : ⟨(s : Int), (LR R s)[j]⟩ ∈ R := (mem_listR R s _).1 (List.getElem_mem hj)
  obtain ⟨k, hk, ek⟩ := List.mem_iff_getElem.1 hm
  have ei : R[k].d.id = i := by rw [ek]; exact e
  rw [← ei, dropO_at hk (fun a ha c => by have := g.inj (by omega) hk c; omega), ek]
/-- the lengths of the slots. -/
def cnt (R : List La) : Nat → Nat
  | 0 => 0
  | k + 1 => cnt R k + (R.filter (fun x => decide (x.s = (k : Int)))).length
theorem tot_cnt (R : List La) (k : Nat) : tot (LR R) k = cnt R k := by
  induction k with
  | zero => rfl
  | succ k ih =>
    show tot (LR R) k + (listR R k).length = cnt R k + _
    rw [ih]
    unfold listR inSlot
    rw [sort_len, List.length_map]
theorem cnt_is (R : List La) (k : Nat) : cnt R k = (R.filter (fun x => decide (0 ≤ x.s ∧ x.s < (k : Int)))).length := by
  induction k with
  | zero =>
    rw [List.filter_eq_nil_iff.2]
    · rfl
    · intro x _; simp
  | succ k ih =>
    show cnt R k + _ = _
    rw [ih]
    clear ih
    induction R with
    | nil => rfl
    | cons x R ih =>
      simp only [List.filter_cons]
      by_cases h1 : 0 ≤ x.s ∧ x.s < (k : Int)
      · have h2 : ¬ x.s = (k : Int) := by omega
        have h3 : 0 ≤ x.s ∧ x.s < ((k + 1 : Nat) : Int) := by omega
        rw [if_pos (by simpa using h1), if_neg (by simpa using h2), if_pos (by simpa using h3), List.length_cons, List.length_cons, ← ih]
        omega
      · by_cases h2 : x.s = (k : Int)
        · have h3 : 0 ≤ x.s ∧ x.s < ((k + 1 : Nat) : Int) := by omega
          rw [if_neg (by simpa using h1), if_pos (by simpa using h2), if_pos (by simpa using h3), List.length_cons, List.length_cons, ← ih]
          omega
        · have h3 : ¬ (0 ≤ x.s ∧ x.s < ((k + 1 : Nat) : Int)) := by omega
          rw [if_neg (by simpa using h1), if_neg (by simpa using h2), if_neg (by simpa using h3), ← ih]
theorem tot_is {R : List La} (g : RG.Good R) : tot (LR R) 64 = R.length := by
  rw [tot_cnt, cnt_is, List.filter_eq_self.2]
  intro x hx
  have := g.slot x hx
  simpa using this
theorem msk_bit (L : Nat → List Du) (n k : Nat) (hk : k < 64) (hn : n ≤ 64) : (msk L n).testBit k = (decide (k < n) && decide (0 < (L k).length)) := by
  induction n with
  | zero => simp [msk]
  | succ n ih =>
    by_cases h : 0 < (L n).length
    · rw [msk_yes h, wth_bit _ _ _ hk, ih (by omega)]
      by_cases e : n = k
      · subst e; simp [h]
      · have e' : ¬ ((n : Int) = (k : Int)) := by omega
        have e2 : decide (k < n + 1) = decide (k < n) := by
          rw [decide_eq_decide]; omega
        simp [e', e2]
    · rw [msk_no h, ih (by omega)]
      by_cases e : n = k
      · subst e; simp [h]
      · have e2 : decide (k < n + 1) = decide (k < n) := by
          rw [decide_eq_decide]; omega
        rw [e2]
theorem mskR_bit (R : List La) (k : Nat) (hk : k < 64) : (msk (LR R) 64).testBit k = decide ((k : Int) ∈ R.map (·.s)) := by
  rw [msk_bit _ _ _ hk (Nat.le_refl _)]
  simp only [hk, decide_true, Bool.true_and]
  rw [decide_eq_decide, List.mem_map]
  constructor
  · intro h
    obtain ⟨d, hd⟩ := List.exists_mem_of_length_pos h
    exact ⟨_, (mem_listR R k d).1 hd, rfl⟩
  · rintro ⟨⟨s, d⟩, hx, e⟩
    simp only at e
    subst e
    exact List.length_pos_of_mem ((mem_listR R k d).2 hx)
theorem msk_ofL (R : List La) : msk (LR R) 64 = ofL (R.map (·.s)) :=
  ext64 (msk_lt _ _) (ofL_lt _) fun k hk => by rw [mskR_bit R k hk, ofL_bit _ _ hk]
end Go.Proofs.YtlihcljjpalapaaDoor
