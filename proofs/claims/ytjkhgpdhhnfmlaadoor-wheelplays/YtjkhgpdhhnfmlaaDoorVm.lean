/- Levels and slots of times; what lies where in a wheel, as lists. Nothing of the program is named here. -/
import Derived.Test.YtjkhgpdhhnfmlaaDoorRg
namespace Go.Proofs.YtjkhgpdhhnfmlaaDoor
namespace VM
open RG
set_option linter.unusedSimpArgs false

/-- the level of a time as seen from now; 6: beyond the rings. -/
def lvl (now t : Nat) : Nat :=
  if t / 64 = now / 64 then 0 else if t / 4096 = now / 4096 then 1 else if t / 262144 = now / 262144 then 2 else if t / 16777216 = now / 16777216 then 3 else if t / 1073741824 = now / 1073741824 then 4 else if t / 68719476736 = now / 68719476736 then 5 else 6
theorem lvl_six (now t : Nat) : lvl now t ≤ 6 := by unfold lvl; repeat' split
                                                    all_goals omega
theorem agr_up {a b m n : Nat} (h : a / 64 ^ m = b / 64 ^ m) (hn : m ≤ n) : a / 64 ^ n = b / 64 ^ n := by
  obtain ⟨k, rfl⟩ := Nat.exists_eq_add_of_le hn
  rw [Nat.pow_add, ← Nat.div_div_eq_div_mul, ← Nat.div_div_eq_div_mul, h]
theorem lvl_le (now t k : Nat) (hk : k < 6) : lvl now t ≤ k ↔ t / 64 ^ (k + 1) = now / 64 ^ (k + 1) := by
  rcases (by omega : k = 0 ∨ k = 1 ∨ k = 2 ∨ k = 3 ∨ k = 4 ∨ k = 5) with rfl | rfl | rfl | rfl | rfl | rfl <;>
    (simp only [Nat.reduceAdd, Nat.reducePow]; unfold lvl; repeat' split) <;> constructor <;> intro h <;> omega
theorem lvl_not (now t k : Nat) (hk : k < 6) : k < lvl now t ↔ t / 64 ^ (k + 1) ≠ now / 64 ^ (k + 1) := by
  have := lvl_le now t k hk
  constructor
  · intro h e; have := this.2 e; omega
  · intro h; exact Nat.lt_of_not_le (fun c => h (this.1 c))
/-- the digit of a time at its level. -/
def dg (t k : Nat) : Nat := t / 64 ^ k % 64
theorem dg_lt (t k : Nat) : dg t k < 64 := Nat.mod_lt _ (by decide)
theorem quo_succ' (t k : Nat) : t / 64 ^ (k + 1) = t / 64 ^ k / 64 := by rw [Nat.pow_succ, Nat.div_div_eq_div_mul]
theorem quo_dg (t k : Nat) : t / 64 ^ k = t / 64 ^ (k + 1) * 64 + dg t k := by rw [quo_succ']; unfold dg; omega

/-- a timer behind a time that parts from now at level lv lies on that level or above. -/
theorem lvl_above {now to t : Nat} (h1 : now < to) (h2 : to ≤ t) : lvl now to ≤ lvl now t := by
  refine Nat.le_of_not_lt fun hj => ?_
  have h6 := lvl_six now to
  obtain ⟨m, hm⟩ : ∃ m, lvl now to = m + 1 := ⟨lvl now to - 1, by omega⟩
  have a1 := (lvl_le now t m (by omega)).1 (by omega)
  have a2 := (lvl_not now to m (by omega)).1 (by omega)
  have a3 : now / 64 ^ (m + 1) ≤ to / 64 ^ (m + 1) := Nat.div_le_div_right (by omega)
  have a4 : to / 64 ^ (m + 1) ≤ t / 64 ^ (m + 1) := Nat.div_le_div_right h2
  omega
/-- from now to 'to' a timer that is not where 'to' would lie stays where it is. -/
theorem lvl_stay {now to t : Nat} (h1 : now < to) (h2 : to ≤ t) (h6 : lvl now to < 6) (hs : ¬ (lvl now t = lvl now to ∧ dg t (lvl now to) = dg to (lvl now to))) : lvl to t = lvl now t := by
  have ha := lvl_above h1 h2
  have hl := lvl_six now t
  have hl' := lvl_six to t
  have hi : ∀ k, lvl now to ≤ k → k < 6 → (lvl to t ≤ k ↔ lvl now t ≤ k) := by
    intro k hk hk6
    rw [lvl_le _ _ _ hk6, lvl_le _ _ _ hk6]
    have := (lvl_le now to k hk6).1 hk
    rw [this]
  rcases Nat.lt_or_ge (lvl now to) (lvl now t) with hj | hj
  · obtain ⟨m, hm⟩ : ∃ m, lvl now t = m + 1 := ⟨lvl now t - 1, by omega⟩
    have b1 := hi m (by omega) (by omega)
    rcases Nat.lt_or_ge (lvl now t) 6 with h | h
    · have b2 := hi (lvl now t) (by omega) h
      omega
    · omega
  · have e : lvl now t = lvl now to := by omega
    have b2 := (hi (lvl now to) (Nat.le_refl _) h6).2 (by omega)
    rcases hz : lvl now to with _ | m
    · rw [hz] at b2; omega
    · rw [hz] at b2 hs h6
      have hd : dg t (m + 1) ≠ dg to (m + 1) := fun c => hs ⟨by omega, c⟩
      have : m < lvl to t := (lvl_not to t m (by omega)).2 (fun c => hd (by unfold dg; rw [c]))
      omega
theorem lvl_stay6 {now to t : Nat} (h1 : now < to) (h2 : to ≤ t) (h6 : lvl now to = 6) : lvl now t = 6 := by
  have := lvl_above h1 h2
  have := lvl_six now t
  omega
/-- one that is where 'to' would lie comes down, or stays on level 0. -/
theorem lvl_down {now to t : Nat} (h6 : lvl now to < 6) (hs : lvl now t = lvl now to) : lvl to t ≤ lvl now to := by
  rw [lvl_le _ _ _ h6, (lvl_le now to _ h6).1 (Nat.le_refl _)]
  exact (lvl_le now t _ h6).1 (by omega)
/-- on a lower level: due earlier. -/
theorem lvl_less {now a b : Nat} (hb : now ≤ b) (h : lvl now a < lvl now b) : a < b := by
  have h6 := lvl_six now b
  have a1 := (lvl_le now a (lvl now a) (by omega)).1 (Nat.le_refl _)
  have a2 := (lvl_not now b (lvl now a) (by omega)).1 h
  have a3 : now / 64 ^ (lvl now a + 1) ≤ b / 64 ^ (lvl now a + 1) := Nat.div_le_div_right hb
  refine Nat.lt_of_not_le fun c => ?_
  have a4 : b / 64 ^ (lvl now a + 1) ≤ a / 64 ^ (lvl now a + 1) := Nat.div_le_div_right c
  omega
/-- in a lower slot of the same ring: due earlier. -/
theorem dg_less {now a b k : Nat} (ha : lvl now a = k) (hb : lvl now b = k) (hk : k < 6) (h : dg a k < dg b k) : a < b := by
  have a1 := (lvl_le now a k hk).1 (by omega)
  have a2 := (lvl_le now b k hk).1 (by omega)
  refine Nat.lt_of_not_le fun c => ?_
  have a4 : b / 64 ^ k ≤ a / 64 ^ k := Nat.div_le_div_right c
  rw [quo_dg a k, quo_dg b k, a1, a2] at a4
  omega

/-! ### what lies on a level -/
def la (k : Nat) (d : Du) : La := ⟨(dg d.t k : Nat), d⟩
/-- the timers of level k, with their slots. -/
def RK (now : Nat) (L : List Du) (k : Nat) : List La := (L.filter (fun d => decide (lvl now d.t = k))).map (la k)
/-- those beyond the rings. -/
def BK (now : Nat) (L : List Du) : List Du := L.filter (fun d => decide (lvl now d.t = 6))
def idsD (L : List Du) : List Int := L.map (·.id)
theorem RK_ids (now : Nat) (L : List Du) (k : Nat) : RG.ids (RK now L k) = idsD (L.filter (fun d => decide (lvl now d.t = k))) := by
  unfold RG.ids RK idsD; rw [List.map_map]; rfl
theorem RK_good {now : Nat} {L : List Du} (h : (idsD L).Nodup) (k : Nat) : RG.Good (RK now L k) := by
  refine ⟨?_, fun x hx => ?_⟩
  · rw [RK_ids]; exact h.sublist ((List.filter_sublist).map _)
  · obtain ⟨d, _, rfl⟩ := List.mem_map.1 hx
    have := dg_lt d.t k
    constructor
    · exact Int.natCast_nonneg _
    · show ((dg d.t k : Nat) : Int) < 64
      omega
theorem RK_len (now : Nat) (L : List Du) (k : Nat) : (RK now L k).length ≤ L.length := by
  unfold RK; rw [List.length_map]; exact List.length_filter_le _ _
theorem RK_perm (now : Nat) {L M : List Du} (h : L.Perm M) (k : Nat) : (RK now L k).Perm (RK now M k) := (h.filter _).map _
theorem RK_cons (now : Nat) (d : Du) (L : List Du) (k : Nat) : RK now (d :: L) k = if lvl now d.t = k then la k d :: RK now L k else RK now L k := by
  unfold RK
  rw [List.filter_cons]
  by_cases h : lvl now d.t = k
  · rw [if_pos (decide_eq_true h), if_pos h]; rfl
  · rw [if_neg (by simpa using h), if_neg h]
/-- one more. -/
theorem RK_put_at {now : Nat} {d : Du} {L : List Du} {k : Nat} (h : lvl now d.t = k) : (RK now L k ++ [la k d]).Perm (RK now (put d L) k) := by
  refine (List.perm_append_singleton _ _).trans ?_
  refine List.Perm.trans ?_ (RK_perm now (put_perm d L) k).symm
  rw [RK_cons, if_pos h]
theorem RK_put_other {now : Nat} {d : Du} {L : List Du} {k : Nat} (h : lvl now d.t ≠ k) : (RK now L k).Perm (RK now (put d L) k) := by
  refine List.Perm.trans ?_ (RK_perm now (put_perm d L) k).symm
  rw [RK_cons, if_neg h]
theorem BK_srt {now : Nat} {L : List Du} (h : Srt L) : Srt (BK now L) := srt_filter h _
theorem BK_put_at {now : Nat} {d : Du} {L : List Du} (hs : Srt L) (h : lvl now d.t = 6) : BK now (put d L) = put d (BK now L) := by
  refine srt_unique (BK_srt (put_srt hs)) (put_srt (BK_srt hs)) ?_
  refine List.Perm.trans ((put_perm d L).filter _) ?_
  rw [List.filter_cons, if_pos (decide_eq_true h)]
  exact (put_perm d _).symm
theorem BK_put_other {now : Nat} {d : Du} {L : List Du} (hs : Srt L) (h : lvl now d.t ≠ 6) : BK now (put d L) = BK now L := by
  refine srt_unique (BK_srt (put_srt hs)) (BK_srt hs) ?_
  refine List.Perm.trans ((put_perm d L).filter _) ?_
  rw [List.filter_cons, if_neg (by simpa using h)]
  exact List.Perm.refl _
/-- one less. -/
def del (i : Int) (L : List Du) : List Du := L.filter (fun d => decide (d.id ≠ i))
theorem RK_del (now : Nat) (i : Int) (L : List Du) (k : Nat) : RK now (del i L) k = dropR (RK now L k) i := by
  unfold RK del RG.dropR
  rw [List.filter_filter, List.filter_map, List.filter_filter]
  congr 1
  apply List.filter_congr
  intro d _
  show (decide (lvl now d.t = k) && decide (d.id ≠ i)) = (decide (d.id ≠ i) && decide (lvl now d.t = k))
  exact Bool.and_comm _ _
theorem BK_del (now : Nat) (i : Int) (L : List Du) : BK now (del i L) = del i (BK now L) := by
  unfold BK del
  rw [List.filter_filter, List.filter_filter]
  apply List.filter_congr
  intro d _
  exact Bool.and_comm _ _
theorem del_no {i : Int} {L : List Du} (h : ∀ d ∈ L, d.id ≠ i) : del i L = L := by
  unfold del
  rw [List.filter_eq_self]
  intro d hd
  simpa using h d hd
theorem id_inj {L : List Du} (h : (idsD L).Nodup) {a b : Du} (ha : a ∈ L) (hb : b ∈ L) (e : a.id = b.id) : a = b := by
  unfold idsD at h
  obtain ⟨j, hj, rfl⟩ := List.mem_iff_getElem.1 ha
  obtain ⟨k, hk, rfl⟩ := List.mem_iff_getElem.1 hb
  unfold List.Nodup at h
  rw [List.pairwise_map, List.pairwise_iff_getElem] at h
  rcases Nat.lt_trichotomy j k with g | g | g
  · exact absurd e (h j k hj hk g)
  · subst g; rfl
  · exact absurd e.symm (h k j hk hj g)
theorem dropR_other {now : Nat} {L : List Du} (hn : (idsD L).Nodup) {d : Du} (hd : d ∈ L) {k : Nat} (hk : lvl now d.t ≠ k) : dropR (RK now L k) d.id = RK now L k := by
  refine RG.dropR_no (RG.hasId_no fun j hj e => ?_)
  have hm : (RK now L k)[j] ∈ RK now L k := List.getElem_mem hj
  obtain ⟨x, hx, ex⟩ := List.mem_map.1 hm
  rw [List.mem_filter, decide_eq_true_eq] at hx
  rw [← ex] at e
  have := id_inj hn hx.1 hd e
  subst this
  exact hk hx.2
theorem BK_del_other {now : Nat} {L : List Du} (hn : (idsD L).Nodup) {d : Du} (hd : d ∈ L) (hk : lvl now d.t ≠ 6) : BK now (del d.id L) = BK now L := by
  rw [BK_del]
  refine del_no fun x hx e => ?_
  unfold BK at hx
  rw [List.mem_filter, decide_eq_true_eq] at hx
  have := id_inj hn hx.1 hd e
  subst this
  exact hk hx.2
/-! ### from now to a later time -/
/-- lies it where 'to' would? -/
def hit (now to : Nat) (d : Du) : Bool := decide (lvl now d.t = lvl now to ∧ dg d.t (lvl now to) = dg to (lvl now to))
theorem inSlot_RK (now : Nat) (L : List Du) (k s : Nat) : inSlot (RK now L k) (s : Int) = L.filter (fun d => decide (lvl now d.t = k ∧ dg d.t k = s)) := by
  unfold inSlot RK
  rw [List.filter_map, List.map_map, List.filter_filter]
  rw [show ((fun x : La => x.d) ∘ la k) = id from rfl, List.map_id]
  apply List.filter_congr
  intro d _
  show (decide (((dg d.t k : Nat) : Int) = (s : Int)) && decide (lvl now d.t = k)) = _
  rw [Bool.eq_iff_iff]
  simp only [Bool.and_eq_true, decide_eq_true_eq]
  omega
theorem listR_RK {L : List Du} (hs : Srt L) (now k s : Nat) : listR (RK now L k) (s : Int) = L.filter (fun d => decide (lvl now d.t = k ∧ dg d.t k = s)) := by
  unfold listR
  rw [inSlot_RK]
  exact sort_is (srt_filter hs _) (List.Perm.refl _)
theorem listR_hit {L : List Du} (hs : Srt L) (now to : Nat) : listR (RK now L (lvl now to)) ((dg to (lvl now to) : Nat) : Int) = L.filter (hit now to) := listR_RK hs now _ _
theorem takeR_RK (now : Nat) (L : List Du) (k s : Nat) : takeR (RK now L k) (s : Int) = (L.filter (fun d => decide (lvl now d.t = k ∧ dg d.t k ≠ s))).map (la k) := by
  unfold takeR RK
  rw [List.filter_map, List.filter_filter]
  congr 1
  apply List.filter_congr
  intro d _
  show (decide (((dg d.t k : Nat) : Int) ≠ (s : Int)) && decide (lvl now d.t = k)) = _
  rw [Bool.eq_iff_iff]
  simp only [Bool.and_eq_true, decide_eq_true_eq]
  omega
theorem filter_parts (L : List Du) (p q : Du → Bool) : (L.filter (fun d => !q d && p d) ++ L.filter (fun d => q d && p d)).Perm (L.filter p) := by
  induction L with
  | nil => exact List.Perm.refl _
  | cons d L ih =>
    simp only [List.filter_cons]
    rcases hp : p d with _ | _ <;> rcases hq : q d with _ | _ <;> simp only [hp, hq, Bool.not_true, Bool.not_false, Bool.and_true, Bool.and_false, Bool.true_and, Bool.false_and, if_true, if_false, Bool.false_eq_true]
    · exact ih
    · exact ih
    · exact ih.cons d
    · exact (List.perm_middle).trans (ih.cons d)
/-- the rings behind the move: what stayed, and what came down. -/
theorem move_ring {now to : Nat} {L : List Du} (h1 : now < to) (hL : ∀ d ∈ L, to ≤ d.t) (h6 : lvl now to < 6) (k : Nat) :
    ((if k = lvl now to then takeR (RK now L k) ((dg to (lvl now to) : Nat) : Int) else RK now L k) ++ RK to (L.filter (hit now to)) k).Perm (RK to L k) := by
  have hR : RK to (L.filter (hit now to)) k = (L.filter (fun d => hit now to d && decide (lvl to d.t = k))).map (la k) := by
    unfold RK
    rw [List.filter_filter]
    congr 1
    apply List.filter_congr
    intro d _
    exact Bool.and_comm _ _
  have hS : (if k = lvl now to then takeR (RK now L k) ((dg to (lvl now to) : Nat) : Int) else RK now L k) = (L.filter (fun d => !hit now to d && decide (lvl to d.t = k))).map (la k) := by
    have stay : ∀ d ∈ L, hit now to d = false → lvl to d.t = lvl now d.t := fun d hd hh => lvl_stay h1 (hL d hd) h6 (by unfold hit at hh; simpa using hh)
    by_cases hk : k = lvl now to
    · rw [if_pos hk, takeR_RK]
      congr 1
      apply List.filter_congr
      intro d hd
      rw [Bool.eq_iff_iff]
      simp only [Bool.and_eq_true, Bool.not_eq_true', decide_eq_true_eq]
      constructor
      · rintro ⟨g1, g2⟩
        have hh : hit now to d = false := by unfold hit; simp only [decide_eq_false_iff_not]; rintro ⟨_, c⟩; exact g2 (by rw [hk]; exact c)
        exact ⟨hh, by rw [stay d hd hh]; exact g1⟩
      · rintro ⟨hh, g⟩
        rw [stay d hd hh] at g
        refine ⟨g, fun c => ?_⟩
        unfold hit at hh
        simp only [decide_eq_false_iff_not] at hh
        exact hh ⟨by rw [g, hk], by rw [← hk]; rw [hk] at c ⊢; exact c⟩
    · rw [if_neg hk]
      unfold RK
      congr 1
      apply List.filter_congr
      intro d hd
      rw [Bool.eq_iff_iff]
      simp only [Bool.and_eq_true, Bool.not_eq_true', decide_eq_true_eq]
      constructor
      · intro g
        have hh : hit now to d = false := by unfold hit; simp only [decide_eq_false_iff_not]; rintro ⟨c, _⟩; exact hk (by omega)
        exact ⟨hh, by rw [stay d hd hh]; exact g⟩
      · rintro ⟨hh, g⟩
        rw [stay d hd hh] at g; exact g
  rw [hR, hS, ← List.map_append]
  exact (filter_parts L (fun d => decide (lvl to d.t = k)) (hit now to)).map _
theorem move_beyond {now to : Nat} {L : List Du} (h1 : now < to) (hL : ∀ d ∈ L, to ≤ d.t) (h6 : lvl now to < 6) : BK now L = BK to L := by
  unfold BK
  apply List.filter_congr
  intro d hd
  rw [decide_eq_decide]
  by_cases hh : lvl now d.t = lvl now to ∧ dg d.t (lvl now to) = dg to (lvl now to)
  · have := lvl_down (to := to) (t := d.t) h6 hh.1
    omega
  · rw [lvl_stay h1 (hL d hd) h6 hh]
theorem hit_down {now to : Nat} {d : Du} (h6 : lvl now to < 6) (h : hit now to d = true) : lvl to d.t < 6 := by
  unfold hit at h
  rw [decide_eq_true_eq] at h
  have := lvl_down (to := to) (t := d.t) h6 h.1
  omega
/-- beyond the rings: those that have come near are the first ones. -/
def nearP (to : Nat) (d : Du) : Bool := decide (lvl to d.t < 6)
theorem near_mono {to a b : Nat} (ha : to ≤ a) (hab : a ≤ b) (h : lvl to b < 6) : lvl to a < 6 := by
  have h1 := (lvl_le to b 5 (by omega)).1 (by omega)
  have h2 : a / 64 ^ (5 + 1) ≤ b / 64 ^ (5 + 1) := Nat.div_le_div_right hab
  have h3 : to / 64 ^ (5 + 1) ≤ a / 64 ^ (5 + 1) := Nat.div_le_div_right ha
  have := (lvl_le to a 5 (by omega)).2 (by omega)
  omega
theorem far_all {now to : Nat} {L : List Du} (h1 : now < to) (hL : ∀ d ∈ L, to ≤ d.t) (h6 : lvl now to = 6) : BK now L = L ∧ ∀ k, k < 6 → RK now L k = [] := by
  constructor
  · unfold BK
    rw [List.filter_eq_self]
    intro d hd
    simpa using lvl_stay6 h1 (hL d hd) h6
  · intro k hk
    unfold RK
    rw [List.filter_eq_nil_iff.2]
    · rfl
    · intro d hd
      have := lvl_stay6 h1 (hL d hd) h6
      simp only [decide_eq_true_eq]
      omega
theorem takeWhile_filter {p : Du → Bool} {L : List Du} (h : L.Pairwise (fun a b => p b = true → p a = true)) : L.takeWhile p = L.filter p ∧ L.dropWhile p = L.filter (fun d => !p d) := by
  induction L with
  | nil => exact ⟨rfl, rfl⟩
  | cons d L ih =>
    rw [List.pairwise_cons] at h
    rcases hp : p d with _ | _
    · have hall : ∀ x ∈ L, p x = false := fun x hx => by
        rcases e : p x with _ | _
        · rfl
        · have := h.1 x hx e; rw [hp] at this; cases this
      constructor
      · rw [List.takeWhile_cons, hp]
        simp only [Bool.false_eq_true, if_false]
        rw [List.filter_cons, hp, List.filter_eq_nil_iff.2 (fun x hx => by rw [hall x hx]; decide)]
        simp
      · rw [List.dropWhile_cons, hp]
        simp only [Bool.false_eq_true, if_false]
        rw [List.filter_cons, hp, List.filter_eq_self.2 (fun x hx => by rw [hall x hx]; rfl)]
        simp
    · obtain ⟨i1, i2⟩ := ih h.2
      constructor
      · rw [List.takeWhile_cons, hp, List.filter_cons, hp, if_pos rfl, if_pos rfl, i1]
      · rw [List.dropWhile_cons, hp, List.filter_cons, hp, if_pos rfl, i2]
        simp
theorem srt_t {L : List Du} (h : Srt L) : L.Pairwise (fun a b => a.t ≤ b.t) := h.imp (fun {a b} g => by rw [le_iff] at g; omega)
theorem near_take {to : Nat} {L : List Du} (hs : Srt L) (hL : ∀ d ∈ L, to ≤ d.t) : L.takeWhile (nearP to) = L.filter (nearP to) ∧ L.dropWhile (nearP to) = L.filter (fun d => !nearP to d) := by
  refine takeWhile_filter ?_
  have h1 : L.Pairwise (fun a b => a ∈ L ∧ b ∈ L ∧ a.t ≤ b.t) := by
    rw [List.pairwise_iff_forall_sublist]
    intro a b hab
    exact ⟨hab.subset (by simp), hab.subset (by simp), List.pairwise_iff_forall_sublist.1 (srt_t hs) hab⟩
  refine h1.imp ?_
  rintro a b ⟨ha, hb, hab⟩ h
  unfold nearP at h ⊢
  rw [decide_eq_true_eq] at h ⊢
  exact near_mono (hL a ha) hab h
theorem far_ring {to : Nat} (L : List Du) {k : Nat} (hk : k < 6) : RK to (L.filter (nearP to)) k = RK to L k := by
  unfold RK
  rw [List.filter_filter]
  congr 1
  apply List.filter_congr
  intro d _
  rw [Bool.eq_iff_iff]
  unfold nearP
  simp only [Bool.and_eq_true, decide_eq_true_eq]
  omega
theorem far_beyond (to : Nat) (L : List Du) : L.filter (fun d => !nearP to d) = BK to L := by
  unfold BK nearP
  apply List.filter_congr
  intro d _
  have := lvl_six to d.t
  rw [Bool.eq_iff_iff]
  simp only [Bool.not_eq_true', decide_eq_false_iff_not, decide_eq_true_eq]
  omega
/-! ### the first one -/
theorem head_of {L : List Du} {h : Du} (hs : Srt L) (hm : h ∈ L) (hmin : ∀ d ∈ L, le h d) : ∃ l, L = h :: l := by
  rcases L with _ | ⟨x, l⟩
  · cases hm
  · have h1 := hmin x List.mem_cons_self
    have h2 : le x h := by
      rcases List.mem_cons.1 hm with e | e
      · rw [e]; unfold le; exact less_irrefl x
      · exact (List.pairwise_cons.1 hs).1 h e
    exact ⟨l, by rw [le_antisymm h1 h2]⟩
/-- the rings below k are empty, slots below s of ring k are empty: the first of slot s is the first of all. -/
theorem first_ring {now : Nat} {L : List Du} (hs : Srt L) (hL : ∀ d ∈ L, now ≤ d.t) {k s : Nat} (hk : k < 6) (he : ∀ j, j < k → RK now L j = []) (hz : ∀ x ∈ RK now L k, (s : Int) ≤ x.s) {h : Du} {l : List Du} (hl : listR (RK now L k) (s : Int) = h :: l) : ∃ l', L = h :: l' := by
  rw [listR_RK hs] at hl
  have hm : h ∈ L.filter (fun d => decide (lvl now d.t = k ∧ dg d.t k = s)) := by rw [hl]; exact List.mem_cons_self
  rw [List.mem_filter, decide_eq_true_eq] at hm
  refine head_of hs hm.1 fun d hd => ?_
  have hge : k ≤ lvl now d.t := Nat.le_of_not_lt fun c => by
    have := he _ c
    have hx : la (lvl now d.t) d ∈ RK now L (lvl now d.t) := List.mem_map.2 ⟨d, List.mem_filter.2 ⟨hd, by simp⟩, rfl⟩
    rw [this] at hx; cases hx
  rcases Nat.lt_or_ge k (lvl now d.t) with g | g
  · have := lvl_less (a := h.t) (hL d hd) (by omega)
    rw [le_iff]; omega
  · have ek : lvl now d.t = k := by omega
    have hx : la k d ∈ RK now L k := List.mem_map.2 ⟨d, List.mem_filter.2 ⟨hd, by simpa using ek⟩, rfl⟩
    have hsd := hz _ hx
    have hsd' : s ≤ dg d.t k := by
      have : (s : Int) ≤ ((dg d.t k : Nat) : Int) := hsd
      omega
    rcases Nat.lt_or_ge s (dg d.t k) with g2 | g2
    · have := dg_less (a := h.t) (b := d.t) hm.2.1 ek hk (by omega)
      rw [le_iff]; omega
    · have hd2 : d ∈ L.filter (fun d => decide (lvl now d.t = k ∧ dg d.t k = s)) := List.mem_filter.2 ⟨hd, by simp only [decide_eq_true_eq]; omega⟩
      have hs2 : Srt (h :: l) := by rw [← hl]; exact srt_filter hs _
      rw [hl] at hd2
      rcases List.mem_cons.1 hd2 with e | e
      · rw [e]; unfold le; exact less_irrefl h
      · exact (List.pairwise_cons.1 hs2).1 d e
theorem first_beyond {now : Nat} {L : List Du} (he : ∀ j, j < 6 → RK now L j = []) : BK now L = L := by
  unfold BK
  rw [List.filter_eq_self]
  intro d hd
  have h6 := lvl_six now d.t
  refine decide_eq_true ?_
  refine Nat.le_antisymm h6 (Nat.le_of_not_lt fun c => ?_)
  have := he _ c
  have hx : la (lvl now d.t) d ∈ RK now L (lvl now d.t) := List.mem_map.2 ⟨d, List.mem_filter.2 ⟨hd, by simp⟩, rfl⟩
  rw [this] at hx; cases hx
end VM
end Go.Proofs.YtjkhgpdhhnfmlaaDoor
