/- Plans: timers in order, each number once; what the document's Good, Insert, Cancel, Split say of lists. Nothing of the program is named here. -/
import Derived.Test.YtjkhgpdhhnfmlaaRg
namespace Go.Proofs.Ytjkhgpdhhnfmlaa
namespace PM
open RG

def ids (l : List Du) : List Int := l.map (·.id)
/-- in order, and each number once. -/
def Gd (l : List Du) : Prop := Srt l ∧ (ids l).Nodup
theorem ids_app (l k : List Du) : ids (l ++ k) = ids l ++ ids k := by unfold ids; exact List.map_append
theorem mem_ids {l : List Du} {i : Int} : i ∈ ids l ↔ ∃ d ∈ l, d.id = i := by unfold ids; rw [List.mem_map]
/-- neighbours in order: all in order. -/
theorem srt_adj {l : List Du} (h : ∀ j (g : j + 1 < l.length), le (l[j]'(by omega)) l[j + 1]) : Srt l := by
  unfold Srt
  rw [List.pairwise_iff_getElem]
  intro i j hi hj hij
  obtain ⟨k, rfl⟩ : ∃ k, j = i + 1 + k := ⟨j - i - 1, by omega⟩
  clear hij
  induction k with
  | zero => exact h i (by omega)
  | succ k ih => exact le_trans (ih (by omega)) (h (i + 1 + k) (by omega))
theorem srt_at {l : List Du} (h : Srt l) {i j : Nat} (hj : j < l.length) (hij : i < j) : le (l[i]'(by omega)) l[j] :=
  List.pairwise_iff_getElem.1 h i j (by omega) hj hij
theorem not_srt {l : List Du} {j : Nat} (g : j + 1 < l.length) (h : less l[j + 1] (l[j]'(by omega)) = true) : ¬ Srt l := fun s => by
  have := srt_at s g (Nat.lt_succ_self j)
  unfold le at this
  rw [this] at h
  cases h
/-- each number once, as far as k. -/
theorem ids_take_succ {l : List Du} {k : Nat} (h : k < l.length) : ids (l.take (k + 1)) = ids (l.take k) ++ [l[k].id] := by
  rw [List.take_add_one, ids_app, List.getElem?_eq_getElem h]; rfl
theorem nodup_take {l : List Du} (h : (ids l).Nodup) (k : Nat) : (ids (l.take k)).Nodup := h.sublist ((List.take_sublist k l).map _)
theorem nodup_step {l : List Du} {k : Nat} (h : k < l.length) (g : (ids (l.take k)).Nodup) (n : l[k].id ∉ ids (l.take k)) : (ids (l.take (k + 1))).Nodup := by
  rw [ids_take_succ h, List.nodup_append]
  refine ⟨g, List.nodup_cons.2 ⟨by simp, List.nodup_nil⟩, fun a ha b hb e => ?_⟩
  rw [List.mem_singleton] at hb
  subst hb
  subst e
  exact n ha
theorem nodup_not {l : List Du} {k : Nat} (h : k < l.length) (n : l[k].id ∈ ids (l.take k)) : ¬ (ids l).Nodup := fun g => by
  have := nodup_take g (k + 1)
  rw [ids_take_succ h, List.nodup_append] at this
  exact this.2.2 _ n _ (List.mem_singleton.2 rfl) rfl
theorem nodup_at {l : List Du} (h : (ids l).Nodup) {i j : Nat} (hi : i < l.length) (hj : j < l.length) (e : l[i].id = l[j].id) : i = j := by
  unfold ids List.Nodup at h
  rw [List.pairwise_map, List.pairwise_iff_getElem] at h
  rcases Nat.lt_trichotomy i j with g | g | g
  · exact absurd e (h i j hi hj g)
  · exact g
  · exact absurd e.symm (h j i hj hi g)
/-- strictly in order, and each number once: Good as the document has it. -/
theorem gd_strict {l : List Du} : Gd l ↔ (∀ j (g : j + 1 < l.length), less (l[j]'(by omega)) l[j + 1] = true) ∧ (ids l).Nodup := by
  constructor
  · intro h
    refine ⟨fun j g => less_of_le (srt_at h.1 g (Nat.lt_succ_self j)) (fun e => ?_), h.2⟩
    have := nodup_at h.2 (by omega : j < l.length) g (by rw [e])
    omega
  · intro h
    exact ⟨srt_adj fun j g => le_of_less (h.1 j g), h.2⟩

/-- the place of the first timer of that number; -1. -/
def fx : List Du → Int → Int
  | [], _ => -1
  | d :: l, i => if d.id = i then 0 else (if fx l i = -1 then -1 else fx l i + 1)
theorem fx_or (l : List Du) (i : Int) : (fx l i = -1 ∧ i ∉ ids l) ∨ ∃ k : Nat, ∃ h : k < l.length, fx l i = k ∧ l[k].id = i ∧ ∀ j (g : j < k), (l[j]'(by omega)).id ≠ i := by
  induction l with
  | nil => exact Or.inl ⟨rfl, by simp [ids]⟩
  | cons d l ih =>
    by_cases e : d.id = i
    · right
      refine ⟨0, by simp, ?_, e, fun j g => by omega⟩
      simp [fx, e]
    · rcases ih with ⟨h1, h2⟩ | ⟨k, hk, h1, h2, h3⟩
      · left
        refine ⟨by simp [fx, e, h1], ?_⟩
        unfold ids at *
        simp only [List.map_cons, List.mem_cons, not_or]
        exact ⟨fun c => e c.symm, h2⟩
      · right
        refine ⟨k + 1, by simpa using hk, ?_, by simpa using h2, fun j g => ?_⟩
        · have : ¬ ((k : Int) = -1) := by omega
          simp [fx, e, h1, this]
        · cases j with
          | zero => simpa using e
          | succ j => simpa using h3 j (by omega)
theorem fx_at {l : List Du} {i : Int} {k : Nat} (h : k < l.length) (e : l[k].id = i) (f : ∀ j (g : j < k), (l[j]'(by omega)).id ≠ i) : fx l i = k := by
  rcases fx_or l i with ⟨_, h2⟩ | ⟨m, hm, h1, h2, h3⟩
  · exact absurd (mem_ids.2 ⟨l[k], List.getElem_mem h, e⟩) h2
  · rcases Nat.lt_trichotomy m k with g | g | g
    · exact absurd h2 (f m g)
    · rw [h1, g]
    · exact absurd e (h3 k g)
theorem fx_no {l : List Du} {i : Int} (f : ∀ j (g : j < l.length), l[j].id ≠ i) : fx l i = -1 := by
  rcases fx_or l i with ⟨h, _⟩ | ⟨m, hm, h1, h2, h3⟩
  · exact h
  · exact absurd h2 (f m hm)
theorem fx_neg {l : List Du} {i : Int} : fx l i < 0 ↔ i ∉ ids l := by
  rcases fx_or l i with ⟨h, g⟩ | ⟨m, hm, h1, h2, _⟩
  · exact ⟨fun _ => g, fun _ => by omega⟩
  · exact ⟨fun c => by omega, fun c => absurd (mem_ids.2 ⟨_, List.getElem_mem hm, h2⟩) c⟩
/-- without that number. -/
def del (i : Int) (l : List Du) : List Du := l.filter (fun d => decide (d.id ≠ i))
theorem cut_del {l : List Du} (h : (ids l).Nodup) {k : Nat} (hk : k < l.length) {i : Int} (e : l[k].id = i) : l.take k ++ l.drop (k + 1) = del i l := by
  have h1 : l = l.take k ++ l[k] :: l.drop (k + 1) := by rw [List.getElem_cons_drop hk, List.take_append_drop]
  have hn := h
  rw [h1, ids_app] at hn
  unfold ids at hn
  rw [List.map_cons, List.nodup_append, List.nodup_cons] at hn
  obtain ⟨_, ⟨n1, _⟩, n2⟩ := hn
  have a : (l.take k).filter (fun d => decide (d.id ≠ i)) = l.take k := by
    rw [List.filter_eq_self]
    intro d hd
    simp only [ne_eq, decide_not, Bool.not_eq_eq_eq_not, Bool.not_true, decide_eq_false_iff_not]
    exact fun c => n2 d.id (List.mem_map.2 ⟨d, hd, rfl⟩) l[k].id List.mem_cons_self (c.trans e.symm)
  have b : (l.drop (k + 1)).filter (fun d => decide (d.id ≠ i)) = l.drop (k + 1) := by
    rw [List.filter_eq_self]
    intro d hd
    simp only [ne_eq, decide_not, Bool.not_eq_eq_eq_not, Bool.not_true, decide_eq_false_iff_not]
    exact fun c => n1 (List.mem_map.2 ⟨d, hd, c.trans e.symm⟩)
  unfold del
  conv => rhs; rw [h1]
  rw [List.filter_append, List.filter_cons, if_neg (by simp [e]), a, b]
theorem gd_filter {l : List Du} (h : Gd l) (p : Du → Bool) : Gd (l.filter p) :=
  ⟨List.Pairwise.sublist List.filter_sublist h.1, h.2.sublist ((List.filter_sublist).map _)⟩
theorem gd_nil : Gd [] := ⟨List.Pairwise.nil, List.nodup_nil⟩
theorem ids_perm {l k : List Du} (h : l.Perm k) : (ids l).Perm (ids k) := h.map _
theorem gd_put {l : List Du} {d : Du} (h : Gd l) (n : d.id ∉ ids l) : Gd (put d l) :=
  ⟨put_srt h.1, (ids_perm (put_perm d l)).nodup_iff.2 (List.nodup_cons.2 ⟨n, h.2⟩)⟩
theorem sort_self {l : List Du} (h : Srt l) : sort l = l := sort_is h (List.Perm.refl _)
theorem sort_put {l : List Du} {d : Du} (h : Srt l) : sort (l ++ [d]) = put d l := by rw [sort_snoc, sort_self h]
theorem gd_sort (l : List Du) : Gd (sort l) ↔ (ids l).Nodup :=
  ⟨fun h => (ids_perm (sort_perm l)).nodup_iff.1 h.2, fun h => ⟨sort_srt l, (ids_perm (sort_perm l)).nodup_iff.2 h⟩⟩
/-- cut at a time. -/
def upto (t : Nat) (l : List Du) : List Du := l.filter (fun d => decide (d.t ≤ t))
def past (t : Nat) (l : List Du) : List Du := l.filter (fun d => !decide (d.t ≤ t))
theorem upto_snoc (t : Nat) (l : List Du) (d : Du) : upto t (l ++ [d]) = if d.t ≤ t then upto t l ++ [d] else upto t l := by
  unfold upto; rw [List.filter_append]
  by_cases h : d.t ≤ t <;> simp [h]
theorem past_snoc (t : Nat) (l : List Du) (d : Du) : past t (l ++ [d]) = if d.t ≤ t then past t l else past t l ++ [d] := by
  unfold past; rw [List.filter_append]
  by_cases h : d.t ≤ t <;> simp [h]
theorem upto_len (t : Nat) (l : List Du) : (upto t l).length + (past t l).length = l.length := by
  induction l with
  | nil => rfl
  | cons d l ih =>
    unfold upto past at *
    by_cases h : d.t ≤ t
    · simp [h]; omega
    · simp [h]; omega
/-- sorted: what is due lies ahead of the rest. -/
theorem upto_app {l : List Du} (h : Srt l) (t : Nat) : upto t l ++ past t l = l := by
  induction l with
  | nil => rfl
  | cons d l ih =>
    have hs := (List.pairwise_cons.1 h)
    have ih := ih hs.2
    unfold upto past at *
    by_cases g : d.t ≤ t
    · simp [g, ih]
    · have e1 : l.filter (fun d => decide (d.t ≤ t)) = [] := by
        rw [List.filter_eq_nil_iff]
        intro x hx
        have := (le_iff _ _).1 (hs.1 x hx)
        simp; omega
      rw [e1] at ih
      rw [List.nil_append] at ih
      rw [List.filter_cons, if_neg (by simpa using g), List.filter_cons, if_pos (by simpa using g), e1, ih]
      rfl
/-- cut at two times. -/
theorem past_past {x y : Nat} (h : x ≤ y) (l : List Du) : past y (past x l) = past y l := by
  unfold past
  rw [List.filter_filter]
  apply List.filter_congr
  intro d _
  by_cases g : d.t ≤ y
  · simp [g]
  · have : ¬ d.t ≤ x := by omega
    simp [g, this]
theorem upto_two {x y : Nat} (h : x ≤ y) (l : List Du) : (upto x l).length + (upto y (past x l)).length = (upto y l).length := by
  induction l with
  | nil => rfl
  | cons d l ih =>
    unfold upto past at *
    by_cases g : d.t ≤ x
    · have : d.t ≤ y := by omega
      simp [g, this] at *; omega
    · by_cases g' : d.t ≤ y
      · simp [g, g'] at *; omega
      · simp [g, g'] at *; omega
theorem upto_both {l : List Du} (hs : Srt l) {x y : Nat} (h : x ≤ y) : upto x l ++ upto y (past x l) = upto y l := by
  induction l with
  | nil => rfl
  | cons d l ih =>
    have hs := (List.pairwise_cons.1 hs)
    have ih := ih hs.2
    by_cases g : d.t ≤ x
    · have g' : d.t ≤ y := by omega
      unfold upto past at *
      simp [g, g'] at *
      exact ih
    · have e1 : upto x (d :: l) = [] := by
        unfold upto
        rw [List.filter_eq_nil_iff]
        intro z hz
        rcases List.mem_cons.1 hz with rfl | hz
        · simpa using g
        · have := (le_iff _ _).1 (hs.1 z hz)
          simp; omega
      have e2 : past x (d :: l) = d :: l := by
        have := upto_app (List.pairwise_cons.2 hs) x
        rw [e1, List.nil_append] at this
        exact this
      rw [e1, e2]; rfl
end PM
end Go.Proofs.Ytjkhgpdhhnfmlaa
