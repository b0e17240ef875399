/- Timers in order, and what lies in a ring: the document's answers as mathematics. Nothing of the program is named here. -/
namespace Go.Proofs.YtjkhgpdhhnfmlaaDoor
namespace RG

/-- a timer: its number, and when. -/
structure Du where
  id : Int
  t : Nat
  deriving DecidableEq

/-- is a ahead of b? -/
def less (a b : Du) : Bool := decide (a.t < b.t) || (decide (a.t = b.t) && decide (a.id < b.id))
theorem less_iff (a b : Du) : less a b = true ↔ a.t < b.t ∨ (a.t = b.t ∧ a.id < b.id) := by
  unfold less; simp
theorem less_false (a b : Du) : less a b = false ↔ ¬ (a.t < b.t ∨ (a.t = b.t ∧ a.id < b.id)) := by
  rw [← less_iff]; simp
theorem du_ext {a b : Du} (h1 : a.id = b.id) (h2 : a.t = b.t) : a = b := by cases a; cases b; simp_all
theorem less_irrefl (a : Du) : less a a = false := by rw [less_false]; omega
theorem less_trans {a b c : Du} (h : less a b = true) (g : less b c = true) : less a c = true := by
  rw [less_iff] at *; omega
theorem less_tri (a b : Du) : less a b = true ∨ a = b ∨ less b a = true := by
  rw [less_iff, less_iff]
  by_cases h : a.t = b.t ∧ a.id = b.id
  · exact Or.inr (Or.inl (du_ext h.2 h.1))
  · omega
/-- not behind. -/
def le (a b : Du) : Prop := less b a = false
theorem le_iff (a b : Du) : le a b ↔ a.t < b.t ∨ (a.t = b.t ∧ a.id ≤ b.id) := by unfold le; rw [less_false]; omega
theorem le_trans {a b c : Du} (h : le a b) (g : le b c) : le a c := by rw [le_iff] at *; omega
theorem le_antisymm {a b : Du} (h : le a b) (g : le b a) : a = b := by
  rw [le_iff] at *; exact du_ext (by omega) (by omega)
theorem le_of_less {a b : Du} (h : less a b = true) : le a b := by rw [less_iff] at h; rw [le_iff]; omega
theorem less_of_le {a b : Du} (h : le a b) (g : a ≠ b) : less a b = true := by
  rcases less_tri a b with h1 | h1 | h1
  · exact h1
  · exact absurd h1 g
  · unfold le at h; rw [h] at h1; cases h1

/-- in order. -/
def Srt (l : List Du) : Prop := l.Pairwise le
theorem srt_unique {l k : List Du} (hl : Srt l) (hk : Srt k) (h : l.Perm k) : l = k :=
  h.eq_of_pairwise (fun _ _ _ _ h1 h2 => le_antisymm h1 h2) hl hk

/-- how far from the front the one that is put in comes: ahead of all that are behind it, counted from the end. -/
def place (d : Du) (l : List Du) : Nat → Nat
  | 0 => 0
  | k + 1 => if less d (l.getD k d) then place d l k else k + 1
theorem place_le (d : Du) (l : List Du) (k : Nat) : place d l k ≤ k := by
  induction k with
  | zero => exact Nat.le_refl _
  | succ k ih => unfold place; split <;> omega
theorem place_behind (d : Du) (l : List Du) (k : Nat) : ∀ j, place d l k ≤ j → j < k → less d (l.getD j d) = true := by
  induction k with
  | zero => intro j _ h; omega
  | succ k ih =>
    intro j h1 h2
    unfold place at h1
    by_cases h : less d (l.getD k d) = true
    · rw [if_pos h] at h1
      rcases (by omega : j < k ∨ j = k) with g | g
      · exact ih j h1 g
      · subst g; exact h
    · rw [if_neg h] at h1; omega
theorem place_ahead (d : Du) (l : List Du) (k : Nat) (h : 0 < place d l k) : less d (l.getD (place d l k - 1) d) = false := by
  induction k with
  | zero => unfold place at h; omega
  | succ k ih =>
    unfold place at h ⊢
    by_cases g : less d (l.getD k d) = true
    · rw [if_pos g] at h ⊢; exact ih h
    · rw [if_neg g]
      simpa using g
theorem getD_at (l : List Du) (d : Du) {k : Nat} (h : k < l.length) : l.getD k d = l[k] := by simp [h]
/-- put in. -/
def put (d : Du) (l : List Du) : List Du := l.take (place d l l.length) ++ d :: l.drop (place d l l.length)
theorem put_perm (d : Du) (l : List Du) : (put d l).Perm (d :: l) := by
  unfold put
  refine List.perm_middle.trans ?_
  rw [List.take_append_drop]
theorem put_srt {d : Du} {l : List Du} (h : Srt l) : Srt (put d l) := by
  have hp := place_le d l l.length
  have hb := place_behind d l l.length
  have ha := place_ahead d l l.length
  unfold put
  generalize place d l l.length = p at *
  unfold Srt at *
  rw [List.pairwise_append, List.pairwise_cons]
  have h' := h
  rw [← List.take_append_drop p l, List.pairwise_append] at h'
  obtain ⟨h1, h2, h3⟩ := h'
  have front : ∀ x ∈ l.take p, le x d := by
    intro x hx
    rw [List.mem_take_iff_getElem] at hx
    obtain ⟨j, hj, rfl⟩ := hx
    have hq := ha (by omega)
    have hpl : p - 1 < l.length := by omega
    rw [getD_at l d hpl] at hq
    rcases (by omega : j < p - 1 ∨ j = p - 1) with g | g
    · exact le_trans (List.pairwise_iff_getElem.1 h j (p - 1) (by omega) hpl g) hq
    · subst g; exact hq
  have back : ∀ x ∈ l.drop p, le d x := by
    intro x hx
    rw [List.mem_drop_iff_getElem] at hx
    obtain ⟨j, hj, rfl⟩ := hx
    have hq := hb (p + j) (by omega) (by omega)
    rw [getD_at l d (by omega : p + j < l.length)] at hq
    have := le_of_less hq
    simpa [Nat.add_comm] using this
  refine ⟨h1, ⟨back, h2⟩, fun x hx y hy => ?_⟩
  rcases List.mem_cons.1 hy with rfl | hy
  · exact front x hx
  · exact h3 x hx y hy
/-- all put in, one behind the other. -/
def sort (l : List Du) : List Du := l.foldl (fun o d => put d o) []
theorem sort_snoc (l : List Du) (d : Du) : sort (l ++ [d]) = put d (sort l) := by unfold sort; rw [List.foldl_append]; rfl
theorem sort_go (l o : List Du) (h : Srt o) : Srt (l.foldl (fun o d => put d o) o) ∧ (l.foldl (fun o d => put d o) o).Perm (o ++ l) := by
  induction l generalizing o with
  | nil => exact ⟨h, by simp⟩
  | cons d l ih =>
    obtain ⟨h1, h2⟩ := ih (put d o) (put_srt h)
    refine ⟨h1, h2.trans ?_⟩
    refine ((put_perm d o).append_right l).trans ?_
    rw [List.cons_append]
    exact List.perm_middle.symm
theorem sort_srt (l : List Du) : Srt (sort l) := (sort_go l [] List.Pairwise.nil).1
theorem sort_perm (l : List Du) : (sort l).Perm l := (sort_go l [] List.Pairwise.nil).2
/-- what is in order and holds the same is what the document says. -/
theorem sort_is {l k : List Du} (h : Srt k) (g : k.Perm l) : sort l = k := srt_unique (sort_srt l) h ((sort_perm l).trans g.symm)
theorem sort_len (l : List Du) : (sort l).length = l.length := (sort_perm l).length_eq
theorem sort_congr {l k : List Du} (h : l.Perm k) : sort l = sort k := sort_is (sort_srt k) ((sort_perm k).trans h.symm)

/-! ### a ring -/
/-- a timer in a slot. -/
structure La where
  s : Int
  d : Du
  deriving DecidableEq
def ids (r : List La) : List Int := r.map (fun x => x.d.id)
/-- has the ring the number? -/
def hasId (r : List La) (i : Int) : Bool := r.any (fun x => decide (x.d.id = i))
theorem hasId_iff (r : List La) (i : Int) : hasId r i = true ↔ i ∈ ids r := by
  unfold hasId ids; simp only [List.any_eq_true, decide_eq_true_eq, List.mem_map]
def slotB (s : Int) : Bool := decide (0 ≤ s ∧ s < 64)
def putB (r : List La) (s : Int) (d : Du) : Bool := slotB s && !hasId r d.id
def putR (r : List La) (s : Int) (d : Du) : List La := if putB r s d then r ++ [⟨s, d⟩] else r
def dropR (r : List La) (i : Int) : List La := r.filter (fun x => decide (x.d.id ≠ i))
def dropO (r : List La) (i : Int) : Option Int := (r.find? (fun x => decide (x.d.id = i))).map (·.s)
def inSlot (r : List La) (s : Int) : List Du := (r.filter (fun x => decide (x.s = s))).map (·.d)
def listR (r : List La) (s : Int) : List Du := sort (inSlot r s)
def takeR (r : List La) (s : Int) : List La := r.filter (fun x => decide (x.s ≠ s))
/-- each number once, each in a slot. -/
structure Good (r : List La) : Prop where
  once : (ids r).Nodup
  slot : ∀ x ∈ r, 0 ≤ x.s ∧ x.s < 64
theorem Good.nil : Good [] := ⟨List.Pairwise.nil, fun _ h => by cases h⟩
theorem Good.putR {r : List La} (h : Good r) (s : Int) (d : Du) : Good (putR r s d) := by
  unfold RG.putR
  split
  · rename_i hb
    unfold putB slotB at hb
    rw [Bool.and_eq_true, decide_eq_true_eq, Bool.not_eq_true'] at hb
    refine ⟨?_, fun x hx => ?_⟩
    · unfold ids
      rw [List.map_append, List.nodup_append]
      refine ⟨h.once, by simp, fun a ha b hb' => ?_⟩
      simp only [List.map_cons, List.map_nil, List.mem_singleton] at hb'
      subst hb'
      intro e
      subst e
      have := (hasId_iff r d.id).2 ha
      rw [hb.2] at this; cases this
    · rcases List.mem_append.1 hx with g | g
      · exact h.slot x g
      · rw [List.mem_singleton] at g; subst g; exact hb.1
  · exact h
theorem Good.filter {r : List La} (h : Good r) (p : La → Bool) : Good (r.filter p) :=
  ⟨h.once.sublist ((List.filter_sublist).map _), fun x hx => h.slot x (List.mem_filter.1 hx).1⟩
theorem Good.dropR {r : List La} (h : Good r) (i : Int) : Good (dropR r i) := h.filter _
theorem Good.takeR {r : List La} (h : Good r) (s : Int) : Good (takeR r s) := h.filter _
/-- a number is at one place alone. -/
theorem Good.inj {r : List La} (h : Good r) {j k : Nat} (hj : j < r.length) (hk : k < r.length) (e : r[j].d.id = r[k].d.id) : j = k := by
  have hn := h.once
  unfold List.Nodup ids at hn
  rw [List.pairwise_map, List.pairwise_iff_getElem] at hn
  rcases Nat.lt_trichotomy j k with g | g | g
  · exact absurd e (hn j k hj hk g)
  · exact g
  · exact absurd e.symm (hn k j hk hj g)
theorem hasId_at {r : List La} {k : Nat} (hk : k < r.length) : hasId r r[k].d.id = true := by
  rw [hasId_iff]; unfold ids; exact List.mem_map.2 ⟨r[k], List.getElem_mem hk, rfl⟩
theorem hasId_no {r : List La} {i : Int} (h : ∀ j (hj : j < r.length), r[j].d.id ≠ i) : hasId r i = false := by
  rcases e : hasId r i with _ | _
  · rfl
  · rw [hasId_iff] at e
    unfold ids at e
    obtain ⟨x, hx, e2⟩ := List.mem_map.1 e
    obtain ⟨j, hj, rfl⟩ := List.mem_iff_getElem.1 hx
    exact absurd e2 (h j hj)
theorem dropO_at {r : List La} {k : Nat} (hk : k < r.length) (h : ∀ j (hj : j < k), r[j].d.id ≠ r[k].d.id) : dropO r r[k].d.id = some r[k].s := by
  unfold dropO
  rw [List.find?_eq_some_iff_getElem.2 ⟨by simp, k, hk, rfl, fun j hj => by simpa using h j hj⟩]
  rfl
theorem dropO_no {r : List La} {i : Int} (h : hasId r i = false) : dropO r i = none := by
  unfold dropO
  rw [List.find?_eq_none.2 fun x hx => ?_]
  · rfl
  · intro e
    have : hasId r i = true := List.any_eq_true.2 ⟨x, hx, e⟩
    rw [h] at this; cases this
theorem dropR_no {r : List La} {i : Int} (h : hasId r i = false) : dropR r i = r := by
  unfold dropR
  rw [List.filter_eq_self]
  intro x hx
  rw [decide_eq_true_eq]
  intro e
  have : hasId r i = true := List.any_eq_true.2 ⟨x, hx, decide_eq_true e⟩
  rw [h] at this; cases this
theorem dropR_at {r : List La} (g : Good r) {k : Nat} (hk : k < r.length) : dropR r r[k].d.id = r.take k ++ r.drop (k + 1) := by
  unfold dropR
  have e : r = r.take k ++ r[k] :: r.drop (k + 1) := by rw [← List.drop_eq_getElem_cons hk, List.take_append_drop]
  have f1 : (r.take k).filter (fun x => decide (x.d.id ≠ r[k].d.id)) = r.take k := by
    rw [List.filter_eq_self]
    intro x hx
    obtain ⟨j, hj, rfl⟩ := List.mem_take_iff_getElem.1 hx
    rw [decide_eq_true_eq]
    intro e2
    have := g.inj (by omega) hk e2
    omega
  have f2 : (r.drop (k + 1)).filter (fun x => decide (x.d.id ≠ r[k].d.id)) = r.drop (k + 1) := by
    rw [List.filter_eq_self]
    intro x hx
    obtain ⟨j, hj, rfl⟩ := List.mem_drop_iff_getElem.1 hx
    rw [decide_eq_true_eq]
    intro e2
    have := g.inj (by omega) hk e2
    omega
  conv => lhs; arg 2; rw [e]
  rw [List.filter_append, List.filter_cons, f1, f2]
  simp
theorem inSlot_put (r : List La) (s s' : Int) (d : Du) : inSlot (r ++ [⟨s, d⟩]) s' = if s = s' then inSlot r s' ++ [d] else inSlot r s' := by
  unfold inSlot
  rw [List.filter_append, List.map_append]
  by_cases h : s = s'
  · simp [h]
  · simp [h]
theorem inSlot_take (r : List La) (s s' : Int) : inSlot (takeR r s) s' = if s = s' then [] else inSlot r s' := by
  unfold inSlot takeR
  rw [List.filter_filter]
  by_cases h : s = s'
  · subst h
    rw [if_pos rfl, List.filter_eq_nil_iff.2]
    · rfl
    · intro x _; simp
  · rw [if_neg h]
    congr 1
    apply List.filter_congr
    intro x _
    by_cases g : x.s = s'
    · subst g; simp [Ne.symm h]
    · simp [g]
theorem inSlot_drop (r : List La) (i s : Int) : inSlot (dropR r i) s = (inSlot r s).filter (fun d => decide (d.id ≠ i)) := by
  unfold inSlot dropR
  rw [List.filter_filter, List.filter_map, List.filter_filter]
  congr 1
  apply List.filter_congr
  intro x _
  simp [Bool.and_comm]
theorem listR_put {r : List La} {s : Int} {d : Du} : listR (r ++ [⟨s, d⟩]) s = put d (listR r s) := by
  unfold listR
  rw [inSlot_put, if_pos rfl, sort_snoc]
theorem srt_filter {l : List Du} (h : Srt l) (p : Du → Bool) : Srt (l.filter p) := List.Pairwise.filter p h
theorem sort_filter (l : List Du) (p : Du → Bool) : sort (l.filter p) = (sort l).filter p :=
  sort_is (srt_filter (sort_srt l) p) ((sort_perm l).filter p)
theorem listR_drop (r : List La) (i s : Int) : listR (dropR r i) s = (listR r s).filter (fun d => decide (d.id ≠ i)) := by
  unfold listR; rw [inSlot_drop, sort_filter]
theorem listR_take (r : List La) (s s' : Int) : listR (takeR r s) s' = if s = s' then [] else listR r s' := by
  unfold listR; rw [inSlot_take]; split <;> rfl
end RG
end Go.Proofs.YtjkhgpdhhnfmlaaDoor
