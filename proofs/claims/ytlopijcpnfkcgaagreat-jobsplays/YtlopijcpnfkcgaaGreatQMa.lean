/- Waiting jobs: their turns, which of two is ahead, which of some is first, how many are ahead, and why one of them is served within the bound; nothing of the program is named here. -/
import Derived.WalkKit
namespace Go.Proofs.YtlopijcpnfkcgaaGreat
namespace QQ

/-- a waiting job. -/
structure Wt where
  id : Int
  cl : Int
  ca : Int
instance wtInhabited : Inhabited Wt := ⟨⟨0, 0, 0⟩⟩
theorem Wt.ext' {x y : Wt} (h1 : x.id = y.id) (h2 : x.cl = y.cl) (h3 : x.ca = y.ca) : x = y := by
  cases x; cases y; simp at h1 h2 h3; simp [h1, h2, h3]

def gd (x : Wt) : Bool := decide (0 ≤ x.cl ∧ x.cl < 8 ∧ 0 ≤ x.ca ∧ x.ca ≤ 1099511627776)
def trn (a : Int) (x : Wt) : Int := if gd x = true ∧ 1 ≤ a ∧ a ≤ 1000 then x.ca + a * x.cl else 0
def les (a : Int) (x y : Wt) : Bool := decide (trn a x < trn a y ∨ (trn a x = trn a y ∧ x.id < y.id))
def lim (n lo hi : Int) : Int := min (max n lo) hi
def bnd (a r : Int) : Int := lim a 1 1000 * 8 + lim r 0 1000

theorem gd_of {x : Wt} (h1 : 0 ≤ x.cl) (h2 : x.cl < 8) (h3 : 0 ≤ x.ca) (h4 : x.ca ≤ 1099511627776) : gd x = true := by unfold gd; simp [h1, h2, h3, h4]
theorem trn_of {a : Int} {x : Wt} (h : gd x = true) (h1 : 1 ≤ a) (h2 : a ≤ 1000) : trn a x = x.ca + a * x.cl := by unfold trn; rw [if_pos ⟨h, h1, h2⟩]
theorem les_irr (a : Int) (x : Wt) : les a x x = false := by unfold les; simp
theorem les_t {a : Int} {x y : Wt} : les a x y = true ↔ (trn a x < trn a y ∨ (trn a x = trn a y ∧ x.id < y.id)) := by unfold les; simp
theorem les_f {a : Int} {x y : Wt} : les a x y = false ↔ ¬ (trn a x < trn a y ∨ (trn a x = trn a y ∧ x.id < y.id)) := by unfold les; simp
theorem les_trans {a : Int} {x y z : Wt} (h : les a x y = true) (g : les a y z = true) : les a x z = true := by rw [les_t] at *; omega
theorem les_asym {a : Int} {x y : Wt} (h : les a x y = true) : les a y x = false := by rw [les_t] at h; rw [les_f]; omega
theorem les_tot {a : Int} {x y : Wt} (h : les a x y = false) (hn : x.id ≠ y.id) : les a y x = true := by rw [les_f] at h; rw [les_t]; omega
theorem les_neg {a : Int} {x y z : Wt} (h : les a y x = false) (g : les a z y = false) : les a z x = false := by rw [les_f] at *; omega

/-! ### the first of some -/
def scan (a : Int) (l : List Wt) : Nat → Int
  | 0 => -1
  | k + 1 => if scan a l k < 0 then k else if les a (l.getD k default) (l.getD (scan a l k).toNat default) = true then k else scan a l k
theorem getD_at {l : List Wt} {k : Nat} (h : k < l.length) : l.getD k default = l[k] := by simp [List.getD, h]
theorem scan_spec (a : Int) (l : List Wt) (k : Nat) (hk : k ≤ l.length) : (k = 0 ∧ scan a l k = -1) ∨ ∃ j : Nat, scan a l k = j ∧ j < k ∧ (∀ i (hi : i < l.length), i < k → ∀ hj : j < l.length, les a l[i] l[j] = false) ∧ (∀ i (hi : i < l.length), i < j → ∀ hj : j < l.length, les a l[j] l[i] = true) := by
  induction k with
  | zero => exact Or.inl ⟨rfl, rfl⟩
  | succ k ih =>
    right
    rcases ih (by omega) with ⟨rfl, e⟩ | ⟨j, e, hjk, h1, h2⟩
    · refine ⟨0, by simp [scan], by omega, fun i hi hik hj => ?_, fun i hi hij => by omega⟩
      obtain rfl : i = 0 := by omega
      exact les_irr _ _
    · have hkl : k < l.length := by omega
      have hjl : j < l.length := by omega
      have e0 : ¬ scan a l k < 0 := by omega
      have ej : (scan a l k).toNat = j := by omega
      by_cases hb : les a l[k] l[j] = true
      · refine ⟨k, ?_, by omega, fun i hi hik hk' => ?_, fun i hi hij _ => ?_⟩
        · simp only [scan, e0, if_false, ej, getD_at hkl, getD_at hjl, hb, if_true]
        · rcases (by omega : i < k ∨ i = k) with g | g
          · exact les_neg (les_asym hb) (h1 i hi g hjl)
          · subst g; exact les_irr _ _
        · rcases (by omega : i < j ∨ j ≤ i) with g | g
          · exact les_trans hb (h2 i hi g hjl)
          · cases hc : les a l[k] l[i] with
            | true => rfl
            | false => have := les_neg (h1 i hi (by omega) hjl) hc; rw [this] at hb; cases hb
      · refine ⟨j, ?_, by omega, fun i hi hik hj => ?_, fun i hi hij hj => h2 i hi hij hj⟩
        · simp only [scan, e0, if_false, ej, getD_at hkl, getD_at hjl, hb]; exact e
        · rcases (by omega : i < k ∨ i = k) with g | g
          · exact h1 i hi g hj
          · subst g; simpa using hb
/-- the first: nobody is ahead of it, and it is ahead of all that stand before it. -/
structure Fst (a : Int) (l : List Wt) (j : Nat) : Prop where
  lt : j < l.length
  no : ∀ i (hi : i < l.length), les a l[i] (l[j]'lt) = false
  be : ∀ i (hi : i < l.length), i < j → les a (l[j]'lt) l[i] = true
def frs (a : Int) (l : List Wt) : Int := scan a l l.length
theorem frs_nil (a : Int) : frs a [] = -1 := rfl
theorem frs_spec (a : Int) {l : List Wt} (h : 0 < l.length) : ∃ j : Nat, frs a l = j ∧ Fst a l j := by
  rcases scan_spec a l l.length (Nat.le_refl _) with ⟨h0, _⟩ | ⟨j, e, hj, h1, h2⟩
  · omega
  · exact ⟨j, e, hj, fun i hi => h1 i hi hi hj, fun i hi hij => h2 i hi hij hj⟩
theorem Fst.one {a : Int} {l : List Wt} {j k : Nat} (h : Fst a l j) (g : Fst a l k) : j = k := by
  rcases (by omega : j < k ∨ j = k ∨ k < j) with c | c | c
  · have h1 := g.be j h.lt c
    have h2 := h.no k g.lt
    rw [h2] at h1; cases h1
  · exact c
  · have h1 := h.be k g.lt c
    have h2 := g.no j h.lt
    rw [h2] at h1; cases h1
theorem frs_of {a : Int} {l : List Wt} {j : Nat} (h : Fst a l j) : frs a l = j := by
  obtain ⟨k, e, g⟩ := frs_spec a (l := l) (by have := h.lt; omega)
  rw [e, h.one g]
/-! ### how many are ahead -/
def ahd (a : Int) (x : Wt) (l : List Wt) : Nat := l.countP (fun y => les a y x)
theorem ahd_le (a : Int) (x : Wt) (l : List Wt) : ahd a x l ≤ l.length := List.countP_le_length
theorem ahd_snoc (a : Int) (x y : Wt) (l : List Wt) : ahd a x (l ++ [y]) = if les a y x = true then ahd a x l + 1 else ahd a x l := by
  unfold ahd
  rw [List.countP_append, List.countP_singleton]
  split <;> rfl
theorem ahd_take {a : Int} {x : Wt} {l : List Wt} {k : Nat} (h : k < l.length) : ahd a x (l.take (k + 1)) = if les a l[k] x = true then ahd a x (l.take k) + 1 else ahd a x (l.take k) := by
  rw [List.take_succ_eq_append_getElem h]; exact ahd_snoc _ _ _ _
theorem ahd_zero {a : Int} {x : Wt} {l : List Wt} (h : ahd a x l = 0) {y : Wt} (hy : y ∈ l) : les a y x = false := by
  unfold ahd at h
  rw [List.countP_eq_zero] at h
  simpa using h y hy
theorem ahd_of_none {a : Int} {x : Wt} {l : List Wt} (h : ∀ y ∈ l, les a y x = false) : ahd a x l = 0 := by
  unfold ahd
  rw [List.countP_eq_zero]
  intro y hy
  simp [h y hy]
theorem ahd_lt {a : Int} {x : Wt} {l : List Wt} (h : x ∈ l) : ahd a x l < l.length := by
  induction l with
  | nil => cases h
  | cons y l ih =>
    unfold ahd at ih ⊢
    rw [List.countP_cons, List.length_cons]
    rcases List.mem_cons.1 h with rfl | g
    · rw [les_irr]
      have : List.countP (fun y => les a y x) l ≤ l.length := List.countP_le_length
      simp; omega
    · have := ih g
      split <;> omega
theorem countP_less {p q : Wt → Bool} {l : List Wt} (h : ∀ y ∈ l, p y = true → q y = true) : l.countP p ≤ l.countP q := by
  induction l with
  | nil => exact Nat.le_refl _
  | cons y l ih =>
    have := ih (fun z hz => h z (List.mem_cons_of_mem _ hz))
    have h0 := h y List.mem_cons_self
    rw [List.countP_cons, List.countP_cons]
    cases hp : p y <;> cases hq : q y <;> simp_all <;> omega
theorem countP_lt {p q : Wt → Bool} {l : List Wt} (h : ∀ y ∈ l, p y = true → q y = true) {z : Wt} (hz : z ∈ l) (h1 : q z = true) (h2 : p z = false) : l.countP p < l.countP q := by
  induction l with
  | nil => cases hz
  | cons y l ih =>
    have h0 := h y List.mem_cons_self
    have h' : ∀ y ∈ l, p y = true → q y = true := fun z hz => h z (List.mem_cons_of_mem _ hz)
    rw [List.countP_cons, List.countP_cons]
    rcases List.mem_cons.1 hz with rfl | g
    · have := countP_less h'
      simp [h1, h2]; omega
    · have := ih h' g
      cases hp : p y <;> cases hq : q y <;> simp_all <;> omega
theorem ahd_mono {a : Int} {x y : Wt} {l : List Wt} (h : les a x y = true) (hx : x ∈ l) : ahd a x l < ahd a y l :=
  countP_lt (fun _ _ g => les_trans g h) hx h (les_irr a x)
theorem ahd_inj {a : Int} {x y : Wt} {l : List Wt} (hx : x ∈ l) (hy : y ∈ l) (hn : x.id ≠ y.id) : ahd a x l ≠ ahd a y l := by
  cases h : les a x y with
  | true => have := ahd_mono h hx; omega
  | false => have := ahd_mono (les_tot h hn) hy; omega
/-- the document's first is the program's. -/
theorem fst_of_none {a : Int} {l : List Wt} {j : Nat} (hj : j < l.length) (h : ahd a l[j] l = 0) (hb : ∀ i (hi : i < l.length), i < j → ahd a l[i] l ≠ 0) : Fst a l j := by
  refine ⟨hj, fun i hi => ahd_zero h (List.getElem_mem hi), fun i hi hij => ?_⟩
  cases hc : les a l[j] l[i] with
  | true => rfl
  | false => exact absurd (ahd_of_none fun y hy => les_neg hc (ahd_zero h hy)) (hb i hi hij)
theorem Fst.none {a : Int} {l : List Wt} {j : Nat} (h : Fst a l j) : ahd a (l[j]'h.lt) l = 0 := by
  refine ahd_of_none fun y hy => ?_
  obtain ⟨i, hi, rfl⟩ := List.getElem_of_mem hy
  exact h.no i hi
/-! ### served within the bound -/
structure Inv (a : Int) (room c0 : Nat) (x : Wt) (count : Nat) (l : List Wt) : Prop where
  len : l.length ≤ room
  mem : x ∈ l
  zero : ∀ y ∈ l, y.id = 0 → y = x
  ah : ahd a x l + (count - c0) + 1 ≤ room
theorem Inv.start {a : Int} {room c0 : Nat} {x : Wt} (h : 1 ≤ room) : Inv a room c0 x 0 [x] :=
  ⟨by simpa using h, by simp, fun y hy _ => by simpa using hy, by
    have : ahd a x [x] = 0 := ahd_of_none fun y hy => by rw [List.mem_singleton.1 hy]; exact les_irr a x
    omega⟩
theorem Inv.add {a : Int} {room c0 : Nat} {x : Wt} {count : Nat} {l : List Wt} (h : Inv a room c0 x count l) (hl : l.length < room) (y : Wt) (hy : y.id ≠ 0) (hn : c0 ≤ count → les a y x = false) : Inv a room c0 x count (l ++ [y]) := by
  refine ⟨by simp; omega, by simp [h.mem], fun z hz h0 => ?_, ?_⟩
  · rcases List.mem_append.1 hz with g | g
    · exact h.zero z g h0
    · rw [List.mem_singleton.1 g] at h0; exact absurd h0 hy
  · by_cases c : c0 ≤ count
    · rw [ahd_snoc, hn c]; simpa using h.ah
    · have := ahd_lt (a := a) (x := x) (l := l ++ [y]) (by simp [h.mem])
      rw [List.length_append, List.length_singleton] at this
      omega
theorem Inv.rem {a : Int} {room c0 : Nat} {x : Wt} {count : Nat} {l : List Wt} (h : Inv a room c0 x count l) (hx : x.id = 0) {f : Nat} (hf : Fst a l f) (hid : (l[f]'hf.lt).id ≠ 0) : Inv a room c0 x (count + 1) (l.take f ++ l.drop (f + 1)) := by
  have hlt := hf.lt
  have hsplit : l = l.take f ++ l[f] :: l.drop (f + 1) := by rw [← List.drop_eq_getElem_cons hlt, List.take_append_drop]
  have hmem : ∀ y, y ∈ l ↔ y ∈ l.take f ∨ y = l[f] ∨ y ∈ l.drop (f + 1) := by
    intro y
    have e : y ∈ l.take f ++ l[f] :: l.drop (f + 1) ↔ y ∈ l.take f ∨ y = l[f] ∨ y ∈ l.drop (f + 1) := by rw [List.mem_append, List.mem_cons]
    rwa [← hsplit] at e
  have hne : x ≠ l[f] := fun e => hid (by rw [← e]; exact hx)
  have hles : les a l[f] x = true := by
    obtain ⟨i, hi, e⟩ := List.getElem_of_mem h.mem
    have := hf.no i hi
    rw [e] at this
    exact les_tot this (by rw [hx]; exact fun e => hid e.symm)
  have hcount : ahd a x l = ahd a x (l.take f ++ l.drop (f + 1)) + 1 := by
    conv => lhs; rw [hsplit]
    unfold ahd
    rw [List.countP_append, List.countP_cons, List.countP_append, hles]
    simp; omega
  have hlen : l.length = (l.take f ++ l.drop (f + 1)).length + 1 := by simp; omega
  refine ⟨by have := h.len; omega, ?_, fun y hy h0 => h.zero y ((hmem y).2 ?_) h0, ?_⟩
  · rcases (hmem x).1 h.mem with g | g | g
    · simp [g]
    · exact absurd g hne
    · simp [g]
  · rcases List.mem_append.1 hy with g | g
    · exact Or.inl g
    · exact Or.inr (Or.inr g)
  · have := h.ah; omega
theorem Inv.no {a room c0 : Nat} {x : Wt} {count : Nat} {l : List Wt} {z : Int} (h : Inv z room c0 x count l) (h1 : c0 ≤ a * 7 + 1) (ha : 1 ≤ a) (hc : a * 8 + room ≤ count) : False := by
  have := h.ah; omega
/-- one that comes late is not ahead. -/
theorem late {a : Nat} {x y : Wt} {cl0 count : Nat} (ha : 1 ≤ a) (ha' : a ≤ 1000) (hx : x = ⟨0, cl0, 7⟩) (hcl : cl0 < 8) (hy : gd y = true) (hca : y.ca = 7 + count) (hc : a * cl0 + 1 ≤ count) : les a y x = false := by
  have h1 : trn a y = y.ca + a * y.cl := trn_of hy (by omega) (by omega)
  have h2 : trn a x = x.ca + a * x.cl := trn_of (by subst hx; exact gd_of (by simp) (by simp; omega) (by simp) (by simp)) (by omega) (by omega)
  rw [les_f, h1, h2, hca]
  subst hx
  have h3 : 0 ≤ y.cl := by unfold gd at hy; simp at hy; exact hy.1
  have h4 : (0 : Int) ≤ (a : Int) * y.cl := Int.mul_nonneg (by omega) h3
  have h5 : ((a * cl0 : Nat) : Int) = (a : Int) * (cl0 : Int) := by simp
  simp only
  omega
end QQ
end Go.Proofs.YtlopijcpnfkcgaaGreat
