/- Why a waiting job is told within the bound. Nothing of the program is named here. -/
import Derived.Test.YtlopijcpnfkcgaaQQi
namespace Go.Proofs.Ytlopijcpnfkcgaa
namespace QQ

/-- the numbers that came: the one of interest, and those of the feed, up to id. -/
def J (id : Nat) (L : List Wt) : Prop := ∀ x ∈ L, x.id = 1 ∨ (2 ≤ x.id.natAbs ∧ x.id.natAbs ≤ id)
theorem J.new {id : Nat} {L : List Wt} (h : J id L) (h1 : 1 ≤ id) {who : Int} (hw : who.natAbs = id + 1) : ∀ j, j < L.length → (gt L j).id ≠ who := fun j hj e => by
  rcases h _ (gt_mem hj) with c | c
  · rw [e] at c; subst c; simp at hw; omega
  · rw [e] at c; omega
theorem J.app {id : Nat} {L : List Wt} (h : J id L) (h1 : 1 ≤ id) {who : Int} (hw : who.natAbs = id + 1) (cl ca : Int) : J (id + 1) (L ++ [⟨who, cl, ca⟩]) := fun x hx => by
  rcases List.mem_append.1 hx with g | g
  · rcases h x g with c | c
    · exact Or.inl c
    · exact Or.inr (by omega)
  · rw [List.mem_singleton.1 g]; exact Or.inr (by simp only; omega)
theorem J.tak {id : Nat} {L : List Wt} (h : J id L) (k : Nat) (hk : k < L.length) : J id (rem L k) := fun x hx => h x ((rem_perm hk).mem_iff.2 (List.mem_append.2 (Or.inl hx)))
theorem J.one {id : Nat} {L : List Wt} (h : J id L) (cl ca : Int) : J id (L ++ [⟨1, cl, ca⟩]) := fun x hx => by
  rcases List.mem_append.1 hx with g | g
  · exact h x g
  · rw [List.mem_singleton.1 g]; exact Or.inl rfl
/-- what a feed adds. -/
structure Fed (L L' : List Wt) (count : Int) (room id id' : Nat) : Prop where
  app : ∃ N, L' = L ++ N ∧ ∀ y ∈ N, 0 ≤ y.cl ∧ y.cl < 8 ∧ y.ca = count ∧ y.id ≠ 1
  len : L'.length ≤ room
  ids : id' + L.length ≤ id + L'.length
  jj : J id' L'
  one : 1 ≤ id'
theorem Fed.none {L : List Wt} {count : Int} {room id : Nat} (h : L.length ≤ room) (j : J id L) (h1 : 1 ≤ id) : Fed L L count room id id := ⟨⟨[], by simp, by simp⟩, h, Nat.le_refl _, j, h1⟩
theorem Fed.add {L L' : List Wt} {count : Int} {room id id' : Nat} (h : Fed L L' count room id id') (hl : L'.length < room) {who cl : Int} (hw : who.natAbs = id' + 1) (h0 : 0 ≤ cl) (h8 : cl < 8) : Fed L (L' ++ [⟨who, cl, count⟩]) count room id (id' + 1) := by
  obtain ⟨N, e, hN⟩ := h.app
  refine ⟨⟨N ++ [⟨who, cl, count⟩], by rw [e, List.append_assoc], fun y hy => ?_⟩, by simp; omega, ?_, h.jj.app h.one hw _ _, by omega⟩
  · rcases List.mem_append.1 hy with g | g
    · exact hN y g
    · rw [List.mem_singleton.1 g]
      refine ⟨h0, h8, rfl, fun c => ?_⟩
      simp only at c; subst c; have := h.one; simp at hw; omega
  · have := h.ids; simp; omega

/-- x waits, t takes after it came. -/
structure InvQ (a : Int) (room c0 : Nat) (x : Wt) (t : Nat) (l : List Wt) : Prop where
  len : l.length ≤ room
  mem : x ∈ l
  ah : ahd a x l + (t - c0) + 1 ≤ room
theorem InvQ.start {a : Int} {room c0 : Nat} {x : Wt} {l : List Wt} (h : l.length ≤ room) (hx : x ∈ l) : InvQ a room c0 x 0 l :=
  ⟨h, hx, by have := ahd_lt (a := a) hx; omega⟩
theorem ahd_app (a : Int) (x : Wt) (l k : List Wt) : ahd a x (l ++ k) = ahd a x l + ahd a x k := by unfold ahd; rw [List.countP_append]
theorem InvQ.add {a : Int} {room c0 t : Nat} {x : Wt} {l N : List Wt} (h : InvQ a room c0 x t l) (hl : (l ++ N).length ≤ room) (hn : c0 ≤ t → ∀ y ∈ N, les a y x = false) : InvQ a room c0 x t (l ++ N) := by
  refine ⟨hl, List.mem_append.2 (Or.inl h.mem), ?_⟩
  by_cases c : c0 ≤ t
  · rw [ahd_app, ahd_of_none (hn c)]; have := h.ah; omega
  · have := ahd_lt (a := a) (List.mem_append.2 (Or.inl h.mem) : x ∈ l ++ N); omega
theorem InvQ.tak {a : Int} {room c0 t : Nat} {x : Wt} {l : List Wt} (h : InvQ a room c0 x t l) {f : Nat} (hf : Fst a l f) (hid : (gt l f).id ≠ x.id) : InvQ a room c0 x (t + 1) (rem l f) := by
  have hlt := hf.lt
  have P := rem_perm hlt
  have hne : x ≠ gt l f := fun e => hid (by rw [← e])
  have hles : les a (gt l f) x = true := by
    obtain ⟨i, hi, e⟩ := List.getElem_of_mem h.mem
    have := hf.no i hi
    rw [e, ← gt_at hlt] at this
    exact les_tot this (fun e => hid e.symm)
  have hcount : ahd a x l = ahd a x (rem l f) + 1 := by
    unfold ahd
    rw [P.countP_eq, List.countP_append, List.countP_singleton, hles]; simp
  have hl := rem_len hlt
  refine ⟨by have := h.len; omega, ?_, by have := h.ah; omega⟩
  rcases List.mem_append.1 (P.mem_iff.1 h.mem) with g | g
  · exact g
  · exact absurd (List.mem_singleton.1 g) hne
theorem InvQ.no {a : Int} {room c0 t : Nat} {x : Wt} {l : List Wt} (h : InvQ a room c0 x t l) {z : Nat} (h1 : c0 ≤ z * 7 + 1) (hz : 1 ≤ z) (hc : z * 8 + room ≤ t) : False := by
  have := h.ah; omega
theorem later {a : Nat} {x y : Wt} {c0 t : Nat} {cl : Nat} (ha : 1 ≤ a) (ha' : a ≤ 1000) (hx : x = ⟨1, cl, c0⟩) (hcl : cl < 8) (hc0 : c0 ≤ 1000) (hy0 : 0 ≤ y.cl) (hy8 : y.cl < 8) (hca : y.ca = c0 + t) (ht : t ≤ 1000000) (hc : a * cl + 1 ≤ t) : les a y x = false := by
  have h1 : trn a y = y.ca + a * y.cl := trn_of (gd_of hy0 hy8 (by omega) (by omega)) (by omega) (by omega)
  have h2 : trn a x = x.ca + a * x.cl := trn_of (by subst hx; exact gd_of (by simp) (by simp; omega) (by simp) (by simp; omega)) (by omega) (by omega)
  rw [les_f, h1, h2, hca]
  subst hx
  have h4 : (0 : Int) ≤ (a : Int) * y.cl := Int.mul_nonneg (by omega) hy0
  have h5 : ((a * cl : Nat) : Int) = (a : Int) * (cl : Int) := by simp
  simp only
  omega
end QQ
end Go.Proofs.Ytlopijcpnfkcgaa
