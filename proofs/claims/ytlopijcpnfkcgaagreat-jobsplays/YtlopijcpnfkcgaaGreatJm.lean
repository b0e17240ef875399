/- The open jobs as a list: how each stands, which wait, which are leased; a map of them by their ids. Nothing of the program is named here. -/
import Derived.Test.YtlopijcpnfkcgaaGreatQQi
import Derived.Test.YtlopijcpnfkcgaaGreatLLm
import Derived.Test.YtlopijcpnfkcgaaGreatRRm
namespace Go.Proofs.YtlopijcpnfkcgaaGreat
open Go.Maps (Keyed IsMap Tidy)

structure Jb where
  id : Int
  cl : Int
  s : Int
  u : Int
  deriving DecidableEq, Inhabited
def upd (J : List Jb) (z : Jb) : List Jb := J.map (fun x => if x.id = z.id then z else x)
def gon (J : List Jb) (i : Int) : List Jb := J.filter (fun x => decide (x.id ≠ i))
def fnd (J : List Jb) (i : Int) : Option Jb := J.find? (fun x => decide (x.id = i))
def Ids (J : List Jb) : Prop := J.Pairwise (fun x y => x.id ≠ y.id)
theorem Ids.inj {J : List Jb} (h : Ids J) {x y : Jb} (hx : x ∈ J) (hy : y ∈ J) (e : x.id = y.id) : x = y := by
  induction J with
  | nil => cases hx
  | cons a J ih =>
    obtain ⟨h1, h2⟩ := List.pairwise_cons.1 h
    rcases List.mem_cons.1 hx with ex | hx <;> rcases List.mem_cons.1 hy with ey | hy
    · rw [ex, ey]
    · exact absurd (ex ▸ e) (h1 y hy)
    · exact absurd (ey ▸ e).symm (h1 x hx)
    · exact ih h2 hx hy
theorem fnd_none {J : List Jb} {i : Int} (h : fnd J i = none) : ∀ x ∈ J, x.id ≠ i := by
  unfold fnd at h
  rw [List.find?_eq_none] at h
  intro g hg; simpa using h g hg
theorem fnd_no {J : List Jb} {i : Int} (h : ∀ x ∈ J, x.id ≠ i) : fnd J i = none := by
  unfold fnd; rw [List.find?_eq_none]; intro g hg; simpa using h g hg
theorem fnd_some {J : List Jb} {i : Int} {x : Jb} (h : fnd J i = some x) : x ∈ J ∧ x.id = i :=
  ⟨List.mem_of_find?_eq_some h, by have := List.find?_some h; simpa using this⟩
theorem fnd_of {J : List Jb} (h : Ids J) {x : Jb} (hx : x ∈ J) : fnd J x.id = some x := by
  rcases e : fnd J x.id with _ | y
  · exact absurd rfl (fnd_none e x hx)
  · rw [h.inj (fnd_some e).1 hx (fnd_some e).2]
theorem mem_upd {J : List Jb} {z x : Jb} : x ∈ upd J z ↔ (x ∈ J ∧ x.id ≠ z.id) ∨ (x = z ∧ ∃ y ∈ J, y.id = z.id) := by
  unfold upd
  rw [List.mem_map]
  constructor
  · rintro ⟨y, hy, e⟩
    by_cases c : y.id = z.id
    · rw [if_pos c] at e; exact Or.inr ⟨e.symm, y, hy, c⟩
    · rw [if_neg c] at e; subst e; exact Or.inl ⟨hy, c⟩
  · rintro (⟨hx, c⟩ | ⟨rfl, y, hy, c⟩)
    · exact ⟨x, hx, if_neg c⟩
    · exact ⟨y, hy, if_pos c⟩
theorem mem_gon {J : List Jb} {i : Int} {x : Jb} : x ∈ gon J i ↔ x ∈ J ∧ x.id ≠ i := by unfold gon; simp
theorem upd_len (J : List Jb) (z : Jb) : (upd J z).length = J.length := by unfold upd; simp
theorem upd_id (J : List Jb) (z : Jb) : (upd J z).map Jb.id = J.map Jb.id := by
  unfold upd
  rw [List.map_map]
  refine List.map_congr_left fun x _ => ?_
  simp only [Function.comp]
  split
  · next h => exact h.symm
  · rfl
theorem ids_map {J : List Jb} : Ids J ↔ (J.map Jb.id).Pairwise (· ≠ ·) := by unfold Ids; rw [List.pairwise_map]
theorem Ids.upd {J : List Jb} (h : Ids J) (z : Jb) : Ids (upd J z) := by rw [ids_map] at h ⊢; rw [upd_id]; exact h
theorem Ids.gon {J : List Jb} (h : Ids J) (i : Int) : Ids (gon J i) := List.Pairwise.sublist List.filter_sublist h
theorem Ids.add {J : List Jb} (h : Ids J) {z : Jb} (hz : ∀ x ∈ J, x.id ≠ z.id) : Ids (J ++ [z]) :=
  List.pairwise_append.2 ⟨h, List.pairwise_singleton _ _, fun x hx y hy => by rw [List.mem_singleton.1 hy]; exact hz x hx⟩
theorem gon_len {J : List Jb} (h : Ids J) {x : Jb} (hx : x ∈ J) : (gon J x.id).length + 1 = J.length := by
  unfold Ids at h
  unfold gon
  induction J with
  | nil => cases hx
  | cons y J ih =>
    obtain ⟨h1, h2⟩ := List.pairwise_cons.1 h
    rcases List.mem_cons.1 hx with rfl | hm
    · rw [List.filter_cons_of_neg (by simp), List.filter_eq_self.2]
      · rfl
      · intro z hz
        simp only [decide_eq_true_eq]
        exact fun c => h1 z hz c.symm
    · have hne : y.id ≠ x.id := h1 x hm
      rw [List.filter_cons_of_pos (by simpa using hne), List.length_cons, ih h2 hm, List.length_cons]
/-- numbers, each once, all among others, are no more than those. -/
theorem sub_len {l : List Int} (h : l.Nodup) : ∀ {m : List Int}, (∀ x ∈ l, x ∈ m) → l.length ≤ m.length := by
  induction l with
  | nil => intro m _; exact Nat.zero_le _
  | cons a l ih =>
    intro m hm
    obtain ⟨h1, h2⟩ := List.nodup_cons.1 h
    have ha := hm a List.mem_cons_self
    have := ih h2 (m := m.erase a) (fun x hx => (List.mem_erase_of_ne (fun e => by subst e; exact h1 hx)).2 (hm x (List.mem_cons_of_mem _ hx)))
    rw [List.length_erase_of_mem ha] at this
    have := List.length_pos_of_mem ha
    simp only [List.length_cons]; omega

/-- what holds of a book: who is open, who waits, who is leased. -/
structure BI (n : Int) (J : List Jb) (L : List QQ.Wt) (G : List LE.Gr) : Prop where
  ids : Ids J
  good : ∀ x ∈ J, LE.Wi x.id ∧ 0 ≤ x.cl ∧ x.cl < 8 ∧ RE.gd n x.s x.u = true ∧ (x.s = 1 ∨ x.s = 2 ∨ x.s = 3)
  ws : ∀ i, (∃ y ∈ L, y.id = i) ↔ ∃ x ∈ J, x.id = i ∧ x.s = 1
  ls : ∀ i, (∃ g ∈ G, g.j = i) ↔ ∃ x ∈ J, x.id = i ∧ x.s = 2
theorem BI.nil (n : Int) : BI n [] [] [] := ⟨.nil, (fun _ h => by cases h), (fun _ => by simp), (fun _ => by simp)⟩
variable {n : Int} {J : List Jb} {L : List QQ.Wt} {G : List LE.Gr}
theorem BI.room (h : BI n J L G) (hL : (L.map QQ.Wt.id).Nodup) : L.length ≤ J.length := by
  have := sub_len hL (m := J.map Jb.id) (fun i hi => by
    obtain ⟨y, hy, rfl⟩ := List.mem_map.1 hi
    obtain ⟨x, hx, e, _⟩ := (h.ws y.id).1 ⟨y, hy, rfl⟩
    exact List.mem_map.2 ⟨x, hx, e⟩)
  simpa using this
theorem BI.room' (h : BI n J L G) (hL : (L.map QQ.Wt.id).Nodup) {x : Jb} (hx : x ∈ J) (hs : x.s ≠ 1) : L.length < J.length := by
  have hn : x.id ∉ L.map QQ.Wt.id := fun hi => by
    obtain ⟨y, hy, e⟩ := List.mem_map.1 hi
    obtain ⟨z, hz, ez, sz⟩ := (h.ws y.id).1 ⟨y, hy, rfl⟩
    have := h.ids.inj hz hx (by rw [ez, e])
    subst this; exact hs sz
  have := sub_len (List.nodup_cons.2 ⟨hn, hL⟩) (m := J.map Jb.id) (fun i hi => by
    rcases List.mem_cons.1 hi with rfl | hi
    · exact List.mem_map.2 ⟨x, hx, rfl⟩
    · obtain ⟨y, hy, rfl⟩ := List.mem_map.1 hi
      obtain ⟨x, hx, e, _⟩ := (h.ws y.id).1 ⟨y, hy, rfl⟩
      exact List.mem_map.2 ⟨x, hx, e⟩)
  simp only [List.length_cons, List.length_map] at this
  omega
/-- who waits isn't leased, and the other way round. -/
theorem BI.not_w (h : BI n J L G) {x : Jb} (hx : x ∈ J) (hs : x.s ≠ 1) : ∀ y ∈ L, y.id ≠ x.id := fun y hy e => by
  obtain ⟨z, hz, ez, sz⟩ := (h.ws y.id).1 ⟨y, hy, rfl⟩
  have := h.ids.inj hz hx (by rw [ez, e])
  subst this; exact hs sz
theorem BI.not_l (h : BI n J L G) {x : Jb} (hx : x ∈ J) (hs : x.s ≠ 2) : ∀ g ∈ G, g.j ≠ x.id := fun y hy e => by
  obtain ⟨z, hz, ez, sz⟩ := (h.ls y.j).1 ⟨y, hy, rfl⟩
  have := h.ids.inj hz hx (by rw [ez, e])
  subst this; exact hs sz
theorem BI.new_w (h : BI n J L G) {i : Int} (hi : ∀ x ∈ J, x.id ≠ i) : ∀ y ∈ L, y.id ≠ i := fun y hy e => by
  obtain ⟨z, hz, ez, sz⟩ := (h.ws y.id).1 ⟨y, hy, rfl⟩
  exact hi z hz (by rw [ez, e])
theorem BI.new_l (h : BI n J L G) {i : Int} (hi : ∀ x ∈ J, x.id ≠ i) : ∀ g ∈ G, g.j ≠ i := fun y hy e => by
  obtain ⟨z, hz, ez, sz⟩ := (h.ls y.j).1 ⟨y, hy, rfl⟩
  exact hi z hz (by rw [ez, e])
/-- the job of one that waits, of a lease. -/
theorem BI.of_w (h : BI n J L G) {y : QQ.Wt} (hy : y ∈ L) : ∃ x ∈ J, x.id = y.id ∧ x.s = 1 := (h.ws y.id).1 ⟨y, hy, rfl⟩
theorem BI.of_l (h : BI n J L G) {g : LE.Gr} (hg : g ∈ G) : ∃ x ∈ J, x.id = g.j ∧ x.s = 2 := (h.ls g.j).1 ⟨g, hg, rfl⟩
theorem BI.add (h : BI n J L G) (hn : 0 ≤ n ∧ n ≤ 9) {i cl ca : Int} (hi : ∀ x ∈ J, x.id ≠ i) (wi : LE.Wi i) (c0 : 0 ≤ cl) (c8 : cl < 8) : BI n (J ++ [⟨i, cl, 1, 0⟩]) (L ++ [⟨i, cl, ca⟩]) G := by
  refine ⟨h.ids.add hi, fun x hx => ?_, fun k => ?_, fun k => ?_⟩
  · rcases List.mem_append.1 hx with hx | hx
    · exact h.good x hx
    · rw [List.mem_singleton.1 hx]
      exact ⟨wi, c0, c8, by rw [RE.gd_t]; exact ⟨hn.1, hn.2, Or.inl ⟨rfl, Int.le_refl _, hn.1⟩⟩, Or.inl rfl⟩
  · have := h.ws k
    simp only [List.mem_append, List.mem_singleton]
    constructor
    · rintro ⟨y, hy | rfl, e⟩
      · obtain ⟨x, hx, e2⟩ := this.1 ⟨y, hy, e⟩
        exact ⟨x, Or.inl hx, e2⟩
      · exact ⟨_, Or.inr rfl, e, rfl⟩
    · rintro ⟨x, hx | rfl, e, e2⟩
      · obtain ⟨y, hy, e2⟩ := this.2 ⟨x, hx, e, e2⟩
        exact ⟨y, Or.inl hy, e2⟩
      · exact ⟨_, Or.inr rfl, e⟩
  · have := h.ls k
    rw [this]
    simp only [List.mem_append, List.mem_singleton]
    constructor
    · rintro ⟨x, hx, e⟩; exact ⟨x, Or.inl hx, e⟩
    · rintro ⟨x, hx | rfl, e, e2⟩
      · exact ⟨x, hx, e, e2⟩
      · cases e2
/-- a job's state turns: who waits and who is leased accordingly. -/
theorem BI.turn (h : BI n J L G) {x z : Jb} (hx : x ∈ J) (hz : z.id = x.id) (gz : LE.Wi z.id ∧ 0 ≤ z.cl ∧ z.cl < 8 ∧ RE.gd n z.s z.u = true ∧ (z.s = 1 ∨ z.s = 2 ∨ z.s = 3)) {L' : List QQ.Wt} {G' : List LE.Gr}
    (hL : ∀ i, (∃ y ∈ L', y.id = i) ↔ (i ≠ x.id ∧ ∃ y ∈ L, y.id = i) ∨ (i = x.id ∧ z.s = 1)) (hG : ∀ i, (∃ y ∈ G', y.j = i) ↔ (i ≠ x.id ∧ ∃ y ∈ G, y.j = i) ∨ (i = x.id ∧ z.s = 2)) : BI n (upd J z) L' G' := by
  have hj : ∃ y ∈ J, y.id = z.id := ⟨x, hx, hz.symm⟩
  refine ⟨h.ids.upd z, fun y hy => ?_, fun k => ?_, fun k => ?_⟩
  · rcases mem_upd.1 hy with ⟨hy, _⟩ | ⟨rfl, _⟩
    · exact h.good y hy
    · exact gz
  · rw [hL k, h.ws k]
    constructor
    · rintro (⟨c, y, hy, e, e2⟩ | ⟨e, e2⟩)
      · exact ⟨y, mem_upd.2 (Or.inl ⟨hy, by rw [hz, e]; exact c⟩), e, e2⟩
      · exact ⟨z, mem_upd.2 (Or.inr ⟨rfl, hj⟩), by rw [hz, e], e2⟩
    · rintro ⟨y, hy, e, e2⟩
      rcases mem_upd.1 hy with ⟨hy, c⟩ | ⟨rfl, _⟩
      · exact Or.inl ⟨by rw [← e, ← hz]; exact c, y, hy, e, e2⟩
      · exact Or.inr ⟨by rw [← e, hz], e2⟩
  · rw [hG k, h.ls k]
    constructor
    · rintro (⟨c, y, hy, e, e2⟩ | ⟨e, e2⟩)
      · exact ⟨y, mem_upd.2 (Or.inl ⟨hy, by rw [hz, e]; exact c⟩), e, e2⟩
      · exact ⟨z, mem_upd.2 (Or.inr ⟨rfl, hj⟩), by rw [hz, e], e2⟩
    · rintro ⟨y, hy, e, e2⟩
      rcases mem_upd.1 hy with ⟨hy, c⟩ | ⟨rfl, _⟩
      · exact Or.inl ⟨by rw [← e, ← hz]; exact c, y, hy, e, e2⟩
      · exact Or.inr ⟨by rw [← e, hz], e2⟩
/-- a job goes. -/
theorem BI.gone (h : BI n J L G) {x : Jb} (_ : x ∈ J) {L' : List QQ.Wt} {G' : List LE.Gr}
    (hL : ∀ i, (∃ y ∈ L', y.id = i) ↔ (i ≠ x.id ∧ ∃ y ∈ L, y.id = i)) (hG : ∀ i, (∃ y ∈ G', y.j = i) ↔ (i ≠ x.id ∧ ∃ y ∈ G, y.j = i)) : BI n (gon J x.id) L' G' := by
  refine ⟨h.ids.gon _, fun y hy => h.good y (mem_gon.1 hy).1, fun k => ?_, fun k => ?_⟩
  · rw [hL k, h.ws k]
    constructor
    · rintro ⟨c, y, hy, e, e2⟩; exact ⟨y, mem_gon.2 ⟨hy, by rw [e]; exact c⟩, e, e2⟩
    · rintro ⟨y, hy, e, e2⟩; exact ⟨by rw [← e]; exact (mem_gon.1 hy).2, y, (mem_gon.1 hy).1, e, e2⟩
  · rw [hG k, h.ls k]
    constructor
    · rintro ⟨c, y, hy, e, e2⟩; exact ⟨y, mem_gon.2 ⟨hy, by rw [e]; exact c⟩, e, e2⟩
    · rintro ⟨y, hy, e, e2⟩; exact ⟨by rw [← e]; exact (mem_gon.1 hy).2, y, (mem_gon.1 hy).1, e, e2⟩
theorem has_rem {L : List QQ.Wt} (hL : (L.map QQ.Wt.id).Nodup) {k : Nat} (hk : k < L.length) (i : Int) : (∃ y ∈ QQ.rem L k, y.id = i) ↔ (i ≠ (QQ.gt L k).id ∧ ∃ y ∈ L, y.id = i) := by
  have P := QQ.rem_perm hk
  constructor
  · rintro ⟨y, hy, rfl⟩
    refine ⟨fun e => ?_, y, P.mem_iff.2 (List.mem_append_left _ hy), rfl⟩
    have := (P.map QQ.Wt.id).nodup_iff.1 hL
    rw [List.map_append] at this
    exact (List.nodup_append.1 this).2.2 _ (List.mem_map.2 ⟨y, hy, rfl⟩) _ (List.mem_map.2 ⟨_, List.mem_singleton.2 rfl, rfl⟩) e
  · rintro ⟨c, y, hy, rfl⟩
    rcases List.mem_append.1 (P.mem_iff.1 hy) with h | h
    · exact ⟨y, h, rfl⟩
    · exact absurd (by rw [List.mem_singleton.1 h]) c
theorem has_off {last : Nat} {G : List LE.Gr} (h : LE.Ok last G) {g : LE.Gr} (hg : g ∈ G) (i : Int) : (∃ y ∈ LE.off [g] G, y.j = i) ↔ (i ≠ g.j ∧ ∃ y ∈ G, y.j = i) := by
  constructor
  · rintro ⟨y, hy, rfl⟩
    obtain ⟨h1, h2⟩ := LE.mem_off.1 hy
    exact ⟨fun e => h2 (List.mem_singleton.2 (h.j_inj h1 hg e)), y, h1, rfl⟩
  · rintro ⟨c, y, hy, rfl⟩
    exact ⟨y, LE.mem_off.2 ⟨hy, fun e => c (by rw [List.mem_singleton.1 e])⟩, rfl⟩
/-- the one that waits is leased. -/
theorem BI.fetch (h : BI n J L G) (hL : (L.map QQ.Wt.id).Nodup) {k : Nat} (hk : k < L.length) {x : Jb} (hx : x ∈ J) (hid : x.id = (QQ.gt L k).id) (hs : x.s = 1) {m : Int} {u : Nat} :
    BI n (upd J ⟨x.id, x.cl, 2, x.u + 1⟩) (QQ.rem L k) (G ++ [⟨m, x.id, u⟩]) := by
  have gx := h.good x hx
  have hg := RE.gd_t.1 gx.2.2.2.1
  refine h.turn (z := ⟨x.id, x.cl, 2, x.u + 1⟩) hx rfl ⟨gx.1, gx.2.1, gx.2.2.1, ?_, Or.inr (Or.inl rfl)⟩ (fun i => ?_) (fun i => ?_)
  · exact RE.gd_t.2 ⟨hg.1, hg.2.1, Or.inr (Or.inl ⟨rfl, by simp only; omega, by simp only; omega⟩)⟩
  · rw [has_rem hL hk i, ← hid]
    constructor
    · exact Or.inl
    · rintro (h | ⟨_, h⟩)
      · exact h
      · cases h
  · constructor
    · rintro ⟨y, hy, e⟩
      rcases List.mem_append.1 hy with hy | hy
      · exact Or.inl ⟨fun c => h.not_l hx (by omega) y hy (by rw [e, c]), y, hy, e⟩
      · rw [List.mem_singleton.1 hy] at e; exact Or.inr ⟨e.symm, rfl⟩
    · rintro (⟨_, y, hy, e⟩ | ⟨e, _⟩)
      · exact ⟨y, List.mem_append_left _ hy, e⟩
      · exact ⟨_, List.mem_append_right _ (List.mem_singleton.2 rfl), e.symm⟩
theorem BI.same_w (h : BI n J L G) {x : Jb} (hx : x ∈ J) (hs : x.s ≠ 1) (i : Int) : (∃ y ∈ L, y.id = i) ↔ (i ≠ x.id ∧ ∃ y ∈ L, y.id = i) :=
  ⟨fun ⟨y, hy, e⟩ => ⟨fun c => h.not_w hx hs y hy (by rw [e, c]), y, hy, e⟩, fun e => e.2⟩
theorem BI.same_l (h : BI n J L G) {x : Jb} (hx : x ∈ J) (hs : x.s ≠ 2) (i : Int) : (∃ y ∈ G, y.j = i) ↔ (i ≠ x.id ∧ ∃ y ∈ G, y.j = i) :=
  ⟨fun ⟨y, hy, e⟩ => ⟨fun c => h.not_l hx hs y hy (by rw [e, c]), y, hy, e⟩, fun e => e.2⟩
/-- a leased one is closed. -/
theorem BI.answer {last : Nat} (h : BI n J L G) (hG : LE.Ok last G) {g : LE.Gr} (hg : g ∈ G) {x : Jb} (hx : x ∈ J) (hid : x.id = g.j) (hs : x.s = 2) : BI n (gon J x.id) L (LE.off [g] G) :=
  h.gone hx (h.same_w hx (by omega)) (fun i => by rw [has_off hG hg i, hid])
/-- a leased one rests. -/
theorem BI.fail {last : Nat} (h : BI n J L G) (hG : LE.Ok last G) {g : LE.Gr} (hg : g ∈ G) {x : Jb} (hx : x ∈ J) (hid : x.id = g.j) (hs : x.s = 2) (hu : x.u ≤ n) : BI n (upd J ⟨x.id, x.cl, 3, x.u⟩) L (LE.off [g] G) := by
  have gx := h.good x hx
  have hgd := RE.gd_t.1 gx.2.2.2.1
  refine h.turn (z := ⟨x.id, x.cl, 3, x.u⟩) hx rfl ⟨gx.1, gx.2.1, gx.2.2.1, RE.gd_t.2 ⟨hgd.1, hgd.2.1, Or.inr (Or.inr (Or.inl ⟨rfl, by simp only; omega, by simp only; omega⟩))⟩, Or.inr (Or.inr rfl)⟩ (fun i => ?_) (fun i => ?_)
  · rw [← h.same_w hx (by omega) i]
    exact ⟨Or.inl, fun e => e.elim (fun h => h) (fun ⟨_, e⟩ => by cases e)⟩
  · rw [has_off hG hg i, ← hid]
    exact ⟨Or.inl, fun e => e.elim (fun h => h) (fun ⟨_, e⟩ => by cases e)⟩
/-- a resting one waits again. -/
theorem BI.rested (h : BI n J L G) {x : Jb} (hx : x ∈ J) (hs : x.s = 3) (ca : Int) : BI n (upd J ⟨x.id, x.cl, 1, x.u⟩) (L ++ [⟨x.id, x.cl, ca⟩]) G := by
  have gx := h.good x hx
  have hgd := RE.gd_t.1 gx.2.2.2.1
  refine h.turn (z := ⟨x.id, x.cl, 1, x.u⟩) hx rfl ⟨gx.1, gx.2.1, gx.2.2.1, RE.gd_t.2 ⟨hgd.1, hgd.2.1, Or.inl ⟨rfl, by simp only; omega, by simp only; omega⟩⟩, Or.inl rfl⟩ (fun i => ?_) (fun i => ?_)
  · constructor
    · rintro ⟨y, hy, e⟩
      rcases List.mem_append.1 hy with hy | hy
      · exact Or.inl ⟨fun c => h.not_w hx (by omega) y hy (by rw [e, c]), y, hy, e⟩
      · rw [List.mem_singleton.1 hy] at e; exact Or.inr ⟨e.symm, rfl⟩
    · rintro (⟨_, y, hy, e⟩ | ⟨e, _⟩)
      · exact ⟨y, List.mem_append_left _ hy, e⟩
      · exact ⟨_, List.mem_append_right _ (List.mem_singleton.2 rfl), e.symm⟩
  · rw [← h.same_l hx (by omega) i]
    exact ⟨Or.inl, fun e => e.elim (fun h => h) (fun ⟨_, e⟩ => by cases e)⟩

/-! ### a map of them -/
def jd (x : Jb) : DataW Unit := .agg [.lit (.int .i64 x.cl), .lit (.int .i64 x.s), .lit (.int .i64 x.u)]
def jv (x : Jb) : Value := .agg #[.int .i64 x.cl, .int .i64 x.s, .int .i64 x.u]
/-- how an open job in a map reads. -/
def jbE : Value → Option (DataW Unit × List MemPlace)
  | .agg cs => match cs.toList with
    | [.int .i64 c, .int .i64 s, .int .i64 u] => some (.agg [.lit (.int .i64 c), .lit (.int .i64 s), .lit (.int .i64 u)], [])
    | _ => none
  | _ => none
theorem jbE_mk (x : Jb) : jbE (jv x) = some (jd x, []) := by
  unfold jbE jv jd
  simp
theorem jbE_inv {v : Value} {z : DataW Unit × List MemPlace} (h : jbE v = some z) : ∃ c s u, v = .agg #[.int .i64 c, .int .i64 s, .int .i64 u] ∧ z = (.agg [.lit (.int .i64 c), .lit (.int .i64 s), .lit (.int .i64 u)], []) := by
  unfold jbE at h
  split at h
  · rename_i cs
    split at h
    · rename_i c s u e
      refine ⟨c, s, u, ?_, ?_⟩
      · have : cs = #[.int .i64 c, .int .i64 s, .int .i64 u] := by apply Array.toList_inj.1; rw [e]
        rw [this]
      · cases h; rfl
    · cases h
  · cases h
/-- the map holds the open jobs at their ids, and nothing else. -/
structure MapJ (D : DataW Unit) (J : List Jb) : Prop where
  tidy : Tidy D
  size : Maps.size D = J.length
  yes : ∀ x ∈ J, Maps.has D (LE.ky x.id) = true ∧ ∀ z, D.atKey (LE.ky x.id) z = jd x
  no : ∀ i, (∀ x ∈ J, x.id ≠ i) → Maps.has D (LE.ky i) = false ∧ ∀ z, D.atKey (LE.ky i) z = z
variable {D : DataW Unit}
theorem MapJ.nil : MapJ (.map []) [] := ⟨Maps.tidy_empty, rfl, (fun _ h => by cases h), fun _ _ => ⟨rfl, fun _ => rfl⟩⟩
theorem MapJ.put (h : MapJ D J) {g : Jb} (hg : ∀ x ∈ J, x.id ≠ g.id) : MapJ (D.put (LE.ky g.id) (jd g)) (J ++ [g]) := by
  have hno := h.no g.id hg
  refine ⟨h.tidy.put (LE.ky_lit _) _, ?_, ?_, ?_⟩
  · rw [Maps.size_put h.tidy, hno.1, h.size]; simp
  · intro x hx
    rcases List.mem_append.1 hx with hx | hx
    · have hne : LE.ky x.id ≠ LE.ky g.id := LE.ky_ne (hg x hx)
      rw [Maps.has_put_other hne]
      exact ⟨(h.yes x hx).1, fun z => by rw [Maps.atKey_put_other hne]; exact (h.yes x hx).2 z⟩
    · obtain rfl := List.mem_singleton.1 hx
      exact ⟨Maps.has_put_same h.tidy.isMap (LE.ky_lit _) _, fun z => Maps.atKey_put_same h.tidy.isMap (LE.ky_lit _) _ _⟩
  · intro i hi
    have hne : LE.ky i ≠ LE.ky g.id := LE.ky_ne (fun c => hi g (by simp) c.symm)
    have := h.no i (fun x hx => hi x (List.mem_append_left _ hx))
    rw [Maps.has_put_other hne]
    exact ⟨this.1, fun z => by rw [Maps.atKey_put_other hne]; exact this.2 z⟩
theorem MapJ.upd (h : MapJ D J) {g : Jb} (hg : ∃ x ∈ J, x.id = g.id) : MapJ (D.put (LE.ky g.id) (jd g)) (upd J g) := by
  obtain ⟨x0, hx0, e0⟩ := hg
  have hyes := h.yes x0 hx0
  rw [e0] at hyes
  refine ⟨h.tidy.put (LE.ky_lit _) _, ?_, ?_, ?_⟩
  · rw [Maps.size_put h.tidy, hyes.1, h.size, upd_len]; simp
  · intro x hx
    rcases mem_upd.1 hx with ⟨hx, c⟩ | ⟨rfl, _⟩
    · have hne : LE.ky x.id ≠ LE.ky g.id := LE.ky_ne c
      rw [Maps.has_put_other hne]
      exact ⟨(h.yes x hx).1, fun z => by rw [Maps.atKey_put_other hne]; exact (h.yes x hx).2 z⟩
    · exact ⟨Maps.has_put_same h.tidy.isMap (LE.ky_lit _) _, fun z => Maps.atKey_put_same h.tidy.isMap (LE.ky_lit _) _ _⟩
  · intro i hi
    have hc : i ≠ g.id := fun c => hi g (mem_upd.2 (Or.inr ⟨rfl, x0, hx0, e0⟩)) c.symm
    have hne : LE.ky i ≠ LE.ky g.id := LE.ky_ne hc
    have := h.no i (fun x hx e => hi x (mem_upd.2 (Or.inl ⟨hx, by rw [e]; exact hc⟩)) e)
    rw [Maps.has_put_other hne]
    exact ⟨this.1, fun z => by rw [Maps.atKey_put_other hne]; exact this.2 z⟩
theorem MapJ.del (h : MapJ D J) (hn : Ids J) {g : Jb} (hg : g ∈ J) : MapJ (D.del (LE.ky g.id)) (gon J g.id) := by
  refine ⟨h.tidy.del _, ?_, ?_, ?_⟩
  · have h1 := Maps.size_del (k := LE.ky g.id) h.tidy
    rw [(h.yes g hg).1, h.size, ← gon_len hn hg] at h1
    simp only [if_true] at h1
    omega
  · intro x hx
    rw [mem_gon] at hx
    have hne : LE.ky x.id ≠ LE.ky g.id := LE.ky_ne hx.2
    rw [Maps.has_del_other hne]
    exact ⟨(h.yes x hx.1).1, fun z => by rw [Maps.atKey_del_other hne]; exact (h.yes x hx.1).2 z⟩
  · intro i hi
    by_cases e : i = g.id
    · subst e
      exact ⟨Maps.has_del_same, fun z => Maps.atKey_del_same _⟩
    · have hne : LE.ky i ≠ LE.ky g.id := LE.ky_ne e
      have := h.no i (fun x hx c => hi x (mem_gon.2 ⟨hx, by rw [c]; exact e⟩) c)
      rw [Maps.has_del_other hne]
      exact ⟨this.1, fun z => by rw [Maps.atKey_del_other hne]; exact this.2 z⟩
end Go.Proofs.YtlopijcpnfkcgaaGreat
