/- Leases as a list in the order of their numbers: found by number, by job; those that are over, by their end, then their number. Nothing of the program is named here. -/
import Derived.Maps.RangeWalk
namespace Go.Proofs.YtlopijcpnfkcgaaGreat
namespace LE
open Go.Maps (Keyed IsMap Tidy)

structure Gr where
  n : Int
  j : Int
  u : Nat
  deriving DecidableEq, Inhabited
def Wi (i : Int) : Prop := -9223372036854775808 ≤ i ∧ i ≤ 9223372036854775807
theorem wi_wf {i : Int} (h : Wi i) : (Lit.int .i64 i).wf = true := by
  unfold Lit.wf
  simp only [Bool.and_eq_true, decide_eq_true_eq]
  exact h
def ky (i : Int) : Lit := .int .i64 i
theorem ky_ne {i j : Int} (h : i ≠ j) : ky i ≠ ky j := fun e => h (by injection e)
theorem ky_inj {i j : Int} (h : ky i = ky j) : i = j := by injection h
theorem ky_lit (i : Int) : WideAt.IsKeyLit (ky i) := trivial

/-- what holds of a table's leases. -/
structure Ok (last : Nat) (L : List Gr) : Prop where
  top : last ≤ 1000000
  asc : L.Pairwise (fun a b => a.n < b.n)
  rng : ∀ g ∈ L, 1 ≤ g.n ∧ g.n ≤ (last : Int)
  jobs : L.Pairwise (fun a b => a.j ≠ b.j)
  wf : ∀ g ∈ L, Wi g.j ∧ g.u < 18446744073709551616
theorem Ok.nil : Ok 0 [] := ⟨by omega, .nil, (fun _ h => by cases h), .nil, (fun _ h => by cases h)⟩
theorem pw_ne {f : Gr → Int} {L : List Gr} (h : L.Pairwise (fun a b => f a ≠ f b)) {x y : Gr} (hx : x ∈ L) (hy : y ∈ L) (e : f x = f y) : x = y := by
  induction L with
  | nil => cases hx
  | cons a L ih =>
    obtain ⟨h1, h2⟩ := List.pairwise_cons.1 h
    rcases List.mem_cons.1 hx with ex | hx <;> rcases List.mem_cons.1 hy with ey | hy
    · rw [ex, ey]
    · exact absurd (ex ▸ e) (h1 y hy)
    · exact absurd (ey ▸ e).symm (h1 x hx)
    · exact ih h2 hx hy
theorem Ok.ns {last : Nat} {L : List Gr} (h : Ok last L) : L.Pairwise (fun a b => a.n ≠ b.n) := h.asc.imp (fun {_ _} h => by omega)
theorem Ok.n_inj {last : Nat} {L : List Gr} (h : Ok last L) {x y : Gr} (hx : x ∈ L) (hy : y ∈ L) (e : x.n = y.n) : x = y := pw_ne h.ns hx hy e
theorem Ok.j_inj {last : Nat} {L : List Gr} (h : Ok last L) {x y : Gr} (hx : x ∈ L) (hy : y ∈ L) (e : x.j = y.j) : x = y := pw_ne h.jobs hx hy e
theorem Ok.sub {last : Nat} {L M : List Gr} (h : Ok last L) (s : M.Sublist L) : Ok last M :=
  ⟨h.top, h.asc.sublist s, fun g hg => h.rng g (s.subset hg), h.jobs.sublist s, fun g hg => h.wf g (s.subset hg)⟩
theorem Ok.add {last : Nat} {L : List Gr} (h : Ok last L) (j : Int) (u : Nat) (hj : ∀ g ∈ L, g.j ≠ j) (wj : Wi j) (wu : u < 18446744073709551616) (ht : last < 1000000) : Ok (last + 1) (L ++ [⟨last + 1, j, u⟩]) := by
  refine ⟨by omega, List.pairwise_append.2 ⟨h.asc, List.pairwise_singleton _ _, ?_⟩, ?_, List.pairwise_append.2 ⟨h.jobs, List.pairwise_singleton _ _, ?_⟩, ?_⟩
  · intro a ha b hb
    obtain rfl := List.mem_singleton.1 hb
    have := (h.rng a ha).2
    simp only; omega
  · intro g hg
    rcases List.mem_append.1 hg with hg | hg
    · have := h.rng g hg; omega
    · obtain rfl := List.mem_singleton.1 hg
      simp only; omega
  · intro a ha b hb
    obtain rfl := List.mem_singleton.1 hb
    exact hj a ha
  · intro g hg
    rcases List.mem_append.1 hg with hg | hg
    · exact h.wf g hg
    · obtain rfl := List.mem_singleton.1 hg
      exact ⟨wj, wu⟩
/-- the numbers are distinct and lie between 1 and last: so there are at most last of them. -/
theorem Ok.len {last : Nat} {L : List Gr} (h : Ok last L) : L.length ≤ last := by
  have key : ∀ (L : List Gr) (lo : Int), L.Pairwise (fun a b => a.n < b.n) → (∀ g ∈ L, lo < g.n ∧ g.n ≤ (last : Int)) → lo ≤ last → (L.length : Int) ≤ last - lo := by
    intro L
    induction L with
    | nil => intro lo _ _ h; simp; omega
    | cons a L ih =>
      intro lo hp hr _
      obtain ⟨h1, h2⟩ := List.pairwise_cons.1 hp
      have ha := hr a List.mem_cons_self
      have := ih a.n h2 (fun g hg => ⟨h1 g hg, (hr g (List.mem_cons_of_mem _ hg)).2⟩) ha.2
      simp only [List.length_cons]; omega
  have := key L 0 h.asc (fun g hg => by have := h.rng g hg; omega) (by omega)
  omega

/-- found by its number, by its job. -/
def byN (L : List Gr) (i : Int) : Option Gr := L.find? (fun g => decide (g.n = i))
def byJ (L : List Gr) (i : Int) : Option Gr := L.find? (fun g => decide (g.j = i))
theorem byN_none {L : List Gr} {i : Int} (h : byN L i = none) : ∀ g ∈ L, g.n ≠ i := by
  unfold byN at h
  rw [List.find?_eq_none] at h
  intro g hg; simpa using h g hg
theorem byJ_none {L : List Gr} {i : Int} (h : byJ L i = none) : ∀ g ∈ L, g.j ≠ i := by
  unfold byJ at h
  rw [List.find?_eq_none] at h
  intro g hg; simpa using h g hg
theorem byN_some {L : List Gr} {i : Int} {g : Gr} (h : byN L i = some g) : g ∈ L ∧ g.n = i :=
  ⟨List.mem_of_find?_eq_some h, by have := List.find?_some h; simpa using this⟩
theorem byJ_some {L : List Gr} {i : Int} {g : Gr} (h : byJ L i = some g) : g ∈ L ∧ g.j = i :=
  ⟨List.mem_of_find?_eq_some h, by have := List.find?_some h; simpa using this⟩
theorem byN_of {last : Nat} {L : List Gr} (h : Ok last L) {g : Gr} (hg : g ∈ L) : byN L g.n = some g := by
  rcases e : byN L g.n with _ | x
  · exact absurd rfl (byN_none e g hg)
  · rw [h.n_inj (byN_some e).1 hg (byN_some e).2]
theorem byJ_of {last : Nat} {L : List Gr} (h : Ok last L) {g : Gr} (hg : g ∈ L) : byJ L g.j = some g := by
  rcases e : byJ L g.j with _ | x
  · exact absurd rfl (byJ_none e g hg)
  · rw [h.j_inj (byJ_some e).1 hg (byJ_some e).2]
theorem byN_no {L : List Gr} {i : Int} (h : ∀ g ∈ L, g.n ≠ i) : byN L i = none := by
  unfold byN; rw [List.find?_eq_none]; intro g hg; simpa using h g hg
theorem byJ_no {L : List Gr} {i : Int} (h : ∀ g ∈ L, g.j ≠ i) : byJ L i = none := by
  unfold byJ; rw [List.find?_eq_none]; intro g hg; simpa using h g hg

/-- all but those of M. -/
def off (M L : List Gr) : List Gr := L.filter (fun g => decide (g ∉ M))
theorem off_nil (L : List Gr) : off [] L = L := by unfold off; rw [List.filter_eq_self]; intro g _; simp
theorem off_sub (M L : List Gr) : (off M L).Sublist L := List.filter_sublist
theorem off_snoc (M : List Gr) (g : Gr) (L : List Gr) : off (M ++ [g]) L = off [g] (off M L) := by
  unfold off
  rw [List.filter_filter]
  congr 1
  funext x
  by_cases h : x ∈ M <;> by_cases h' : x = g <;> simp [h, h']
theorem mem_off {M L : List Gr} {g : Gr} : g ∈ off M L ↔ g ∈ L ∧ g ∉ M := by unfold off; simp
theorem off_n {last : Nat} {L : List Gr} (h : Ok last L) {g : Gr} (hg : g ∈ L) : off [g] L = L.filter (fun x => decide (x.n ≠ g.n)) := by
  unfold off
  refine List.filter_congr fun x hx => ?_
  simp only [List.mem_singleton, decide_eq_decide]
  exact ⟨fun c e => c (h.n_inj hx hg e), fun c e => c (by rw [e])⟩
theorem off_j {last : Nat} {L : List Gr} (h : Ok last L) {g : Gr} (hg : g ∈ L) : off [g] L = L.filter (fun x => decide (x.j ≠ g.j)) := by
  unfold off
  refine List.filter_congr fun x hx => ?_
  simp only [List.mem_singleton, decide_eq_decide]
  exact ⟨fun c e => c (h.j_inj hx hg e), fun c e => c (by rw [e])⟩

/-- by end, then number. -/
def lt (a b : Gr) : Prop := a.u < b.u ∨ (a.u = b.u ∧ a.n < b.n)
instance (a b : Gr) : Decidable (lt a b) := by unfold lt; infer_instance
theorem lt_irrefl (a : Gr) : ¬ lt a a := by unfold lt; omega
theorem lt_trans {a b c : Gr} (h : lt a b) (g : lt b c) : lt a c := by unfold lt at *; omega
theorem lt_asymm {a b : Gr} (h : lt a b) (g : lt b a) : False := lt_irrefl a (lt_trans h g)
theorem pw_perm {R : Gr → Gr → Prop} (as : ∀ a b, R a b → R b a → False) : ∀ {l k : List Gr}, l.Pairwise R → k.Pairwise R → l.Perm k → l = k
  | [], k, _, _, hp => (List.nil_perm.1 hp).symm
  | a :: l, [], _, _, hp => absurd (List.perm_nil.1 hp) (by simp)
  | a :: l, b :: k, hl, hk, hp => by
    obtain ⟨h1, h2⟩ := List.pairwise_cons.1 hl
    obtain ⟨k1, k2⟩ := List.pairwise_cons.1 hk
    have e : a = b := by
      rcases List.mem_cons.1 (hp.mem_iff.1 List.mem_cons_self) with e | ha
      · exact e
      · rcases List.mem_cons.1 (hp.mem_iff.2 List.mem_cons_self) with e | hb
        · exact e.symm
        · exact (as _ _ (h1 b hb) (k1 a ha)).elim
    subst e
    rw [pw_perm as h2 k2 (List.Perm.cons_inv hp)]
/-- the document's way: g behind all that end no later. -/
def insG (g : Gr) : List Gr → List Gr
  | [] => [g]
  | x :: l => if x.u ≤ g.u then x :: insG g l else g :: x :: l
theorem insG_perm (g : Gr) (l : List Gr) : (insG g l).Perm (g :: l) := by
  induction l with
  | nil => exact List.Perm.refl _
  | cons x l ih =>
    unfold insG
    split
    · exact (ih.cons x).trans (List.Perm.swap _ _ _)
    · exact List.Perm.refl _
theorem insG_pw {g : Gr} {l : List Gr} (h : l.Pairwise lt) (hn : ∀ x ∈ l, x.n < g.n) : (insG g l).Pairwise lt := by
  induction l with
  | nil => exact List.pairwise_singleton _ _
  | cons x l ih =>
    obtain ⟨h1, h2⟩ := List.pairwise_cons.1 h
    unfold insG
    split
    · rename_i hu
      refine List.pairwise_cons.2 ⟨fun y hy => ?_, ih h2 (fun y hy => hn y (List.mem_cons_of_mem _ hy))⟩
      rcases List.mem_cons.1 ((insG_perm g l).mem_iff.1 hy) with rfl | hy
      · have := hn x List.mem_cons_self
        unfold lt; omega
      · exact h1 y hy
    · rename_i hu
      refine List.pairwise_cons.2 ⟨fun y hy => ?_, h⟩
      rcases List.mem_cons.1 hy with rfl | hy
      · unfold lt; omega
      · have := h1 y hy
        unfold lt at *; omega
def srtG (l : List Gr) : List Gr := l.foldl (fun o g => insG g o) []
theorem srtG_snoc (l : List Gr) (g : Gr) : srtG (l ++ [g]) = insG g (srtG l) := by unfold srtG; rw [List.foldl_append]; rfl
theorem fold_perm (l o : List Gr) : (l.foldl (fun o g => insG g o) o).Perm (o ++ l) := by
  induction l generalizing o with
  | nil => simp
  | cons g l ih =>
    refine (ih _).trans (((insG_perm g o).append_right l).trans ?_)
    simpa using List.perm_middle.symm
theorem srtG_perm (l : List Gr) : (srtG l).Perm l := by simpa [srtG] using fold_perm l []
theorem fold_pw (l o : List Gr) (ho : o.Pairwise lt) (hl : l.Pairwise (fun a b => a.n < b.n)) (hb : ∀ x ∈ o, ∀ y ∈ l, x.n < y.n) : (l.foldl (fun o g => insG g o) o).Pairwise lt := by
  induction l generalizing o with
  | nil => exact ho
  | cons g l ih =>
    obtain ⟨h1, h2⟩ := List.pairwise_cons.1 hl
    refine ih _ (insG_pw ho (fun x hx => hb x hx g List.mem_cons_self)) h2 (fun x hx y hy => ?_)
    rcases List.mem_cons.1 ((insG_perm g o).mem_iff.1 hx) with rfl | hx
    · exact h1 y hy
    · exact hb x hx y (List.mem_cons_of_mem _ hy)
theorem srtG_pw {l : List Gr} (hl : l.Pairwise (fun a b => a.n < b.n)) : (srtG l).Pairwise lt := fold_pw l [] .nil hl (fun _ h => by cases h)
theorem srtG_is {l k : List Gr} (hl : l.Pairwise (fun a b => a.n < b.n)) (hk : k.Pairwise lt) (hp : k.Perm l) : k = srtG l :=
  pw_perm (fun _ _ => lt_asymm) hk (srtG_pw hl) (hp.trans (srtG_perm l).symm)
/-- those that are over, those that are left. -/
def ov (t : Nat) (L : List Gr) : List Gr := srtG (L.filter (fun g => decide (g.u ≤ t)))
def lf (t : Nat) (L : List Gr) : List Gr := L.filter (fun g => decide (t < g.u))
theorem mem_ov {t : Nat} {L : List Gr} {g : Gr} : g ∈ ov t L ↔ g ∈ L ∧ g.u ≤ t := by
  unfold ov; rw [(srtG_perm _).mem_iff]; simp
theorem mem_lf {t : Nat} {L : List Gr} {g : Gr} : g ∈ lf t L ↔ g ∈ L ∧ t < g.u := by unfold lf; simp
theorem off_ov (t : Nat) (L M : List Gr) (h : ∀ g, g ∈ M ↔ g ∈ L ∧ g.u ≤ t) : off M L = lf t L := by
  unfold off lf
  refine List.filter_congr fun x hx => ?_
  rw [decide_eq_decide, h x]
  simp only [hx, true_and]; omega
theorem lf_sub (t : Nat) (L : List Gr) : (lf t L).Sublist L := List.filter_sublist
theorem ov_len (t : Nat) (L : List Gr) : (ov t L).length + (lf t L).length = L.length := by
  unfold ov lf
  rw [(srtG_perm _).length_eq]
  induction L with
  | nil => rfl
  | cons g L ih =>
    by_cases h : g.u ≤ t
    · rw [List.filter_cons_of_pos (by simpa using h), List.filter_cons_of_neg (by simp; omega)]
      simp only [List.length_cons]; omega
    · rw [List.filter_cons_of_neg (by simpa using h), List.filter_cons_of_pos (by simp; omega)]
      simp only [List.length_cons]; omega

/-! ### a map of them -/
def gd (g : Gr) : DataW Unit := .agg [.lit (.int .i64 g.n), .lit (.int .i64 g.j), .lit (.int .u64 (g.u : Nat))]
def gv (g : Gr) : Value := .agg #[.int .i64 g.n, .int .i64 g.j, .int .u64 (g.u : Nat)]
/-- how a lease in a map reads. -/
def grE : Value → Option (DataW Unit × List MemPlace)
  | .agg cs => match cs.toList with
    | [.int .i64 n, .int .i64 j, .int .u64 x] => if 0 ≤ x then some (.agg [.lit (.int .i64 n), .lit (.int .i64 j), .lit (.int .u64 x)], []) else none
    | _ => none
  | _ => none
theorem grE_mk (g : Gr) : grE (gv g) = some (gd g, []) := by
  unfold grE gv gd
  simp
theorem grE_inv {v : Value} {z : DataW Unit × List MemPlace} (h : grE v = some z) : ∃ g, v = gv g ∧ z = (gd g, []) := by
  unfold grE at h
  split at h
  · rename_i cs
    split at h
    · rename_i n j x e
      split at h
      · rename_i hx
        refine ⟨⟨n, j, x.toNat⟩, ?_, ?_⟩
        · unfold gv
          have : cs = #[.int .i64 n, .int .i64 j, .int .u64 x] := by apply Array.toList_inj.1; rw [e]
          rw [this]; simp only [Int.toNat_of_nonneg hx]
        · cases h
          unfold gd; simp only [Int.toNat_of_nonneg hx]
      · cases h
    · cases h
  · cases h
theorem gd_inj {a b : Gr} (h : gd a = gd b) : a = b := by
  unfold gd at h
  obtain ⟨an, aj, au⟩ := a
  obtain ⟨bn, bj, bu⟩ := b
  simp only [DataW.agg.injEq, List.cons.injEq, DataW.lit.injEq, Lit.int.injEq, true_and, and_true] at h
  obtain ⟨h1, h2, h3⟩ := h
  rw [h1, h2]
  congr 1
  omega
theorem gv_inj {a b : Gr} (h : gv a = gv b) : a = b := gd_inj (by have := congrArg grE h; rw [grE_mk, grE_mk] at this; simpa using this)
/-- the map holds what val says of L's members at their keys, and nothing else. -/
structure MapOf (key : Gr → Int) (val : Gr → DataW Unit) (D : DataW Unit) (L : List Gr) : Prop where
  tidy : Tidy D
  size : Maps.size D = L.length
  yes : ∀ g ∈ L, Maps.has D (ky (key g)) = true ∧ ∀ z, D.atKey (ky (key g)) z = val g
  no : ∀ i, (∀ g ∈ L, key g ≠ i) → Maps.has D (ky i) = false ∧ ∀ z, D.atKey (ky i) z = z
variable {key : Gr → Int} {val : Gr → DataW Unit} {D : DataW Unit} {L M : List Gr}
theorem MapOf.nil : MapOf key val (.map []) [] := ⟨Maps.tidy_empty, rfl, (fun _ h => by cases h), fun _ _ => ⟨rfl, fun _ => rfl⟩⟩
theorem MapOf.put (h : MapOf key val D L) {g : Gr} (hg : ∀ x ∈ L, key x ≠ key g) : MapOf key val (D.put (ky (key g)) (val g)) (L ++ [g]) := by
  have hno := h.no (key g) hg
  refine ⟨h.tidy.put (ky_lit _) _, ?_, ?_, ?_⟩
  · rw [Maps.size_put h.tidy, hno.1, h.size]; simp
  · intro x hx
    rcases List.mem_append.1 hx with hx | hx
    · have hne : ky (key x) ≠ ky (key g) := ky_ne (hg x hx)
      rw [Maps.has_put_other hne]
      exact ⟨(h.yes x hx).1, fun z => by rw [Maps.atKey_put_other hne]; exact (h.yes x hx).2 z⟩
    · obtain rfl := List.mem_singleton.1 hx
      exact ⟨Maps.has_put_same h.tidy.isMap (ky_lit _) _, fun z => Maps.atKey_put_same h.tidy.isMap (ky_lit _) _ _⟩
  · intro i hi
    have hne : ky i ≠ ky (key g) := ky_ne (fun c => hi g (by simp) c.symm)
    have := h.no i (fun x hx => hi x (List.mem_append_left _ hx))
    rw [Maps.has_put_other hne]
    exact ⟨this.1, fun z => by rw [Maps.atKey_put_other hne]; exact this.2 z⟩
theorem strike_len (hn : L.Pairwise (fun a b => key a ≠ key b)) {g : Gr} (hg : g ∈ L) : (L.filter (fun x => decide (key x ≠ key g))).length + 1 = L.length := by
  induction L with
  | nil => cases hg
  | cons x L ih =>
    obtain ⟨h1, h2⟩ := List.pairwise_cons.1 hn
    rcases List.mem_cons.1 hg with rfl | hm
    · rw [List.filter_cons_of_neg (by simp), List.filter_eq_self.2]
      · rfl
      · intro y hy
        simp only [decide_eq_true_eq]
        exact fun c => h1 y hy c.symm
    · have hne : key x ≠ key g := h1 g hm
      rw [List.filter_cons_of_pos (by simpa using hne), List.length_cons, ih h2 hm, List.length_cons]
theorem MapOf.del (h : MapOf key val D L) (hn : L.Pairwise (fun a b => key a ≠ key b)) {g : Gr} (hg : g ∈ L) : MapOf key val (D.del (ky (key g))) (L.filter (fun x => decide (key x ≠ key g))) := by
  refine ⟨h.tidy.del _, ?_, ?_, ?_⟩
  · have h1 := Maps.size_del (k := ky (key g)) h.tidy
    rw [(h.yes g hg).1, h.size, ← strike_len hn hg] at h1
    simp only [if_true] at h1
    omega
  · intro x hx
    rw [List.mem_filter, decide_eq_true_eq] at hx
    have hne : ky (key x) ≠ ky (key g) := ky_ne hx.2
    rw [Maps.has_del_other hne]
    exact ⟨(h.yes x hx.1).1, fun z => by rw [Maps.atKey_del_other hne]; exact (h.yes x hx.1).2 z⟩
  · intro i hi
    by_cases e : i = key g
    · subst e
      exact ⟨Maps.has_del_same, fun z => Maps.atKey_del_same _⟩
    · have hne : ky i ≠ ky (key g) := ky_ne e
      have := h.no i (fun x hx c => hi x (List.mem_filter.2 ⟨hx, by simp only [decide_eq_true_eq]; rw [c]; exact e⟩) c)
      rw [Maps.has_del_other hne]
      exact ⟨this.1, fun z => by rw [Maps.atKey_del_other hne]; exact this.2 z⟩
/-- what a key that is there holds. -/
theorem MapOf.hit (h : MapOf key val D L) {i : Int} (hi : Maps.has D (ky i) = true) : ∃ g ∈ L, key g = i := by
  rcases Classical.em (∃ g ∈ L, key g = i) with c | c
  · exact c
  · rw [(h.no i (fun g hg e => c ⟨g, hg, e⟩)).1] at hi
    cases hi
end LE
end Go.Proofs.YtlopijcpnfkcgaaGreat
