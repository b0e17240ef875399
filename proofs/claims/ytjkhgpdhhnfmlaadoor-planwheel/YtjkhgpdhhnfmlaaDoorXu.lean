/- Three wheels side by side. -/
import Derived.Test.YtjkhgpdhhnfmlaaDoorXt
namespace Go.Proofs.YtjkhgpdhhnfmlaaDoor
open Go.RowKit TM MK
open RG (Du La listR putB putR dropR dropO takeR hasId Srt)
open VM (RK BK lvl idsD)
set_option linter.unusedSimpArgs false

structure Tri (w0 w : World) (A B C : Sh) (na nb nc : Nat) (La Lb Lc : List Du) (F : Nat → Prop) : Prop where
  a : WR w A na La
  b : WR w B nb Lb
  c : WR w C nc Lc
  ab : ∀ k, wfoot A k → ¬ wfoot B k
  bc : ∀ k, wfoot B k → ¬ wfoot C k
  ca : ∀ k, wfoot C k → ¬ wfoot A k
  ma : ∀ k, wfoot A k → w0.heap.size ≤ k
  mb : ∀ k, wfoot B k → w0.heap.size ≤ k
  mc : ∀ k, wfoot C k → w0.heap.size ≤ k
  grw : Grw w0 w
  fr : ∀ k, F k → k < w.heap.size ∧ ¬ wfoot A k ∧ ¬ wfoot B k ∧ ¬ wfoot C k
theorem Tri.rot {w0 w : World} {A B C : Sh} {na nb nc : Nat} {La Lb Lc : List Du} {F : Nat → Prop} (h : Tri w0 w A B C na nb nc La Lb Lc F) : Tri w0 w B C A nb nc na Lb Lc La F :=
  ⟨h.b, h.c, h.a, h.bc, h.ca, h.ab, h.mb, h.mc, h.ma, h.grw, fun k hk => ⟨(h.fr k hk).1, (h.fr k hk).2.2.1, (h.fr k hk).2.2.2, (h.fr k hk).2.1⟩⟩
theorem Tri.later {w0 w x : World} {A B C : Sh} {na nb nc : Nat} {La Lb Lc : List Du} {F G : Nat → Prop} (h : Tri w0 w A B C na nb nc La Lb Lc F) (g : Grw w x) (e : ∀ k, G k → F k ∨ (w.heap.size ≤ k ∧ k < x.heap.size)) : Tri w0 x A B C na nb nc La Lb Lc G := by
  refine ⟨h.a.later g, h.b.later g, h.c.later g, h.ab, h.bc, h.ca, h.ma, h.mb, h.mc, h.grw.trans g, fun k hk => ?_⟩
  rcases e k hk with c | c
  · exact ⟨Nat.lt_of_lt_of_le (h.fr k c).1 (Below.size g), (h.fr k c).2⟩
  · exact ⟨c.2, fun q => by have := h.a.lt q; omega, fun q => by have := h.b.lt q; omega, fun q => by have := h.c.lt q; omega⟩
theorem Tri.put {w0 w x : World} {A B C : Sh} {na nb nc : Nat} {La Lb Lc : List Du} {F G : Nat → Prop} (h : Tri w0 w A B C na nb nc La Lb Lc F) (f : Frm G w x) (e : ∀ k, G k → F k ∧ w0.heap.size ≤ k) (hp : 0 < w0.heap.size) : Tri w0 x A B C na nb nc La Lb Lc F := by
  have h0 : ¬ G 0 := fun c => by have := (e 0 c).2; omega
  exact ⟨h.a.frm f (fun k hk c => (h.fr k (e k c).1).2.1 hk) h0, h.b.frm f (fun k hk c => (h.fr k (e k c).1).2.2.1 hk) h0, h.c.frm f (fun k hk c => (h.fr k (e k c).1).2.2.2 hk) h0, h.ab, h.bc, h.ca, h.ma, h.mb, h.mc, f.grw h.grw (fun k hk => (e k hk).2), fun k hk => ⟨Nat.lt_of_lt_of_le (h.fr k hk).1 f.size, (h.fr k hk).2⟩⟩
/-- a step of the first wheel; more blocks that are none of the three's. -/
theorem Tri.step {w0 w w' : World} {A A' B C : Sh} {na nb nc na' : Nat} {La Lb Lc La' : List Du} {F G : Nat → Prop} (h : Tri w0 w A B C na nb nc La Lb Lc F) (e : A'.p = A.p) (g1 : WR w' A' na' La') (g2 : Frm (wfoot A) w w') (g3 : ∀ q, wfoot A' q → wfoot A q ∨ w.heap.size ≤ q) (hG : ∀ k, G k → F k ∨ (w.heap.size ≤ k ∧ k < w'.heap.size ∧ ¬ wfoot A' k)) : Tri w0 w' A' B C na' nb nc La' Lb Lc G ∧ Frm (fun k => ¬ F k) w w' := by
  have _ := e
  have z : ∀ k, wfoot A' k → ¬ wfoot B k ∧ ¬ wfoot C k := fun k hk => by
    rcases g3 k hk with c | c
    · exact ⟨h.ab k c, fun q => h.ca k q c⟩
    · exact ⟨fun q => by have := h.b.lt q; omega, fun q => by have := h.c.lt q; omega⟩
  have z0 : ¬ wfoot A 0 := h.a.zero
  refine ⟨⟨g1, h.b.frm g2 (fun k hk c => h.ab k c hk) z0, h.c.frm g2 (fun k hk c => h.ca k hk c) z0, fun k hk => (z k hk).1, h.bc, fun k hk c => (z k c).2 hk, fun k hk => ?_, h.mb, h.mc, g2.grw h.grw h.ma, fun k hk => ?_⟩, g2.mono (fun k hk c => (h.fr k c).2.1 hk)⟩
  · rcases g3 k hk with c | c
    · exact h.ma k c
    · exact Nat.le_trans (Below.size h.grw) c
  · rcases hG k hk with c | c
    · have hf := h.fr k c
      refine ⟨Nat.lt_of_lt_of_le hf.1 g2.size, fun q => ?_, hf.2.2⟩
      rcases g3 k q with q | q
      · exact hf.2.1 q
      · omega
    · exact ⟨c.2.1, c.2.2, fun q => by have := h.b.lt q; omega, fun q => by have := h.c.lt q; omega⟩
/-- Advance of the first of three wheels. -/
def TriQ (w0 w : World) (B C : Sh) (pa na nb nc : Nat) (La Lb Lc l : List Du) (F : Nat → Prop) (e : Ending) (w' : World) : Prop :=
  ∃ v A', e = .returned (.tuple #[v, .int .i64 0]) ∧ A'.p = pa ∧ RowD w' v l ∧ Tri w0 w' A' B C na nb nc La Lb Lc (fun k => F k ∨ v.ownBlock = some k) ∧ Frm (fun k => ¬ F k) w w' ∧ ∀ k, v.ownBlock = some k → w.heap.size ≤ k
theorem tri_adv (w0 : World) (A B C : Sh) (na nb nc n to : Nat) (La Lb Lc L' l : List Du) (F : Nat → Prop) (w : World) (h : Tri w0 w A B C na nb nc La Lb Lc F) (hs : to < 2 ^ 64) (ht : na + n = to) (h1 : La.dropWhile (dueP to) = L') (h2 : La.takeWhile (dueP to) = l) :
    Calls Tryd.prog 15 #[.pointer (some ⟨A.p, 0, none⟩), .int .u64 n] w (TriQ w0 w B C A.p to nb nc L' Lb Lc l F) := by
  subst ht h1 h2
  refine (advance_ok A na n La w h.a hs).mono ?_
  rintro e w' ⟨v, A', he, hr, hp, g1, g2, g3, g4⟩
  obtain ⟨t, f⟩ := h.step (G := fun k => F k ∨ v.ownBlock = some k) hp g1 g2 g3 (fun k hk => hk.imp id (fun q => g4 k q))
  exact ⟨v, A', he, hp, hr, t, f, fun k hk => (g4 k hk).1⟩
def PopT (w0 w : World) (B C : Sh) (pa na nb nc : Nat) (La Lb Lc : List Du) (F : Nat → Prop) (d : Du) (o : Bool) (e : Ending) (w' : World) : Prop :=
  ∃ A', e = .returned (.tuple #[.agg #[.int .i64 d.id, .int .u64 (d.t : Nat)], .bool o]) ∧ A'.p = pa ∧ Tri w0 w' A' B C na nb nc La Lb Lc F ∧ Frm (fun k => ¬ F k) w w'
theorem tri_pop (w0 : World) (A B C : Sh) (na nb nc to k : Nat) (L Lb Lc : List Du) (F : Nat → Prop) (w : World) (h : Tri w0 w A B C na nb nc (L.drop k) Lb Lc F) (hs : Srt L) (hk : k ≤ twN (dueP to) L) (hto : to < 2 ^ 64) (hn : na ≤ to) :
    (∃ d : Du, k < twN (dueP to) L ∧ L.take (k + 1) = L.take k ++ [d] ∧ d.t ≤ to ∧ Calls Tryd.prog 13 #[.pointer (some ⟨A.p, 0, none⟩), .int .u64 to] w (PopT w0 w B C A.p d.t nb nc (L.drop (k + 1)) Lb Lc F d true)) ∨
    (k = twN (dueP to) L ∧ Calls Tryd.prog 13 #[.pointer (some ⟨A.p, 0, none⟩), .int .u64 to] w (PopT w0 w B C A.p to nb nc (L.drop k) Lb Lc F ⟨0, 0⟩ false)) := by
  rcases pop_at A na to k L w h.a hs hk hto hn with ⟨hk', g, q⟩ | ⟨g, q⟩
  · left
    have h2 := (twN_yes (p := dueP to) (B := L) (i := k) g).2
    refine ⟨L[k], g, by rw [List.take_succ_eq_append_getElem hk'], of_decide_eq_true h2, q.mono ?_⟩
    rintro e w' ⟨he, A', hp, g1, g2, g3⟩
    obtain ⟨t, f⟩ := h.step (G := F) hp g1 g2 g3 (fun k hk => Or.inl hk)
    exact ⟨A', he, hp, t, f⟩
  · right
    refine ⟨g, q.mono ?_⟩
    rintro e w' ⟨he, A', hp, g1, g2, g3⟩
    obtain ⟨t, f⟩ := h.step (G := F) hp g1 g2 g3 (fun k hk => Or.inl hk)
    exact ⟨A', he, hp, t, f⟩
/-- two advances, one behind the other. -/
theorem due_split {L : List Du} (hs : Srt L) {t1 t2 : Nat} (h : t1 ≤ t2) : L.takeWhile (dueP t1) ++ (L.dropWhile (dueP t1)).takeWhile (dueP t2) = L.takeWhile (dueP t2) ∧ (L.dropWhile (dueP t1)).dropWhile (dueP t2) = L.dropWhile (dueP t2) := by
  induction L with
  | nil => exact ⟨rfl, rfl⟩
  | cons d L ih =>
    have hs' := List.pairwise_cons.1 hs
    by_cases c : d.t ≤ t1
    · have e1 : dueP t1 d = true := decide_eq_true c
      have e2 : dueP t2 d = true := decide_eq_true (by omega)
      obtain ⟨i1, i2⟩ := ih hs'.2
      rw [List.takeWhile_cons, List.dropWhile_cons, List.takeWhile_cons, List.dropWhile_cons, e1, e2, if_pos rfl, if_pos rfl, if_pos rfl, if_pos rfl]
      exact ⟨by rw [List.cons_append, i1], i2⟩
    · have e1 : dueP t1 d = false := decide_eq_false c
      rw [List.takeWhile_cons, List.dropWhile_cons, e1]
      simp
end Go.Proofs.YtjkhgpdhhnfmlaaDoor
