/- Timers by number: the first place of a number, and what lies there. Nothing of the program is named here. -/
import Derived.Test.YtjkhgpdhhnfmlaaDoorXs
import Derived.Test.YtjkhgpdhhnfmlaaDoorJa
namespace Go.Proofs.YtjkhgpdhhnfmlaaDoor
namespace JM
open RG VM

/-- the place of the first timer of that number; -1. -/
def fx : List Du → Int → Int
  | [], _ => -1
  | d :: l, i => if d.id = i then 0 else (if fx l i = -1 then -1 else fx l i + 1)
theorem fx_or (l : List Du) (i : Int) : (fx l i = -1 ∧ atO l i = none) ∨ ∃ k : Nat, ∃ h : k < l.length, fx l i = k ∧ l[k].id = i ∧ atO l i = some l[k].t ∧ ∀ j (g : j < k), (l[j]'(by omega)).id ≠ i := by
  induction l with
  | nil => exact Or.inl ⟨rfl, rfl⟩
  | cons d l ih =>
    by_cases e : d.id = i
    · right
      refine ⟨0, by simp, ?_, e, ?_, fun j g => by omega⟩
      · simp [fx, e]
      · simp [atO, e]
    · rcases ih with ⟨h1, h2⟩ | ⟨k, hk, h1, h2, h4, h3⟩
      · left
        refine ⟨by simp [fx, e, h1], ?_⟩
        unfold atO at *
        rw [List.find?_cons, decide_eq_false e]
        exact h2
      · right
        refine ⟨k + 1, by simpa using hk, ?_, by simpa using h2, ?_, fun j g => ?_⟩
        · have : ¬ ((k : Int) = -1) := by omega
          simp [fx, e, h1, this]
        · unfold atO at *
          rw [List.find?_cons, decide_eq_false e]
          simpa using h4
        · cases j with
          | zero => simpa using e
          | succ j => simpa using h3 j (by omega)
theorem fx_at {l : List Du} {i : Int} {k : Nat} (h : k < l.length) (e : l[k].id = i) (f : ∀ j (g : j < k), (l[j]'(by omega)).id ≠ i) : fx l i = k := by
  rcases fx_or l i with ⟨_, h2⟩ | ⟨m, hm, h1, h2, _, h3⟩
  · exact absurd e (atO_no h2 _ (List.getElem_mem h))
  · rcases Nat.lt_trichotomy m k with g | g | g
    · exact absurd h2 (f m g)
    · rw [h1, g]
    · exact absurd e (h3 k g)
theorem fx_no {l : List Du} {i : Int} (f : ∀ j (g : j < l.length), l[j].id ≠ i) : fx l i = -1 := by
  rcases fx_or l i with ⟨h, _⟩ | ⟨m, hm, h1, h2, _, h3⟩
  · exact h
  · exact absurd h2 (f m hm)
theorem cut_del {l : List Du} (h : (idsD l).Nodup) {k : Nat} (hk : k < l.length) {i : Int} (e : l[k].id = i) : l.take k ++ l.drop (k + 1) = VM.del i l := by
  have h1 : l = l.take k ++ l[k] :: l.drop (k + 1) := by rw [List.getElem_cons_drop hk, List.take_append_drop]
  have hn := h
  rw [h1] at hn
  unfold idsD at hn
  rw [List.map_append, List.map_cons, List.nodup_append, List.nodup_cons] at hn
  obtain ⟨_, ⟨n1, _⟩, n2⟩ := hn
  have a : (l.take k).filter (fun d => decide (d.id ≠ i)) = l.take k := by
    rw [List.filter_eq_self]
    intro d hd
    simp only [ne_eq, decide_not, Bool.not_eq_eq_eq_not, Bool.not_true, decide_eq_false_iff_not]
    exact fun c => n2 d.id (List.mem_map.2 ⟨d, hd, rfl⟩) l[k].id List.mem_cons_self (c.trans e.symm)
  have b : (l.drop (k + 1)).filter (fun d => decide (d.id ≠ i)) = l.drop (k + 1) := by
    rw [List.filter_eq_self]
    intro d hd
    simp only [ne_eq, decide_not, Bool.not_eq_eq_eq_not, Bool.not_true, decide_eq_false_iff_not]
    exact fun c => n1 (List.mem_map.2 ⟨d, hd, c.trans e.symm⟩)
  unfold VM.del
  conv => rhs; rw [h1]
  rw [List.filter_append, List.filter_cons, if_neg (by simp [e]), a, b]
theorem sort_put {l : List Du} {d : Du} (h : Srt l) : sort (l ++ [d]) = put d l := by rw [sort_snoc, sort_is h (List.Perm.refl _)]
theorem put_len (d : Du) (l : List Du) : (put d l).length = l.length + 1 := by rw [(put_perm d l).length_eq]; rfl
/-- what pops up to a time, from a list in order. -/
theorem pop_cases (L : List Du) (to : Nat) : (∃ d l, L = d :: l ∧ d.t ≤ to ∧ L.takeWhile (dueP to) = d :: l.takeWhile (dueP to) ∧ L.dropWhile (dueP to) = l.dropWhile (dueP to)) ∨ ((∀ d l, L = d :: l → ¬ d.t ≤ to) ∧ L.takeWhile (dueP to) = [] ∧ L.dropWhile (dueP to) = L) := by
  cases L with
  | nil => exact Or.inr ⟨fun d l e => (by cases e), rfl, rfl⟩
  | cons d l =>
    by_cases h : d.t ≤ to
    · left
      have e : dueP to d = true := decide_eq_true h
      exact ⟨d, l, rfl, h, by rw [List.takeWhile_cons, e]; rfl, by rw [List.dropWhile_cons, e]; rfl⟩
    · right
      have e : dueP to d = false := decide_eq_false h
      refine ⟨fun a b e => ?_, by rw [List.takeWhile_cons, e]; rfl, by rw [List.dropWhile_cons, e]; rfl⟩
      injection e with e1 e2
      subst e1
      exact h
theorem later_all {L : List Du} (hs : Srt L) {to : Nat} (h : ∀ d l, L = d :: l → ¬ d.t ≤ to) : ∀ d ∈ L, to < d.t := by
  cases L with
  | nil => intro d hd; cases hd
  | cons x l =>
    have hx := h x l rfl
    intro d hd
    rcases List.mem_cons.1 hd with e | e
    · subst e; omega
    · have := (List.pairwise_cons.1 hs).1 d e
      rw [le_iff] at this
      omega
end JM
end Go.Proofs.YtjkhgpdhhnfmlaaDoor

/- The document's wheel in memory, and the project's beside it. Nothing is walked here. -/
namespace Go.Proofs.YtjkhgpdhhnfmlaaDoor
open Go.RowKit TM MK
open RG (Du Srt)
open VM (lvl idsD)
set_option linter.unusedSimpArgs false

/-- the document's wheel at block r: its row v, its now. -/
structure RW (w : World) (r : Nat) (v : Value) (now : Nat) (L : List Du) : Prop where
  kp : Kp w r v (.int .u64 (now : Nat))
  row : ∃ ao cap, v = .slice ao L.length cap ∧ L.length ≤ cap ∧ (ao = none → L.length = 0 ∧ cap = 0) ∧ Lies w ao (cd L)
  blk : ∀ k, v.ownBlock = some k → k ≠ r ∧ k < w.heap.size
theorem RW.frm {F : Nat → Prop} {w x : World} {r : Nat} {v : Value} {now : Nat} {L : List Du} (h : RW w r v now L) (g : Frm F w x) (hr : ¬ F r) (hv : ∀ k, v.ownBlock = some k → ¬ F k) : RW x r v now L := by
  refine ⟨h.kp.frm g hr, ?_, fun k hk => ⟨(h.blk k hk).1, Nat.lt_of_lt_of_le (h.blk k hk).2 g.size⟩⟩
  obtain ⟨ao, cap, rfl, h1, h2, h3⟩ := h.row
  exact ⟨ao, cap, rfl, h1, h2, h3.frm g (fun a e => hv a.block (by rw [e]; rfl))⟩
theorem RW.later {w x : World} {r : Nat} {v : Value} {now : Nat} {L : List Du} (h : RW w r v now L) (g : Grw w x) : RW x r v now L :=
  h.frm (g.frm (fun _ => False)) (fun e => e) (fun _ _ e => e)
/-- behind a call that may write it. -/
def RQW (w : World) (r : Nat) (v : Value) (now : Nat) (L : List Du) (w' : World) : Prop := ∃ v', RW w' r v' now L ∧ Frm (fun k => k = r) w w' ∧ ∀ k, v'.ownBlock = some k → v.ownBlock = some k ∨ w.heap.size ≤ k
theorem RQW.same {w w' : World} {r : Nat} {v : Value} {now : Nat} {L : List Du} (h : RW w r v now L) (g : Grw w w') : RQW w r v now L w' := ⟨v, h.later g, g.frm _, fun _ e => Or.inl e⟩
/-- a new row is stored in cell 0. -/
theorem RW.stored' {w y : World} {r : Nat} {v : Value} {now : Nat} {L L' : List Du} (h : RW w r v now L) (g : Grw w y) {ao : Option Addr} {cap : Nat} (h1 : L'.length ≤ cap) (h2 : ao = none → L'.length = 0 ∧ cap = 0) (h3 : Lies y ao (cd L'))
    (hb : ∀ k, (Value.slice ao L'.length cap).ownBlock = some k → w.heap.size ≤ k ∧ k < y.heap.size) : RW (y.setCell ⟨r, 0, none⟩ (.slice ao L'.length cap)) r (.slice ao L'.length cap) now L' ∧ Frm (fun k => k = r) w (y.setCell ⟨r, 0, none⟩ (.slice ao L'.length cap)) := by
  have K := h.kp.later g
  have f : Frm (fun k => k = r) y (y.setCell ⟨r, 0, none⟩ (.slice ao L'.length cap)) := frm_set y _ _ rfl
  refine ⟨⟨⟨⟨?_, ?_, ?_, ?_⟩, ?_⟩, ⟨ao, cap, rfl, h1, h2, ?_⟩, fun k hk => ⟨?_, ?_⟩⟩, (g.frm _).trans f (fun _ e => Or.inl e)⟩
  · have := K.t.c0; simp [go_sem, this]
  · exact (World.cell?_setCell_other y _ _ _ (fun e => by injection e with _ e; cases e)).trans K.t.c1
  · have := K.t.f0; simp [go_sem, this]
  · have := K.t.f1; simp [go_sem, this]
  · exact Nat.lt_of_lt_of_le K.lt f.size
  · exact h3.frm f (fun a e c => by
      have := (hb a.block (by rw [e]; rfl)).1
      have := h.kp.lt
      omega)
  · have := (hb k hk).1
    have := h.kp.lt
    omega
  · exact Nat.lt_of_lt_of_le (hb k hk).2 f.size
theorem RW.stored {w y : World} {r : Nat} {v : Value} {now : Nat} {L L' : List Du} (h : RW w r v now L) (g : Grw w y) {ao : Option Addr} {cap : Nat} (h1 : L'.length ≤ cap) (h2 : ao = none → L'.length = 0 ∧ cap = 0) (h3 : Lies y ao (cd L'))
    (hb : ∀ k, (Value.slice ao L'.length cap).ownBlock = some k → w.heap.size ≤ k ∧ k < y.heap.size) : RQW w r v now L' (y.setCell ⟨r, 0, none⟩ (.slice ao L'.length cap)) :=
  ⟨_, (h.stored' g h1 h2 h3 hb).1, (h.stored' g h1 h2 h3 hb).2, fun k hk => Or.inr (hb k hk).1⟩
/-- .. and two cells of a new block are written. -/
theorem RW.stored2 {w y : World} {r Z : Nat} {v : Value} {now : Nat} {L L' : List Du} (h : RW w r v now L) (g : Grw w y) {ao : Option Addr} {cap : Nat} (h1 : L'.length ≤ cap) (h2 : ao = none → L'.length = 0 ∧ cap = 0) (h3 : Lies y ao (cd L'))
    (hb : ∀ k, (Value.slice ao L'.length cap).ownBlock = some k → w.heap.size ≤ k ∧ k < y.heap.size) (hZ : w.heap.size ≤ Z) (hZb : ∀ k, (Value.slice ao L'.length cap).ownBlock = some k → k ≠ Z) (a b : Value) :
    RQW w r v now L' (((y.setCell ⟨r, 0, none⟩ (.slice ao L'.length cap)).setCell ⟨Z, 0, none⟩ a).setCell ⟨Z, 1, none⟩ b) := by
  obtain ⟨q1, q2⟩ := h.stored' g h1 h2 h3 hb
  have f : Frm (fun k => k = Z) (y.setCell ⟨r, 0, none⟩ (.slice ao L'.length cap)) (((y.setCell ⟨r, 0, none⟩ (.slice ao L'.length cap)).setCell ⟨Z, 0, none⟩ a).setCell ⟨Z, 1, none⟩ b) := (frm_set (F := fun k => k = Z) _ _ _ rfl).set ⟨Z, 1, none⟩ b (Or.inl rfl)
  exact ⟨_, q1.frm f (fun e => by have := h.kp.lt; omega) (fun k hk e => hZb k hk e), q2.trans f (fun k e => Or.inr (by omega)), fun k hk => Or.inr (hb k hk).1⟩
/-- now is stored in cell 1. -/
theorem RW.turn {w : World} {r : Nat} {v : Value} {now : Nat} {L : List Du} (h : RW w r v now L) (now' : Nat) : RW (w.setCell ⟨r, 1, none⟩ (.int .u64 (now' : Nat))) r v now' L := by
  have f : Frm (fun k => k = r) w (w.setCell ⟨r, 1, none⟩ (.int .u64 (now' : Nat))) := frm_set w _ _ rfl
  obtain ⟨ao, cap, rfl, h1, h2, h3⟩ := h.row
  refine ⟨⟨⟨?_, ?_, ?_, ?_⟩, ?_⟩, ⟨ao, cap, rfl, h1, h2, ?_⟩, fun k hk => ⟨(h.blk k hk).1, Nat.lt_of_lt_of_le (h.blk k hk).2 f.size⟩⟩
  · exact (World.cell?_setCell_other w _ _ _ (fun e => by injection e with _ e; cases e)).trans h.kp.t.c0
  · have := h.kp.t.c1; simp [go_sem, this]
  · have := h.kp.t.f0; simp [go_sem, this]
  · have := h.kp.t.f1; simp [go_sem, this]
  · exact Nat.lt_of_lt_of_le h.kp.lt f.size
  · exact h3.frm f (fun a e c => (h.blk a.block (by rw [e]; rfl)).1 c)
theorem RQW.turn {w w' : World} {r : Nat} {v : Value} {now : Nat} {L : List Du} (h : RQW w r v now L w') (now' : Nat) : RQW w r v now' L (w'.setCell ⟨r, 1, none⟩ (.int .u64 (now' : Nat))) := by
  obtain ⟨v', h1, h2, h3⟩ := h
  exact ⟨v', h1.turn now', h2.trans (frm_set (F := fun k => k = r) w' _ _ rfl) (fun _ e => Or.inl e), h3⟩
theorem RQW.trans {w w1 w2 : World} {r : Nat} {v : Value} {now now2 : Nat} {L L2 : List Du} (h : RQW w r v now L w1) (h2 : ∀ v1, RW w1 r v1 now L → RQW w1 r v1 now2 L2 w2) : RQW w r v now2 L2 w2 := by
  obtain ⟨v1, a1, a2, a3⟩ := h
  obtain ⟨v2, b1, b2, b3⟩ := h2 v1 a1
  refine ⟨v2, b1, a2.trans b2 (fun _ e => Or.inl e), fun k hk => ?_⟩
  rcases b3 k hk with c | c
  · exact a3 k c
  · exact Or.inr (Nat.le_trans a2.size c)

/-- the project's wheel at p (now a, timers A) and the document's at r (now b, timers B), both made since w0; the blocks that X names are none of theirs. -/
structure HS (w0 w : World) (p a : Nat) (A : List Du) (r b : Nat) (B : List Du) (X : Nat → Prop) : Prop where
  ex : ∃ v, RW w r v b B ∧ MF w0 w p a A (fun k => (k = r ∨ v.ownBlock = some k) ∨ X k) ∧ (∀ k, v.ownBlock = some k → w0.heap.size ≤ k)
  rg : w0.heap.size ≤ r
  nx : ∀ k, X k → k ≠ r
  pos : 0 < w0.heap.size
section
variable {w0 w x : World} {p a : Nat} {A : List Du} {r b : Nat} {B : List Du} {X Y : Nat → Prop}
theorem HS.grw (h : HS w0 w p a A r b B X) : Grw w0 w := let ⟨_, _, h2, _⟩ := h.ex; h2.grw
theorem HS.gl (h : HS w0 w p a A r b B X) : GL a A := let ⟨_, _, h2, _⟩ := h.ex; h2.mw.gl
theorem HS.tab (h : HS w0 w p a A r b B X) : Tab w := let ⟨_, _, h2, _⟩ := h.ex; h2.mw.tab
theorem HS.rw (h : HS w0 w p a A r b B X) : ∃ v, RW w r v b B := let ⟨v, h1, _⟩ := h.ex; ⟨v, h1⟩
theorem HS.mw (h : HS w0 w p a A r b B X) : MW w0 w p a A := let ⟨_, _, h2, _⟩ := h.ex; h2.mw
theorem HS.mono (h : HS w0 w p a A r b B X) (e : ∀ k, Y k → X k) : HS w0 w p a A r b B Y :=
  ⟨let ⟨v, h1, h2, h3⟩ := h.ex; ⟨v, h1, h2.mono (fun k hk => hk.imp id (e k)), h3⟩, h.rg, fun k hk => h.nx k (e k hk), h.pos⟩
theorem HS.later (h : HS w0 w p a A r b B X) (g : Grw w x) : HS w0 x p a A r b B X :=
  ⟨let ⟨v, h1, h2, h3⟩ := h.ex; ⟨v, h1.later g, h2.later g, h3⟩, h.rg, h.nx, h.pos⟩
theorem HS.rlt (h : HS w0 w p a A r b B X) : r < w.heap.size := let ⟨_, h1, _⟩ := h.ex; h1.kp.lt
/-- new blocks are none of theirs. -/
theorem HS.add (h : HS w0 w p a A r b B X) (g : Grw w x) (e : ∀ k, Y k → X k ∨ (w.heap.size ≤ k ∧ k < x.heap.size)) : HS w0 x p a A r b B Y := by
  refine ⟨?_, h.rg, fun k hk => ?_, h.pos⟩
  · obtain ⟨v, h1, h2, h3⟩ := h.ex
    refine ⟨v, h1.later g, h2.add g (fun k hk => ?_), h3⟩
    rcases hk with c | c
    · exact Or.inl (Or.inl c)
    · rcases e k c with d | d
      · exact Or.inl (Or.inr d)
      · exact Or.inr d
  · rcases e k hk with d | d
    · exact h.nx k d
    · have := h.rlt; omega
/-- the document's wheel has turned. -/
theorem HS.ref {w' : World} {b' : Nat} {B' : List Du} {v : Value} (hv : RW w r v b B ∧ MF w0 w p a A (fun k => (k = r ∨ v.ownBlock = some k) ∨ X k) ∧ (∀ k, v.ownBlock = some k → w0.heap.size ≤ k)) (h : HS w0 w p a A r b B X) (q : RQW w r v b' B' w') : HS w0 w' p a A r b' B' X ∧ Frm (fun k => ¬ X k) w w' := by
  obtain ⟨h1, h2, h3⟩ := hv
  obtain ⟨v', q1, q2, q3⟩ := q
  refine ⟨⟨⟨v', q1, ?_, fun k hk => ?_⟩, h.rg, h.nx, h.pos⟩, q2.mono (fun k e c => h.nx k c e)⟩
  · have hg := h2.grw
    obtain ⟨S, e1, s1, s2, s3, s4⟩ := h2
    refine ⟨S, e1, s1.frm q2 (fun k hk c => (s4 k (Or.inl (Or.inl c))).2 hk) (fun c => by have := h.rg; have := h.pos; omega), s2, q2.grw s3 (fun k e => by rw [e]; exact h.rg), fun k hk => ?_⟩
    rcases hk with (c | c) | c
    · exact ⟨by rw [c]; exact q1.kp.lt, (s4 k (Or.inl (Or.inl c))).2⟩
    · refine ⟨(q1.blk k c).2, ?_⟩
      rcases q3 k c with d | d
      · exact (s4 k (Or.inl (Or.inr d))).2
      · intro hk
        have := s1.lt hk
        omega
    · exact ⟨Nat.lt_of_lt_of_le (s4 k (Or.inr c)).1 q2.size, (s4 k (Or.inr c)).2⟩
  · rcases q3 k hk with d | d
    · exact h3 k d
    · exact Nat.le_trans (Below.size h2.grw) d
/-- the project's wheel has turned. -/
theorem HS.own {w' : World} {a' : Nat} {A' : List Du} {v : Value} (hv : RW w r v b B ∧ MF w0 w p a A (fun k => (k = r ∨ v.ownBlock = some k) ∨ X k) ∧ (∀ k, v.ownBlock = some k → w0.heap.size ≤ k)) (h : HS w0 w p a A r b B X)
    (q : MF w0 w' p a' A' (fun k => (k = r ∨ v.ownBlock = some k) ∨ X k)) (f : Frm (fun k => ¬ ((k = r ∨ v.ownBlock = some k) ∨ X k)) w w') : HS w0 w' p a' A' r b B X ∧ Frm (fun k => ¬ X k) w w' :=
  ⟨⟨⟨v, hv.1.frm f (fun c => c (Or.inl (Or.inl rfl))) (fun _ hk c => c (Or.inl (Or.inr hk))), q, hv.2.2⟩, h.rg, h.nx, h.pos⟩, f.mono (fun _ c d => c (Or.inr d))⟩
end
/-! ### the project's wheel, beside the document's -/
section
variable {w0 w : World} {p a : Nat} {A : List Du} {r b : Nat} {B : List Du} {X : Nat → Prop}
theorem insert_H (A' : List Du) (i : Int) (t : Nat) (z : Int) (h : HS w0 w p a A r b B X) (hi : Wi i) (ht : t < 2 ^ 64) (hf : A.length < 900) (h1 : insE a A i t = z) (h2 : insL a A i t = A') :
    Calls Tryd.prog 9 #[.pointer (some ⟨p, 0, none⟩), .int .i64 i, .int .u64 t] w fun e w' => e = .returned (.int .i64 z) ∧ HS w0 w' p a A' r b B X ∧ Frm (fun k => ¬ X k) w w' := by
  obtain ⟨v, hv⟩ := h.ex
  exact (insert_F w0 p a A A' _ i t z w hv.2.1 hi ht hf h1 h2).mono fun _ _ ⟨he, hq, hf⟩ => ⟨he, HS.own hv h hq hf⟩
theorem cancel_H (A' : List Du) (i : Int) (c : Nat) (o : Bool) (h : HS w0 w p a A r b B X) (hi : Wi i) (h1 : (atO A i).getD 0 = c) (h2 : (atO A i).isSome = o) (h3 : VM.del i A = A') :
    Calls Tryd.prog 11 #[.pointer (some ⟨p, 0, none⟩), .int .i64 i] w fun e w' => e = .returned (.tuple #[.int .u64 (c : Nat), .bool o]) ∧ HS w0 w' p a A' r b B X ∧ Frm (fun k => ¬ X k) w w' := by
  obtain ⟨v, hv⟩ := h.ex
  exact (cancel_F w0 p a A A' _ i c o w hv.2.1 hi h1 h2 h3).mono fun _ _ ⟨he, hq, hf⟩ => ⟨he, HS.own hv h hq hf⟩
theorem pop_H_hit (to : Nat) (d : Du) (l : List Du) (h : HS w0 w p a (d :: l) r b B X) (hle : d.t ≤ to) :
    Calls Tryd.prog 13 #[.pointer (some ⟨p, 0, none⟩), .int .u64 to] w fun e w' => e = .returned (.tuple #[.agg #[.int .i64 d.id, .int .u64 (d.t : Nat)], .bool true]) ∧ HS w0 w' p d.t l r b B X ∧ Frm (fun k => ¬ X k) w w' := by
  obtain ⟨v, hv⟩ := h.ex
  exact (pop_F_hit w0 p a to d l _ w hv.2.1 hle).mono fun _ _ ⟨he, hq, hf⟩ => ⟨he, HS.own hv h hq hf⟩
theorem pop_H_miss (to nw : Nat) (h : HS w0 w p a A r b B X) (hto : to < 2 ^ 64) (hL : ∀ d l, A = d :: l → ¬ d.t ≤ to) (hn : max a to = nw) :
    Calls Tryd.prog 13 #[.pointer (some ⟨p, 0, none⟩), .int .u64 to] w fun e w' => e = .returned (.tuple #[.agg #[.int .i64 0, .int .u64 0], .bool false]) ∧ HS w0 w' p nw A r b B X ∧ Frm (fun k => ¬ X k) w w' := by
  obtain ⟨v, hv⟩ := h.ex
  exact (pop_F_miss w0 p a to nw A _ w hv.2.1 hto (JM.later_all h.gl.srt hL) hn).mono fun _ _ ⟨he, hq, hf⟩ => ⟨he, HS.own hv h hq hf⟩
/-- Advance: the row that it hands over is none of theirs. -/
theorem advance_H (n to : Nat) (A' l : List Du) (h : HS w0 w p a A r b B X) (hs : to < 2 ^ 64) (ht : a + n = to) (h1 : A.dropWhile (dueP to) = A') (h2 : A.takeWhile (dueP to) = l) :
    Calls Tryd.prog 15 #[.pointer (some ⟨p, 0, none⟩), .int .u64 n] w fun e w' => ∃ v, e = .returned (.tuple #[v, .int .i64 0]) ∧ RowD w' v l ∧ HS w0 w' p to A' r b B (fun k => X k ∨ v.ownBlock = some k) ∧ Frm (fun k => ¬ X k) w w' := by
  obtain ⟨v, hv⟩ := h.ex
  refine (advance_F w0 p a n to A A' l _ w hv.2.1 hs ht h1 h2).mono ?_
  rintro _ w' ⟨u, he, hrow, hq, hf, hn⟩
  refine ⟨u, he, hrow, ⟨⟨v, hv.1.frm hf (fun c => c (Or.inl (Or.inl rfl))) (fun _ hk c => c (Or.inl (Or.inr hk))), hq.mono (fun k hk => ?_), hv.2.2⟩, h.rg, fun k hk => ?_, h.pos⟩, hf.mono (fun _ c d => c (Or.inr d))⟩
  · rcases hk with c | c | c
    · exact Or.inl (Or.inl c)
    · exact Or.inl (Or.inr c)
    · exact Or.inr c
  · rcases hk with c | c
    · exact h.nx k c
    · have := hn k c
      have := h.rlt
      omega
end
end Go.Proofs.YtjkhgpdhhnfmlaaDoor

/- The contracts of the document's find, At, level, Place at this program. -/
namespace Go.Proofs.YtjkhgpdhhnfmlaaDoor
open Go.RowKit TM MK
open RG (Du Srt)
open VM (lvl idsD)
set_option linter.unusedSimpArgs false

set_option maxHeartbeats 2000000 in
set_option maxRecDepth 100000 in
theorem rfind_R (r now : Nat) (v : Value) (L : List Du) (i z : Int) (w : World) (h : RW w r v now L) (hb : L.length ≤ 1000) (hz : JM.fx L i = z) :
    Calls Tryd.prog 34 #[.pointer (some ⟨r, 0, none⟩), .int .i64 i] w fun e w' => e = .returned (.int .i64 z) ∧ Grw w w' := by
  obtain ⟨n, hn⟩ : ∃ n, L.length = n := ⟨_, rfl⟩
  obtain ⟨ao, cap, rfl, hcap, hnil, hl⟩ := h.row
  have k0 := h.kp.t.c0
  rw [hn] at hb hcap k0
  have LI := Lib.hid hl
  have HN := Lib.hid (And.intro hn hz)
  clear h hn hz hl hnil hcap
  go_enter Tryd.func34, Tryd.ntmps34
  go_wp2_with fail
  go_loopw [5] (fun s5 wr => ∃ k : Nat, s5 = .int .i64 k ∧ k ≤ n ∧ w = wr ∧ Hid (∀ j (h : j < L.length), j < k → L[j].id ≠ i)) (fun s5 _ => n - (intOf s5).toNat)
  case atStart => exact ⟨0, rfl, Nat.zero_le _, rfl, Lib.hid fun j h hj => by omega⟩
  case round =>
    obtain ⟨k, rfl, hk, rfl, NO⟩ := hrel
    by_cases ck : k < n
    · have d1 : decide (k < n) = true := by simp [ck]
      have hkl : k < L.length := by rw [HN.out.1]; exact ck
      obtain ⟨b, off, rfl, c0, _⟩ := lies_at LI.out hkl
      obtain ⟨zi, hz⟩ : ∃ z, (L[k]'hkl).id = z := ⟨_, rfl⟩
      have HZ := Lib.hid hz
      rw [hz] at c0
      have q7 : IntKind.i64.wrap ((k : Int) + 1) = ((k + 1 : Nat) : Int) := by simp [IntKind.wrap_i64]; omega
      obtain ⟨t, ht⟩ : ∃ t, (zi == i) = t := ⟨_, rfl⟩
      have HT := Lib.hid ht
      clear hz
      cases t with
      | true =>
        go_wp2_with fail
        go_ret
        have e : (L[k]'hkl).id = i := by rw [HZ.out]; have := HT.out; simpa using this
        exact ⟨by rw [← HN.out.2, JM.fx_at hkl e (fun j g => NO.out j (by omega) g)]; rfl, Grw.rfl' _⟩
      | false =>
        go_wp2_with fail
        refine ⟨⟨k + 1, by first | rfl | go_num, by omega, by trivial, Lib.hid fun j h hj => ?_⟩, by simp [intOf]; omega⟩
        by_cases cjk : j = k
        · subst cjk; rw [HZ.out]; have := HT.out; simpa using this
        · exact NO.out j h (by omega)
    · have d1 : decide (k < n) = false := by simp; omega
      obtain rfl : n = k := by omega
      go_wp2_with fail
      go_ret
      exact ⟨by rw [← HN.out.2, JM.fx_no (fun j g => NO.out j g (by have := HN.out.1; omega))]; rfl, Grw.rfl' _⟩
set_option maxHeartbeats 2000000 in
set_option maxRecDepth 100000 in
theorem rat_R (r now : Nat) (v : Value) (L : List Du) (i : Int) (c : Nat) (o : Bool) (w : World) (h : RW w r v now L) (hb : L.length ≤ 1000) (h1 : (atO L i).getD 0 = c) (h2 : (atO L i).isSome = o) :
    Calls Tryd.prog 21 #[.pointer (some ⟨r, 0, none⟩), .int .i64 i] w fun e w' => e = .returned (.agg #[.int .u64 (c : Nat), .bool o]) ∧ Grw w w' := by
  have G0 := Lib.hid ((Grw.rfl' w).alloc (.cells #[.int .u64 0, .bool false] 39))
  have T0 := Lib.hid (Kp.new w (.int .u64 0) (.bool false) 39)
  obtain ⟨Z, hZ⟩ : ∃ Z, w.heap.size = Z := ⟨_, rfl⟩
  have HZ := Lib.hid (Nat.le_of_eq hZ)
  rcases JM.fx_or L i with ⟨e1, e2⟩ | ⟨k, hk, e1, e3, e2, e4⟩
  · rw [e2] at h1 h2
    obtain rfl : 0 = c := h1
    obtain rfl : false = o := h2
    have A := Lib.hid (fun x (q : Grw w x) => rfind_R r now v L i _ x (h.later q) hb e1)
    rw [hZ] at T0
    clear e1 e2 h hb
    go_enter Tryd.func21, Tryd.ntmps21
    go_wp2_with fail
    refine (A.out _ G0.out).mono ?_
    rintro _ w1 ⟨rfl, hg⟩
    have T1 := Lib.hid (T0.out.later hg)
    have G1 := Lib.hid (G0.out.trans hg)
    clear hg
    have c0 := T1.out.t.c0
    have c1 := T1.out.t.c1
    have f0 := T1.out.t.f0
    have f1 := T1.out.t.f1
    go_wp2_with fail
    exact bodyPost_ret (v := .agg #[.int .u64 0, .bool false]) (by simp [results, Tryd.results21, go_sem, c0, c1]) rfl ⟨rfl, G1.out.set2 HZ.out _ _⟩
  · rw [e2] at h1 h2
    obtain rfl : (L[k]).t = c := h1
    obtain rfl : true = o := h2
    have A := Lib.hid (fun x (q : Grw w x) => rfind_R r now v L i _ x (h.later q) hb e1)
    have K := Lib.hid (fun x (q : Grw w x) => (h.later q).kp.t)
    obtain ⟨n, hn⟩ : ∃ n, L.length = n := ⟨_, rfl⟩
    obtain ⟨ao, cap, rfl, hcap, hnil, hl⟩ := h.row
    obtain ⟨t, ht⟩ : ∃ t, (L[k]).t = t := ⟨_, rfl⟩
    have LA : Hid (∀ x, Grw w x → ∃ b off, ao = some ⟨b, off, none⟩ ∧ x.cell? ⟨b, off + k * 2 + 1, none⟩ = some (.int .u64 (t : Nat))) := (fun x q => by
        obtain ⟨b, off, e, _, q1⟩ := lies_at (hl.later q) hk
        rw [ht] at q1
        exact ⟨b, off, e, q1⟩ : ∀ x, Grw w x → ∃ b off, ao = some ⟨b, off, none⟩ ∧ x.cell? ⟨b, off + k * 2 + 1, none⟩ = some (.int .u64 (t : Nat)))
    rw [hn] at hk hcap K
    rw [hZ] at T0
    rw [ht]
    have d0 : decide ((k : Int) < 0) = false := by simp
    clear e1 e2 e3 e4 h hb hl hnil hn ht
    go_enter Tryd.func21, Tryd.ntmps21
    go_wp2_with fail
    refine (A.out _ G0.out).mono ?_
    rintro _ w1 ⟨rfl, hg⟩
    have T1 := Lib.hid (T0.out.later hg)
    have G1 := Lib.hid (G0.out.trans hg)
    clear hg
    have k0 := (K.out _ G1.out).c0
    obtain ⟨b, off, rfl, q1⟩ := LA.out _ G1.out
    have c0 := T1.out.t.c0
    have c1 := T1.out.t.c1
    have f0 := T1.out.t.f0
    have f1 := T1.out.t.f1
    go_wp2_with fail
    exact bodyPost_ret (v := .agg #[.int .u64 (t : Nat), .bool true]) (by simp [results, Tryd.results21, go_sem, c0, c1]) rfl ⟨rfl, G1.out.set2 HZ.out _ _⟩
set_option maxHeartbeats 2000000 in
set_option maxRecDepth 100000 in
theorem rlevel_R (r now : Nat) (v : Value) (L : List Du) (t l : Nat) (w : World) (h : RW w r v now L) (hn : now < 2 ^ 64) (ht : t < 2 ^ 64) (hl : lvl now t = l) :
    Calls Tryd.prog 41 #[.pointer (some ⟨r, 0, none⟩), .int .u64 (t : Nat)] w fun e w' => e = .returned (.int .i64 (l : Nat)) ∧ Grw w w' := by
  have T := rtop_any (t : Int) (now : Int) w ⟨by omega, by omega⟩ ⟨by omega, by omega⟩
  have HL := lvl_top hn ht
  have k1 := h.kp.t.c1
  obtain ⟨tv, htv⟩ : ∃ tv, topV (t : Int) (now : Int) = tv := ⟨_, rfl⟩
  rw [htv] at T HL
  rw [hl] at HL
  have M : Hid (min (max tv 0) 6 = (l : Int)) := (by omega : min (max tv 0) 6 = (l : Int))
  have T := Lib.hid T
  clear h htv hl hn ht HL
  go_enter Tryd.func41, Tryd.ntmps41
  go_wp2_with fail
  refine T.out.mono ?_
  rintro _ w1 ⟨rfl, hg⟩
  have G := Lib.hid hg
  clear hg
  go_wp2_with fail
  go_ret
  exact ⟨by rw [M.out]; rfl, G.out⟩
end Go.Proofs.YtjkhgpdhhnfmlaaDoor
