/- The document's book in memory: a queue, a table and a list of jobs in one block. -/
import Derived.Test.YtlopijcpnfkcgaaGreatQDg
import Derived.Test.YtlopijcpnfkcgaaGreatLVc
import Derived.Test.YtlopijcpnfkcgaaGreatLVd
import Derived.Test.YtlopijcpnfkcgaaGreatRWd
import Derived.Test.YtlopijcpnfkcgaaGreatJh
import Derived.OwnWalk
import Derived.Deep.CutRange
import Derived.RangeFuncBox
import Derived.Deep.DeepCutAuto
namespace Go.Proofs.YtlopijcpnfkcgaaGreat
open Go.RowKit
set_option linter.unusedSimpArgs false

/-- jobs, cell by cell. -/
def cj : List Jb → List Value
  | [] => []
  | x :: l => .int .i64 x.id :: .int .i64 x.cl :: .int .i64 x.s :: .int .i64 x.u :: cj l
theorem cj_len (l : List Jb) : (cj l).length = l.length * 4 := by
  induction l with
  | nil => rfl
  | cons x l ih => simp only [cj, List.length_cons, ih]; omega
theorem cj_app (l k : List Jb) : cj (l ++ k) = cj l ++ cj k := by
  induction l with
  | nil => rfl
  | cons x l ih => simp [cj, ih]
theorem cj_at (l : List Jb) (j : Nat) (h : j < l.length) : (cj l)[j * 4]? = some (.int .i64 l[j].id) ∧ (cj l)[j * 4 + 1]? = some (.int .i64 l[j].cl) ∧ (cj l)[j * 4 + 2]? = some (.int .i64 l[j].s) ∧ (cj l)[j * 4 + 3]? = some (.int .i64 l[j].u) := by
  induction l generalizing j with
  | nil => cases h
  | cons x l ih =>
    cases j with
    | zero => simp [cj]
    | succ j =>
      have := ih j (by simpa using h)
      rw [show (j + 1) * 4 = j * 4 + 1 + 1 + 1 + 1 by omega]
      simp only [cj, List.getElem?_cons_succ, List.getElem_cons_succ]
      exact this
theorem cj_one (l : List Jb) : ∀ u ∈ cj l, u.oneCell' = true := by
  induction l with
  | nil => intro u h; cases h
  | cons d l ih =>
    intro u h
    simp only [cj, List.mem_cons] at h
    rcases h with rfl | rfl | rfl | rfl | h
    · rfl
    · rfl
    · rfl
    · rfl
    · exact ih u h
theorem cj_set (l : List Jb) (i : Nat) (h : i < l.length) (s u : Int) : cj (l.set i ⟨l[i].id, l[i].cl, s, u⟩) = ((cj l).set (i * 4 + 2) (.int .i64 s)).set (i * 4 + 3) (.int .i64 u) := by
  induction l generalizing i with
  | nil => cases h
  | cons d l ih =>
    cases i with
    | zero => simp [cj]
    | succ i =>
      rw [show (i + 1) * 4 + 2 = (i * 4 + 2) + 1 + 1 + 1 + 1 by omega, show (i + 1) * 4 + 3 = (i * 4 + 3) + 1 + 1 + 1 + 1 by omega]
      simp only [cj, List.set_cons_succ, List.getElem_cons_succ]
      rw [ih i (by simpa using h)]
/-- the place of a job. -/
def fpl (J : List Jb) (i : Int) (k : Int) : Prop := (∃ j : Nat, k = j ∧ ∃ h : j < J.length, J[j].id = i) ∨ (k = -1 ∧ ∀ x ∈ J, x.id ≠ i)
theorem upd_set {J : List Jb} (h : Ids J) {j : Nat} (hj : j < J.length) (s u : Int) : J.set j ⟨J[j].id, J[j].cl, s, u⟩ = upd J ⟨J[j].id, J[j].cl, s, u⟩ := by
  unfold upd
  apply List.ext_getElem
  · simp
  · intro n h1 h2
    simp only [List.getElem_set, List.getElem_map]
    by_cases e : j = n
    · subst e; simp
    · have hn : n < J.length := by simpa using h2
      have : ¬ J[n].id = J[j].id := fun c => by
        have h3 := List.pairwise_iff_getElem.1 h
        rcases Nat.lt_or_ge n j with g | g
        · exact h3 n j _ _ g c
        · exact h3 j n _ _ (by omega) c.symm
      simp [e, this]

/-- the document's book. -/
structure RB (w : World) (r : Nat) (a room n count : Int) (vq vt vj : Value) (last : Nat) (L : List QQ.Wt) (G : List LE.Gr) (J : List Jb) : Prop where
  c0 : w.cell? ⟨r, 0, none⟩ = some (.int .i64 a)
  c1 : w.cell? ⟨r, 1, none⟩ = some (.int .i64 room)
  c2 : w.cell? ⟨r, 2, none⟩ = some (.int .i64 count)
  c3 : w.cell? ⟨r, 3, none⟩ = some vq
  c4 : w.cell? ⟨r, 4, none⟩ = some vt
  c5 : w.cell? ⟨r, 5, none⟩ = some (.int .i64 (last : Nat))
  c6 : w.cell? ⟨r, 6, none⟩ = some (.int .i64 n)
  c7 : w.cell? ⟨r, 7, none⟩ = some vj
  fr : ∀ j, j < 8 → w.frozen? ⟨r, j, none⟩ = false
  rq : w.ownsRow 0 77 3 vq L.length (QQ.cw L)
  rt : w.ownsRow 0 91 3 vt G.length (LE.cg G)
  rj : w.ownsRow 0 75 4 vj J.length (cj J)
  nq : vq.ownBlock ≠ some r
  nt : vt.ownBlock ≠ some r
  nj : vj.ownBlock ≠ some r
  qt : ∀ k, vq.ownBlock = some k → vt.ownBlock ≠ some k
  qj : ∀ k, vq.ownBlock = some k → vj.ownBlock ≠ some k
  tj : ∀ k, vt.ownBlock = some k → vj.ownBlock ≠ some k
  lq : L.length ≤ 10000
  lt : G.length ≤ 10000
  lj : J.length ≤ 10000
/-- the book's blocks. -/
def zf (r : Nat) (vq vt vj : Value) (k : Nat) : Prop := k = r ∨ vq.ownBlock = some k ∨ vt.ownBlock = some k ∨ vj.ownBlock = some k
variable {w x : World} {r : Nat} {a room n count : Int} {vq vt vj : Value} {last : Nat} {L : List QQ.Wt} {G : List LE.Gr} {J : List Jb}
theorem frz8 {F : Nat → Prop} (f : Frm F w x) (hn : ¬ F r) (hb : r < w.heap.size) (fr : ∀ j, j < 8 → w.frozen? ⟨r, j, none⟩ = false) : ∀ j, j < 8 → x.frozen? ⟨r, j, none⟩ = false := fun j hj => by
  have e := f.block r hb hn
  have := fr j hj
  simp only [World.frozen?] at this ⊢
  rw [e]; exact this
theorem RB.rlt (h : RB w r a room n count vq vt vj last L G J) : r < w.heap.size := World.block_lt_of_cell? _ _ h.c0
theorem RB.lt8 (h : RB w r a room n count vq vt vj last L G J) : ∀ k, zf r vq vt vj k → k < w.heap.size := by
  rintro k (rfl | e | e | e)
  · exact h.rlt
  · exact (h.rq.lt k e).2
  · exact (h.rt.lt k e).2
  · exact (h.rj.lt k e).2
theorem RB.keep (h : RB w r a room n count vq vt vj last L G J) {F : Nat → Prop} (f : Frm F w x) (hf : ∀ k, zf r vq vt vj k → ¬ F k) : RB x r a room n count vq vt vj last L G J := by
  have hr := hf r (Or.inl rfl)
  exact ⟨f.cell h.c0 hr, f.cell h.c1 hr, f.cell h.c2 hr, f.cell h.c3 hr, f.cell h.c4 hr, f.cell h.c5 hr, f.cell h.c6 hr, f.cell h.c7 hr, frz8 f hr h.rlt h.fr,
    ownsRow_frm h.rq f (fun k e => hf k (Or.inr (Or.inl e))), ownsRow_frm h.rt f (fun k e => hf k (Or.inr (Or.inr (Or.inl e)))), ownsRow_frm h.rj f (fun k e => hf k (Or.inr (Or.inr (Or.inr e)))), h.nq, h.nt, h.nj, h.qt, h.qj, h.tj, h.lq, h.lt, h.lj⟩
theorem RB.later (h : RB w r a room n count vq vt vj last L G J) (g : Grw w x) : RB x r a room n count vq vt vj last L G J := h.keep (g.frm (fun _ => False)) (fun _ _ e => e)
/-- what rides along with the queue, with the table. -/
def XQ (a room n : Int) (vt vj : Value) (last : Nat) (j : Nat) (u : Value) : Prop := (j = 0 ∧ u = .int .i64 a) ∨ (j = 1 ∧ u = .int .i64 room) ∨ (j = 4 ∧ u = vt) ∨ (j = 5 ∧ u = .int .i64 (last : Nat)) ∨ (j = 6 ∧ u = .int .i64 n) ∨ (j = 7 ∧ u = vj)
def XT (a room n count : Int) (vq vj : Value) (j : Nat) (u : Value) : Prop := (j = 0 ∧ u = .int .i64 a) ∨ (j = 1 ∧ u = .int .i64 room) ∨ (j = 2 ∧ u = .int .i64 count) ∨ (j = 3 ∧ u = vq) ∨ (j = 6 ∧ u = .int .i64 n) ∨ (j = 7 ∧ u = vj)
theorem RB.toQ (h : RB w r a room n count vq vt vj last L G J) : QQ.RQ (XQ a room n vt vj last) w r a room count vq L :=
  ⟨h.c0, h.c1, h.c2, h.c3, h.fr 2 (by decide), h.fr 3 (by decide), h.rq, h.nq, h.lq, fun j u hx => by
    rcases hx with ⟨rfl, rfl⟩ | ⟨rfl, rfl⟩ | ⟨rfl, rfl⟩ | ⟨rfl, rfl⟩ | ⟨rfl, rfl⟩ | ⟨rfl, rfl⟩
    · exact ⟨by decide, h.c0, h.fr _ (by decide)⟩
    · exact ⟨by decide, h.c1, h.fr _ (by decide)⟩
    · exact ⟨by decide, h.c4, h.fr _ (by decide)⟩
    · exact ⟨by decide, h.c5, h.fr _ (by decide)⟩
    · exact ⟨by decide, h.c6, h.fr _ (by decide)⟩
    · exact ⟨by decide, h.c7, h.fr _ (by decide)⟩⟩
theorem RB.toT (h : RB w r a room n count vq vt vj last L G J) : LE.RT (XT a room n count vq vj) w r last vt G :=
  ⟨h.c4, h.c5, h.fr 4 (by decide), h.fr 5 (by decide), h.rt, h.nt, h.lt, fun j u hx => by
    rcases hx with ⟨rfl, rfl⟩ | ⟨rfl, rfl⟩ | ⟨rfl, rfl⟩ | ⟨rfl, rfl⟩ | ⟨rfl, rfl⟩ | ⟨rfl, rfl⟩
    · exact ⟨by decide, h.c0, h.fr _ (by decide)⟩
    · exact ⟨by decide, h.c1, h.fr _ (by decide)⟩
    · exact ⟨by decide, h.c2, h.fr _ (by decide)⟩
    · exact ⟨by decide, h.c3, h.fr _ (by decide)⟩
    · exact ⟨by decide, h.c6, h.fr _ (by decide)⟩
    · exact ⟨by decide, h.c7, h.fr _ (by decide)⟩⟩
theorem RB.ofQ (h : RB w r a room n count vq vt vj last L G J) {count' : Int} {vq' : Value} {L' : List QQ.Wt} (q : QQ.RQ (XQ a room n vt vj last) x r a room count' vq' L') (f : Frm (fun k => k = r) w x) (hv : ∀ k, vq'.ownBlock = some k → w.heap.size ≤ k) : RB x r a room n count' vq' vt vj last L' G J := by
  have e4 := q.ex 4 vt (Or.inr (Or.inr (Or.inl ⟨rfl, rfl⟩)))
  have e5 := q.ex 5 (.int .i64 (last : Nat)) (Or.inr (Or.inr (Or.inr (Or.inl ⟨rfl, rfl⟩))))
  have e6 := q.ex 6 (.int .i64 n) (Or.inr (Or.inr (Or.inr (Or.inr (Or.inl ⟨rfl, rfl⟩)))))
  have e7 := q.ex 7 vj (Or.inr (Or.inr (Or.inr (Or.inr (Or.inr ⟨rfl, rfl⟩)))))
  have e0 := q.ex 0 (.int .i64 a) (Or.inl ⟨rfl, rfl⟩)
  have e1 := q.ex 1 (.int .i64 room) (Or.inr (Or.inl ⟨rfl, rfl⟩))
  refine ⟨q.c0, q.c1, q.c2, q.c3, e4.2.1, e5.2.1, e6.2.1, e7.2.1, fun j hj => ?_, q.row, ownsRow_frm h.rt f (fun k e c => h.nt (by rw [e, c])), ownsRow_frm h.rj f (fun k e c => h.nj (by rw [e, c])), q.ne, h.nt, h.nj, fun k e c => ?_, fun k e c => ?_, h.tj, q.len, h.lt, h.lj⟩
  · match j, hj with
    | 0, _ => exact e0.2.2
    | 1, _ => exact e1.2.2
    | 2, _ => exact q.f2
    | 3, _ => exact q.f3
    | 4, _ => exact e4.2.2
    | 5, _ => exact e5.2.2
    | 6, _ => exact e6.2.2
    | 7, _ => exact e7.2.2
  · have h1 := hv k e; have h2 := (h.rt.lt k c).2; omega
  · have h1 := hv k e; have h2 := (h.rj.lt k c).2; omega
theorem RB.ofT (h : RB w r a room n count vq vt vj last L G J) {last' : Nat} {vt' : Value} {G' : List LE.Gr} (q : LE.RT (XT a room n count vq vj) x r last' vt' G') (f : Frm (fun k => k = r) w x) (hv : ∀ k, vt'.ownBlock = some k → w.heap.size ≤ k) : RB x r a room n count vq vt' vj last' L G' J := by
  have e0 := q.ex 0 (.int .i64 a) (Or.inl ⟨rfl, rfl⟩)
  have e1 := q.ex 1 (.int .i64 room) (Or.inr (Or.inl ⟨rfl, rfl⟩))
  have e2 := q.ex 2 (.int .i64 count) (Or.inr (Or.inr (Or.inl ⟨rfl, rfl⟩)))
  have e3 := q.ex 3 vq (Or.inr (Or.inr (Or.inr (Or.inl ⟨rfl, rfl⟩))))
  have e6 := q.ex 6 (.int .i64 n) (Or.inr (Or.inr (Or.inr (Or.inr (Or.inl ⟨rfl, rfl⟩)))))
  have e7 := q.ex 7 vj (Or.inr (Or.inr (Or.inr (Or.inr (Or.inr ⟨rfl, rfl⟩)))))
  refine ⟨e0.2.1, e1.2.1, e2.2.1, e3.2.1, q.c0, q.c1, e6.2.1, e7.2.1, fun j hj => ?_, ownsRow_frm h.rq f (fun k e c => h.nq (by rw [e, c])), q.row, ownsRow_frm h.rj f (fun k e c => h.nj (by rw [e, c])), h.nq, q.ne, h.nj, fun k e c => ?_, h.qj, fun k e c => ?_, h.lq, q.len, h.lj⟩
  · match j, hj with
    | 0, _ => exact e0.2.2
    | 1, _ => exact e1.2.2
    | 2, _ => exact e2.2.2
    | 3, _ => exact e3.2.2
    | 4, _ => exact q.f0
    | 5, _ => exact q.f1
    | 6, _ => exact e6.2.2
    | 7, _ => exact e7.2.2
  · have h1 := hv k c; have h2 := (h.rq.lt k e).2; omega
  · have h1 := hv k e; have h2 := (h.rj.lt k c).2; omega
/-- the list of jobs stands in another row, or is turned in its own. -/
theorem RB.setJ (h : RB w r a room n count vq vt vj last L G J) {F : Nat → Prop} (f : Frm F w x) (hf : ∀ k, F k → vj.ownBlock = some k ∨ w.heap.size ≤ k) {vj' : Value} {J' : List Jb} (o : x.ownsRow 0 75 4 vj' J'.length (cj J')) (hv : vj'.ownBlock = vj.ownBlock ∨ ∀ k, vj'.ownBlock = some k → w.heap.size ≤ k) (hl : J'.length ≤ 10000) :
    RB (x.setCell ⟨r, 7, none⟩ vj') r a room n count vq vt vj' last L G J' ∧ Frm (fun k => k = r ∨ F k) w (x.setCell ⟨r, 7, none⟩ vj') := by
  have hr := h.rlt
  have np : ¬ F r := fun e => (hf r e).elim h.nj (fun c => by omega)
  have nq' : ∀ k, vq.ownBlock = some k → ¬ F k := fun k e c => (hf k c).elim (h.qj k e) (fun g => by have := (h.rq.lt k e).2; omega)
  have nt' : ∀ k, vt.ownBlock = some k → ¬ F k := fun k e c => (hf k c).elim (h.tj k e) (fun g => by have := (h.rt.lt k e).2; omega)
  have nj' : vj'.ownBlock ≠ some r := fun e => by
    rcases hv with hv | hv
    · rw [hv] at e; exact h.nj e
    · have := hv r e; omega
  have s : Frm (fun k => k = r) x (x.setCell ⟨r, 7, none⟩ vj') := frm_set x ⟨r, 7, none⟩ _ rfl
  have oth : ∀ (j : Nat) (u : Value), j ≠ 7 → w.cell? ⟨r, j, none⟩ = some u → (x.setCell ⟨r, 7, none⟩ vj').cell? ⟨r, j, none⟩ = some u := fun j u hj hc =>
    (World.cell?_setCell_other x ⟨r, 7, none⟩ ⟨r, j, none⟩ _ (fun e => by injection e with _ e; exact hj e.symm)).trans (f.cell hc np)
  have fz := frz8 f np hr h.fr
  refine ⟨⟨oth 0 _ (by decide) h.c0, oth 1 _ (by decide) h.c1, oth 2 _ (by decide) h.c2, oth 3 _ (by decide) h.c3, oth 4 _ (by decide) h.c4, oth 5 _ (by decide) h.c5, oth 6 _ (by decide) h.c6, World.cell?_setCell_same (u := _) _ _ _ (f.cell h.c7 np), fun j hj => by simp [fz j hj],
    ownsRow_frm (ownsRow_frm h.rq f nq') s (fun k e c => h.nq (by rw [e, c])), ownsRow_frm (ownsRow_frm h.rt f nt') s (fun k e c => h.nt (by rw [e, c])), ownsRow_frm o s (fun k e c => nj' (by rw [e, c])), h.nq, h.nt, nj', h.qt, fun k e c => ?_, fun k e c => ?_, h.lq, h.lt, hl⟩, (f.mono (fun k e => Or.inr e)).trans s (fun k e => Or.inl (Or.inl e))⟩
  · rcases hv with hv | hv
    · rw [hv] at c; exact h.qj k e c
    · have h1 := hv k c; have h2 := (h.rq.lt k e).2; omega
  · rcases hv with hv | hv
    · rw [hv] at c; exact h.tj k e c
    · have h1 := hv k c; have h2 := (h.rt.lt k e).2; omega
/-- a job's state is written where it lies. -/
theorem RB.turn (h : RB w r a room n count vq vt vj last L G J) (hI : Ids J) {j : Nat} (hj : j < J.length) {g cap : Nat} (hv : vj = .slice (some ⟨g, 0, none⟩) J.length cap) (s u : Int) :
    RB ((w.setCell ⟨g, j * 4 + 2, none⟩ (.int .i64 s)).setCell ⟨g, j * 4 + 3, none⟩ (.int .i64 u)) r a room n count vq vt vj last L G (upd J ⟨J[j].id, J[j].cl, s, u⟩) ∧ Frm (fun k => k = g) w ((w.setCell ⟨g, j * 4 + 2, none⟩ (.int .i64 s)).setCell ⟨g, j * 4 + 3, none⟩ (.int .i64 u)) := by
  have f : Frm (fun k => k = g) w ((w.setCell ⟨g, j * 4 + 2, none⟩ (.int .i64 s)).setCell ⟨g, j * 4 + 3, none⟩ (.int .i64 u)) := ((Frm.rfl' (fun k => k = g) w).set _ _ (Or.inl rfl)).set _ _ (Or.inl rfl)
  have ob : vj.ownBlock = some g := by rw [hv]; rfl
  have hr : ¬ r = g := fun e => h.nj (by rw [ob, e])
  have o := h.rj
  rw [hv] at o
  have o2 := ((o.stored (j * 4 + 2) (.int .i64 s)).1.stored (j * 4 + 3) (.int .i64 u)).1
  rw [← cj_set J j hj, upd_set hI hj] at o2
  refine ⟨⟨f.cell h.c0 hr, f.cell h.c1 hr, f.cell h.c2 hr, f.cell h.c3 hr, f.cell h.c4 hr, f.cell h.c5 hr, f.cell h.c6 hr, f.cell h.c7 hr, frz8 f hr h.rlt h.fr, ownsRow_frm h.rq f (fun k e c => h.qj k e (by rw [ob, c])), ownsRow_frm h.rt f (fun k e c => h.tj k e (by rw [ob, c])), ?_, h.nq, h.nt, h.nj, h.qt, h.qj, h.tj, h.lq, h.lt, by rw [upd_len]; exact h.lj⟩, f⟩
  rw [upd_len, hv]
  exact o2
theorem own_at {w : World} {vj : Value} {J : List Jb} (o : w.ownsRow 0 75 4 vj J.length (cj J)) {j : Nat} (hj : j < J.length) : ∃ g cap, vj = .slice (some ⟨g, 0, none⟩) J.length cap ∧ g < w.heap.size ∧ w.cell? ⟨g, j * 4, none⟩ = some (.int .i64 J[j].id) ∧ w.cell? ⟨g, j * 4 + 1, none⟩ = some (.int .i64 J[j].cl) ∧ w.cell? ⟨g, j * 4 + 2, none⟩ = some (.int .i64 J[j].s) ∧ w.cell? ⟨g, j * 4 + 3, none⟩ = some (.int .i64 J[j].u) ∧ w.frozen? ⟨g, j * 4 + 2, none⟩ = false ∧ w.frozen? ⟨g, j * 4 + 3, none⟩ = false := by
  obtain ⟨g, cap, hv⟩ : ∃ g cap, vj = .slice (some ⟨g, 0, none⟩) J.length cap := by
    rcases o.2 with ⟨_, e2⟩ | ⟨b, cap, _, e1, _⟩
    · omega
    · exact ⟨b, cap, e1⟩
  subst hv
  obtain ⟨a0, a1, a2, a3⟩ := cj_at J j hj
  have c := o.cells (g := g) rfl
  have b0 := c _ _ a0
  have b1 := c _ _ a1
  have b2 := c _ _ a2
  have b3 := c _ _ a3
  rw [Addr.add_lit, Nat.zero_add] at b0 b1 b2 b3
  have fz : ∀ i, w.frozen? ⟨g, i, none⟩ = false := fun i => by
    rcases o.2 with ⟨e1, _⟩ | ⟨b, cap', cur, e1, _, hg, _⟩
    · cases e1
    · injection e1 with e1; injection e1 with e1; injection e1 with e1; subst e1
      simp [World.frozen?, hg]
  exact ⟨g, cap, rfl, (o.lt g rfl).2, b0, b1, b2, b3, fz _, fz _⟩
end Go.Proofs.YtlopijcpnfkcgaaGreat

/- The document's book: May, New, Find, gone. -/
namespace Go.Proofs.YtlopijcpnfkcgaaGreat
open Go.RowKit
set_option linter.unusedSimpArgs false
variable {w x : World} {r : Nat} {a room n count : Int} {vq vt vj : Value} {last : Nat} {L : List QQ.Wt} {G : List LE.Gr} {J : List Jb}
set_option maxHeartbeats 1000000 in
set_option maxRecDepth 100000 in
theorem zmay_is (a room n : Int) (w : World) (b : Bool) (hb : b = decide (1 ≤ a ∧ a ≤ 1000 ∧ 0 ≤ room ∧ room ≤ 1000 ∧ 0 ≤ n ∧ n ≤ 9)) :
    Calls Tryz.prog 5 #[.int .i64 a, .int .i64 room, .int .i64 n] w fun e w' => e = .returned (.bool b) ∧ w = w' := by
  by_cases c : 1 ≤ a ∧ a ≤ 1000 ∧ 0 ≤ room ∧ room ≤ 1000
  · have C := Lib.hid (QQ.rmay_yes a room w c.1 c.2.1 c.2.2.1 c.2.2.2)
    by_cases c1 : 0 ≤ n
    · by_cases c2 : n ≤ 9
      · have d1 : decide (0 ≤ n) = true := by simp [c1]
        have d2 : decide (n ≤ 9) = true := by simp [c2]
        have e : b = true := by rw [hb]; simp; omega
        subst e
        clear c c1 c2 hb
        go_enter Tryz.func5, Tryz.ntmps5
        go_wp2_with fail
        refine C.out.mono ?_
        rintro _ _ ⟨rfl, rfl⟩
        go_wp2_with fail
        go_ret
        exact ⟨rfl, rfl⟩
      · have d1 : decide (0 ≤ n) = true := by simp [c1]
        have d2 : decide (n ≤ 9) = false := by simp; omega
        have e : b = false := by rw [hb]; simp; omega
        subst e
        clear c c1 c2 hb
        go_enter Tryz.func5, Tryz.ntmps5
        go_wp2_with fail
        refine C.out.mono ?_
        rintro _ _ ⟨rfl, rfl⟩
        go_wp2_with fail
        go_ret
        exact ⟨rfl, rfl⟩
    · have d1 : decide (0 ≤ n) = false := by simp; omega
      have e : b = false := by rw [hb]; simp; omega
      subst e
      clear c c1 hb
      go_enter Tryz.func5, Tryz.ntmps5
      go_wp2_with fail
      refine C.out.mono ?_
      rintro _ _ ⟨rfl, rfl⟩
      go_wp2_with fail
      go_ret
      exact ⟨rfl, rfl⟩
  · have C := Lib.hid (QQ.rmay_no a room w c)
    have e : b = false := by rw [hb]; simp; omega
    subst e
    clear c hb
    go_enter Tryz.func5, Tryz.ntmps5
    go_wp2_with fail
    refine C.out.mono ?_
    rintro _ _ ⟨rfl, rfl⟩
    go_wp2_with fail
    go_ret
    exact ⟨rfl, rfl⟩
theorem RB.new (w : World) (a room n : Int) : RB (w.alloc (.cells #[.int .i64 a, .int .i64 room, .int .i64 0, .slice none 0 0, .slice none 0 0, .int .i64 0, .int .i64 n, .slice none 0 0] 70)) w.heap.size a room n 0 (.slice none 0 0) (.slice none 0 0) (.slice none 0 0) 0 [] [] [] :=
  ⟨by simp [go_sem], by simp [go_sem], by simp [go_sem], by simp [go_sem], by simp [go_sem], by simp [go_sem], by simp [go_sem], by simp [go_sem], fun j _ => by simp [go_sem], World.ownsRow_nil _ _ _ _, World.ownsRow_nil _ _ _ _, World.ownsRow_nil _ _ _ _, (fun e => by cases e), (fun e => by cases e), (fun e => by cases e), (fun _ e => by cases e), (fun _ e => by cases e), (fun _ e => by cases e), by simp, by simp, by simp⟩
set_option maxHeartbeats 1000000 in
set_option maxRecDepth 100000 in
theorem znew_is (a room n : Int) (w : World) : Calls Tryz.prog 7 #[.int .i64 a, .int .i64 room, .int .i64 n] w fun e w' => e = .returned (.pointer (some ⟨w.heap.size, 0, none⟩)) ∧ RB w' w.heap.size a room n 0 (.slice none 0 0) (.slice none 0 0) (.slice none 0 0) 0 [] [] [] ∧ Grw w w' := by
  have R := Lib.hid (RB.new w a room n)
  go_enter Tryz.func7, Tryz.ntmps7
  go_wp2_with fail
  go_ret
  exact ⟨rfl, R.out, (Grw.rfl' w).alloc _⟩
theorem jlies_at {w : World} {ao : Option Addr} {l : List Jb} (h : Lies w ao (cj l)) {j : Nat} (hj : j < l.length) :
    ∃ b off, ao = some ⟨b, off, none⟩ ∧ w.cell? ⟨b, off + j * 4, none⟩ = some (.int .i64 l[j].id) ∧ w.cell? ⟨b, off + j * 4 + 1, none⟩ = some (.int .i64 l[j].cl) ∧ w.cell? ⟨b, off + j * 4 + 2, none⟩ = some (.int .i64 l[j].s) ∧ w.cell? ⟨b, off + j * 4 + 3, none⟩ = some (.int .i64 l[j].u) := by
  rcases h with h | ⟨b, off, e, _, hc⟩
  · have := cj_len l
    rw [h] at this
    simp at this
    omega
  · obtain ⟨a0, a1, a2, a3⟩ := cj_at l j hj
    exact ⟨b, off, e, hc _ _ a0, hc _ _ a1, hc _ _ a2, hc _ _ a3⟩
set_option maxHeartbeats 1000000 in
set_option maxRecDepth 100000 in
theorem zfind_is (h : RB w r a room n count vq vt vj last L G J) (i : Int) :
    Calls Tryz.prog 23 #[.pointer (some ⟨r, 0, none⟩), .int .i64 i] w fun e w' => ∃ k, e = .returned (.int .i64 k) ∧ fpl J i k ∧ Grw w w' := by
  obtain ⟨ao, cap, hv, hl⟩ := ownsRow_lies h.rj
  subst hv
  have c7 := h.c7
  have LI := Lib.hid hl
  have hb := h.lj
  obtain ⟨m, hm⟩ : ∃ m, J.length = m := ⟨_, rfl⟩
  have C7 : Hid (∀ u, Grw w u → u.cell? ⟨r, 7, none⟩ = some (.slice ao m cap)) := (fun u g => by rw [← hm]; exact g.cell c7 : ∀ u, Grw w u → u.cell? ⟨r, 7, none⟩ = some (.slice ao m cap))
  have HM := Lib.hid hm
  rw [hm] at hb
  clear h hl hm c7
  go_enter Tryz.func23, Tryz.ntmps23
  go_wp2_with fail
  go_loopw [5] (fun s5 wr => ∃ k : Nat, s5 = .int .i64 k ∧ k ≤ m ∧ Grw w wr ∧ ∀ (j : Nat) (hj : j < J.length), j < k → J[j].id ≠ i) (fun s5 _ => m - (intOf s5).toNat)
  case atStart => exact ⟨0, rfl, Nat.zero_le _, Grw.rfl' _, fun j _ hj => by omega⟩
  case round =>
    obtain ⟨k, rfl, hk, hg, hno⟩ := hrel
    have G1 := Lib.hid hg
    have NO := Lib.hid hno
    have c7 := C7.out _ hg
    clear hno
    by_cases ck : k < m
    · have d1 : decide (k < m) = true := by simp [ck]
      have d2 : (k : Int) < (m : Int) := by omega
      have hkl : k < J.length := by rw [HM.out]; exact ck
      obtain ⟨b, off, rfl, c0, _, _, _⟩ := jlies_at (LI.out.later hg) hkl
      obtain ⟨zi, hz⟩ : ∃ z, (J[k]'hkl).id = z := ⟨_, rfl⟩
      have HZ := Lib.hid hz
      rw [hz] at c0
      obtain ⟨t, ht⟩ : ∃ t, (zi == i) = t := ⟨_, rfl⟩
      have HT := Lib.hid ht
      clear hz hg
      cases t with
      | true =>
        go_wp2_with fail
        go_ret
        exact ⟨_, rfl, Or.inl ⟨k, rfl, by rw [HM.out]; exact ck, by rw [HZ.out]; have := HT.out; simpa using this⟩, G1.out⟩
      | false =>
        have q7 : IntKind.i64.wrap ((k : Int) + 1) = ((k + 1 : Nat) : Int) := by simp [IntKind.wrap_i64]; omega
        go_wp2_with fail
        go_roundw
        case rel =>
          refine ⟨k + 1, by go_num, by omega, G1.out, fun j hj hjk => ?_⟩
          by_cases cjk : j = k
          · subst cjk; rw [HZ.out]; have := HT.out; simpa using this
          · exact NO.out j hj (by omega)
        case measure => simp [intOf]; omega
    · have d1 : decide (k < m) = false := by simp [ck]
      have d2 : ¬ (k : Int) < (m : Int) := by omega
      clear hg
      go_wp2_with fail
      go_ret
      refine ⟨_, rfl, Or.inr ⟨rfl, fun x hx e => ?_⟩, G1.out⟩
      obtain ⟨j, hj, e2⟩ := List.mem_iff_getElem.1 hx
      exact NO.out j hj (by have := HM.out; omega) (by rw [e2]; exact e)
theorem Tryz.info75 : (Tryz.prog.info? 75).map (fun i => (i.zero, i.size, i.bytes)) = some (some (.agg #[.int .i64 0, .int .i64 0, .int .i64 0, .int .i64 0]), 4, 32) := by kernel_rfl
theorem one_jb (w : World) (d : Jb) : ∀ (j : Nat) (u : Value), (cj [d])[j]? = some u → (w.alloc (.cells #[.int .i64 d.id, .int .i64 d.cl, .int .i64 d.s, .int .i64 d.u] 75)).cell? ((⟨w.heap.size, 0, none⟩ : Addr).add j) = some u :=
  LE.blk_cells (xs := cj [d]) (t := 75) (heap_alloc_new w _)
theorem Grw.rowj {a w x : World} {v : Value} {n : Nat} {xs : List Value} (g : Grw a w) (h : w.grownBy x v.ownBlock) (o : w.ownsRow a.heap.size 75 4 v n xs) : Grw a x :=
  Frm.grw g (grownBy_frm h) (fun k e => (o.lt k e).1)
theorem own_len75 {w : World} {B n : Nat} {v : Value} {xs : List Value} (o : w.ownsRow B 75 4 v n xs) : ∃ ao cap, v = .slice ao n cap := by
  obtain ⟨ao, cap, e, _⟩ := ownsRow_lies o
  exact ⟨ao, cap, e⟩
theorem own_base75 {w : World} {B B' n : Nat} {v : Value} {xs : List Value} (o : w.ownsRow B 75 4 v n xs) (h : B' ≤ B) : w.ownsRow B' 75 4 v n xs := by
  refine ⟨o.1, ?_⟩
  rcases o.2 with h1 | ⟨b, cap, cur, h1, h2, h3⟩
  · exact Or.inl h1
  · exact Or.inr ⟨b, cap, cur, h1, Nat.le_trans h h2, h3⟩
set_option maxHeartbeats 4000000 in
set_option maxRecDepth 100000 in
theorem zgone_is (h : RB w r a room n count vq vt vj last L G J) (i : Int) :
    Calls Tryz.prog 40 #[.pointer (some ⟨r, 0, none⟩), .int .i64 i] w fun e w' => e = .returned (.tuple #[]) ∧ ∃ vj', RB w' r a room n count vq vt vj' last L G (gon J i) ∧ Frm (fun k => k = r) w w' ∧ (∀ k, vj'.ownBlock = some k → w.heap.size ≤ k) := by
  obtain ⟨i0, hi, hz0, hz1, hz2⟩ := info_parts Tryz.info75
  obtain ⟨ao, cap, hv, hl⟩ := ownsRow_lies h.rj
  have H := Lib.hid h
  subst hv
  have c7 := h.c7
  have LI := Lib.hid hl
  have hb := h.lj
  obtain ⟨m, hm⟩ : ∃ m, J.length = m := ⟨_, rfl⟩
  have C7 : Hid (∀ u, Grw w u → u.cell? ⟨r, 7, none⟩ = some (.slice ao m cap) ∧ u.frozen? ⟨r, 7, none⟩ = false) := (fun u g => ⟨by rw [← hm]; exact g.cell c7, by rw [Below.frozen g h.rlt]; exact h.fr 7 (by decide)⟩ : ∀ u, Grw w u → u.cell? ⟨r, 7, none⟩ = some (.slice ao m cap) ∧ u.frozen? ⟨r, 7, none⟩ = false)
  have HM := Lib.hid hm
  rw [hm] at hb
  clear h hl hm c7
  go_enter Tryz.func40, Tryz.ntmps40
  go_wp2_with fail
  go_loopw [4, 5] (fun s4 s5 wr => ∃ (k : Nat) (M : List Jb), k ≤ m ∧ s5 = .int .i64 k ∧ M = (J.take k).filter (fun g => decide (g.id ≠ i)) ∧ wr.ownsRow w.heap.size 75 4 s4 M.length (cj M) ∧ Grw w wr) (fun _ s5 _ => m - (intOf s5).toNat)
  case atStart => exact ⟨0, [], Nat.zero_le _, rfl, rfl, World.ownsRow_nil _ _ _ _, Grw.rfl' _⟩
  case round =>
    obtain ⟨k, M, hk, rfl, hM, hrow, hg⟩ := hrel
    have G1 := Lib.hid hg
    have RO := Lib.hid hrow
    have MM := Lib.hid hM
    obtain ⟨c7, f7⟩ := C7.out _ hg
    clear hM hrow
    by_cases ck : k < m
    · have d1 : decide (k < m) = true := by simp [ck]
      have d2 : (k : Int) < (m : Int) := by omega
      have hkl : k < J.length := by rw [HM.out]; exact ck
      obtain ⟨b, off, rfl, e0, e1, e2, e3⟩ := jlies_at (LI.out.later hg) hkl
      obtain ⟨y, hy⟩ : ∃ y, J[k] = y := ⟨_, rfl⟩
      have hstep : (J.take (k + 1)).filter (fun g => decide (g.id ≠ i)) = M ++ [y].filter (fun g => decide (g.id ≠ i)) := by
        rw [← List.take_append_getElem hkl, List.filter_append, hy, MM.out]
      have HS := Lib.hid hstep
      have hml : M.length ≤ k := by rw [MM.out]; exact Nat.le_trans (List.length_filter_le _ _) (by rw [List.length_take]; omega)
      rw [hy] at e0 e1 e2 e3
      obtain ⟨yi, yc, ys, yu⟩ := y
      simp only at e0 e1 e2 e3
      have q7 : IntKind.i64.wrap ((k : Int) + 1) = ((k + 1 : Nat) : Int) := by simp [IntKind.wrap_i64]; omega
      clear hy hkl hstep hg
      by_cases hx : yi = i
      · have t1 : (yi != i) = false := by simp [hx]
        have HX : Hid (M ++ [(⟨yi, yc, ys, yu⟩ : Jb)].filter (fun g => decide (g.id ≠ i)) = M) := (by simp [hx] : M ++ [(⟨yi, yc, ys, yu⟩ : Jb)].filter (fun g => decide (g.id ≠ i)) = M)
        clear hx
        go_wp2_with fail
        go_roundw
        case rel => exact ⟨k + 1, M, ck, rfl, by rw [HS.out, HX.out], RO.out, G1.out⟩
        case measure => simp only [intOf]; omega
      · have t1 : (yi != i) = true := by simp [hx]
        have HX : Hid (M ++ [(⟨yi, yc, ys, yu⟩ : Jb)].filter (fun g => decide (g.id ≠ i)) = M ++ [⟨yi, yc, ys, yu⟩]) := (by simp [hx] : M ++ [(⟨yi, yc, ys, yu⟩ : Jb)].filter (fun g => decide (g.id ≠ i)) = M ++ [⟨yi, yc, ys, yu⟩])
        have O3 := Lib.hid (RO.out.alloc (.cells #[.int .i64 yi, .int .i64 yc, .int .i64 ys, .int .i64 yu] 75))
        have D1 := Lib.hid (one_jb wr ⟨yi, yc, ys, yu⟩)
        have D2 := Lib.hid (cj_one [⟨yi, yc, ys, yu⟩])
        have GB := Lib.hid (Below.size G1.out)
        clear hx
        go_wp2_with (at_builtin; refine wpList_append_own _ rfl _ _ 68 rfl w.heap.size 75 i0 _ 4 32 Tryz.underlying68 hi hz0 hz1 hz2 rfl (by decide) _ _ _ rfl O3.out ⟨wr.heap.size, 0, none⟩ 1 1 (cj [⟨yi, yc, ys, yu⟩]) rfl rfl D1.out D2.out (by unfold maxLen; omega) (by omega) (by have := GB.out; simp only [size_new]; omega) ?_)
        intro v4 w4 hrow4 hg4 _
        have G4 : Hid (Grw w w4) := (Grw.rowj (G1.out.alloc _) hg4 O3.out : Grw w w4)
        go_wp2_with fail
        go_roundw
        case rel => exact ⟨k + 1, M ++ [⟨yi, yc, ys, yu⟩], ck, rfl, by rw [HS.out, HX.out], by rw [cj_app]; simpa using hrow4, G4.out⟩
        case measure => simp only [intOf]; omega
    · have d1 : decide (k < m) = false := by simp [ck]
      have d2 : ¬ (k : Int) < (m : Int) := by omega
      obtain ⟨ao', cap', rfl⟩ := own_len75 RO.out
      have hfin : M = gon J i := by rw [MM.out, List.take_of_length_le (by rw [HM.out]; omega)]; rfl
      obtain ⟨mm, hmm⟩ : ∃ mm, M.length = mm := ⟨_, rfl⟩
      have nb : ∀ q, (Value.slice ao' M.length cap').ownBlock = some q → w.heap.size ≤ q := fun q e => (RO.out.lt q e).1
      have R := Lib.hid (H.out.setJ (F := fun _ => False) (hg.frm (fun _ => False)) (fun _ e => e.elim) (J' := gon J i) (by rw [← hfin]; exact own_base75 RO.out (Nat.zero_le _)) (Or.inr nb) (by have := HM.out; rw [← hfin, MM.out]; exact Nat.le_trans (List.length_filter_le _ _) (by rw [List.length_take]; omega)))
      have NB := Lib.hid nb
      rw [hmm] at R NB ⊢
      clear hg nb hfin hmm
      go_wp2_with fail
      exact bodyPost_end (v := .tuple #[]) (by simp [results, Tryz.results40, go_sem]) rfl ⟨rfl, _, R.out.1, R.out.2.mono (fun k e => e.elim (fun e => e) (fun e => e.elim)), NB.out⟩
end Go.Proofs.YtlopijcpnfkcgaaGreat

/- The document's book: Add and Lease. -/
namespace Go.Proofs.YtlopijcpnfkcgaaGreat
open Go.RowKit
set_option linter.unusedSimpArgs false

/-- the three rows. -/
structure ZV where
  q : Value
  t : Value
  j : Value
def ZB (w : World) (r : Nat) (a room n count : Int) (V : ZV) (last : Nat) (L : List QQ.Wt) (G : List LE.Gr) (J : List Jb) : Prop := RB w r a room n count V.q V.t V.j last L G J
def zb (r : Nat) (V : ZV) (k : Nat) : Prop := zf r V.q V.t V.j k
/-- what a step does to the world. -/
structure Zs (r : Nat) (V V' : ZV) (w x : World) : Prop where
  f : Frm (zb r V) w x
  n : ∀ k, zb r V' k → zb r V k ∨ w.heap.size ≤ k
variable {w x : World} {r : Nat} {a room n count : Int} {V V' : ZV} {vq vt vj : Value} {last : Nat} {L : List QQ.Wt} {G : List LE.Gr} {J : List Jb}
theorem Zs.of (r : Nat) (V : ZV) {w x : World} (g : Grw w x) : Zs r V V w x := ⟨g.frm _, fun _ h => Or.inl h⟩
theorem Zs.trans {V2 : ZV} {y : World} (h : Zs r V V' w x) (g : Zs r V' V2 x y) : Zs r V V2 w y :=
  ⟨h.f.trans g.f (fun k hk => h.n k hk), fun k hk => (g.n k hk).elim (fun e => h.n k e) (fun e => Or.inr (Nat.le_trans h.f.size e))⟩
theorem ZB.later (h : ZB w r a room n count V last L G J) (g : Grw w x) : ZB x r a room n count V last L G J := RB.later h g
theorem ZB.stepQ (h : ZB w r a room n count V last L G J) {count' : Int} {vq' : Value} {L' : List QQ.Wt} (q : QQ.RQ (XQ a room n V.t V.j last) x r a room count' vq' L') (f : Frm (fun k => k = r) w x) (hv : ∀ k, vq'.ownBlock = some k → w.heap.size ≤ k) : ZB x r a room n count' ⟨vq', V.t, V.j⟩ last L' G J ∧ Zs r V ⟨vq', V.t, V.j⟩ w x :=
  ⟨RB.ofQ h q f hv, ⟨f.mono (fun k e => Or.inl e), fun k hk => by
    rcases hk with e | e | e | e
    · exact Or.inl (Or.inl e)
    · exact Or.inr (hv k e)
    · exact Or.inl (Or.inr (Or.inr (Or.inl e)))
    · exact Or.inl (Or.inr (Or.inr (Or.inr e)))⟩⟩
theorem ZB.stepT (h : ZB w r a room n count V last L G J) {last' : Nat} {vt' : Value} {G' : List LE.Gr} (q : LE.RT (XT a room n count V.q V.j) x r last' vt' G') (f : Frm (fun k => k = r) w x) (hv : ∀ k, vt'.ownBlock = some k → w.heap.size ≤ k) : ZB x r a room n count ⟨V.q, vt', V.j⟩ last' L G' J ∧ Zs r V ⟨V.q, vt', V.j⟩ w x :=
  ⟨RB.ofT h q f hv, ⟨f.mono (fun k e => Or.inl e), fun k hk => by
    rcases hk with e | e | e | e
    · exact Or.inl (Or.inl e)
    · exact Or.inl (Or.inr (Or.inl e))
    · exact Or.inr (hv k e)
    · exact Or.inl (Or.inr (Or.inr (Or.inr e)))⟩⟩
theorem ZB.stepJ (h : ZB w r a room n count V last L G J) {F : Nat → Prop} (f : Frm F w x) (hf : ∀ k, F k → V.j.ownBlock = some k ∨ w.heap.size ≤ k) {vj' : Value} {J' : List Jb} (o : x.ownsRow 0 75 4 vj' J'.length (cj J')) (hv : vj'.ownBlock = V.j.ownBlock ∨ ∀ k, vj'.ownBlock = some k → w.heap.size ≤ k) (hl : J'.length ≤ 10000) :
    ZB (x.setCell ⟨r, 7, none⟩ vj') r a room n count ⟨V.q, V.t, vj'⟩ last L G J' ∧ Zs r V ⟨V.q, V.t, vj'⟩ w (x.setCell ⟨r, 7, none⟩ vj') := by
  obtain ⟨b, g⟩ := RB.setJ h f hf o hv hl
  refine ⟨b, ⟨⟨g.os, g.tape, g.output, g.size, fun k hk hn => g.block k hk (fun e => ?_)⟩, fun k hk => ?_⟩⟩
  · rcases e with e | e
    · exact hn (Or.inl e)
    · rcases hf k e with e | e
      · exact hn (Or.inr (Or.inr (Or.inr e)))
      · omega
  · rcases hk with e | e | e | e
    · exact Or.inl (Or.inl e)
    · exact Or.inl (Or.inr (Or.inl e))
    · exact Or.inl (Or.inr (Or.inr (Or.inl e)))
    · rcases hv with hv | hv
      · exact Or.inl (Or.inr (Or.inr (Or.inr (by rw [← hv]; exact e))))
      · exact Or.inr (hv k e)
theorem fpl_at {J : List Jb} (h : Ids J) {j : Nat} (hj : j < J.length) {k : Int} (hk : fpl J J[j].id k) : k = j := by
  rcases hk with ⟨i, e, hi, hid⟩ | ⟨_, hno⟩
  · have h3 := List.pairwise_iff_getElem.1 h
    rcases Nat.lt_trichotomy i j with c | c | c
    · exact absurd hid (h3 i j hi hj c)
    · rw [e, c]
    · exact absurd hid.symm (h3 j i hj hi c)
  · exact absurd rfl (hno _ (List.getElem_mem hj))
theorem zfind_at (h : ZB w r a room n count V last L G J) (hI : Ids J) {j : Nat} (hj : j < J.length) {i : Int} (hi : J[j].id = i) : Calls Tryz.prog 23 #[.pointer (some ⟨r, 0, none⟩), .int .i64 i] w fun e w' => e = .returned (.int .i64 j) ∧ Grw w w' :=
  (zfind_is h i).mono fun _ _ ⟨k, he, hk, g⟩ => ⟨by have e := fpl_at hI hj (k := k) (by rw [hi]; exact hk); rw [he, e], g⟩
theorem zfind_no (h : ZB w r a room n count V last L G J) {i : Int} (hi : ∀ x ∈ J, x.id ≠ i) : Calls Tryz.prog 23 #[.pointer (some ⟨r, 0, none⟩), .int .i64 i] w fun e w' => e = .returned (.int .i64 (-1)) ∧ Grw w w' :=
  (zfind_is h i).mono fun _ _ ⟨k, he, hk, g⟩ => ⟨by
    rcases hk with ⟨j, _, hj, e⟩ | ⟨e, _⟩
    · exact absurd e (hi _ (List.getElem_mem hj))
    · rw [he, e], g⟩
set_option maxHeartbeats 1000000 in
set_option maxRecDepth 100000 in
theorem zadd_bad (i cl : Int) (w : World) (h : ¬ (0 ≤ cl ∧ cl < 8)) : Calls Tryz.prog 10 #[.pointer (some ⟨r, 0, none⟩), .int .i64 i, .int .i64 cl] w fun e w' => e = .returned (.int .i64 1) ∧ w = w' := by
  by_cases h1 : cl < 0
  · have d1 : decide (cl < 0) = true := by simp [h1]
    go_enter Tryz.func10, Tryz.ntmps10
    go_wp2_with fail
    go_ret
    exact ⟨rfl, rfl⟩
  · have d1 : decide (cl < 0) = false := by simp; omega
    have d2 : decide (8 ≤ cl) = true := by simp; omega
    clear h
    go_enter Tryz.func10, Tryz.ntmps10
    go_wp2_with fail
    go_ret
    exact ⟨rfl, rfl⟩
set_option maxHeartbeats 1000000 in
set_option maxRecDepth 100000 in
theorem zadd_twice (h : ZB w r a room n count V last L G J) (hI : Ids J) {i cl : Int} (h0 : 0 ≤ cl) (h8 : cl < 8) {j : Nat} (hj : j < J.length) (hid : J[j].id = i) :
    Calls Tryz.prog 10 #[.pointer (some ⟨r, 0, none⟩), .int .i64 i, .int .i64 cl] w fun e w' => e = .returned (.int .i64 8) ∧ Grw w w' := by
  have C := Lib.hid (zfind_at h hI hj hid)
  have d1 : decide (cl < 0) = false := by simp; omega
  have d2 : decide (8 ≤ cl) = false := by simp; omega
  have d3 : decide ((0 : Int) ≤ (j : Int)) = true := by simp
  clear h hI hj hid h0 h8
  go_enter Tryz.func10, Tryz.ntmps10
  go_wp2_with fail
  refine C.out.mono ?_
  rintro _ w1 ⟨rfl, g⟩
  have G1 := Lib.hid g
  clear g
  go_wp2_with fail
  go_ret
  exact ⟨rfl, G1.out⟩
set_option maxHeartbeats 2000000 in
set_option maxRecDepth 100000 in
theorem zadd_full (h : ZB w r a room n count V last L G J) {i cl : Int} (h0 : 0 ≤ cl) (h8 : cl < 8) (hi : ∀ x ∈ J, x.id ≠ i) (hr : room ≤ J.length) :
    Calls Tryz.prog 10 #[.pointer (some ⟨r, 0, none⟩), .int .i64 i, .int .i64 cl] w fun e w' => e = .returned (.int .i64 10) ∧ Grw w w' := by
  have C := Lib.hid (zfind_no h hi)
  have H := Lib.hid h
  obtain ⟨vq, vt, vj⟩ := V
  obtain ⟨ao, cap, hv, _⟩ := ownsRow_lies (RB.rj h)
  simp only at hv
  subst hv
  obtain ⟨m, hm⟩ : ∃ m, J.length = m := ⟨_, rfl⟩
  have HM := Lib.hid hm
  have d1 : decide (cl < 0) = false := by simp; omega
  have d2 : decide (8 ≤ cl) = false := by simp; omega
  have d4 : decide (room ≤ (m : Int)) = true := by rw [← hm]; simp [hr]
  clear h hi h0 h8 hr hm
  go_enter Tryz.func10, Tryz.ntmps10
  go_wp2_with fail
  refine C.out.mono ?_
  rintro _ w1 ⟨rfl, g⟩
  have G1 := Lib.hid g
  have H1 := H.out.later g
  have m1 := gw_cell (RB.c1 H1)
  have m7 := gw_cell (RB.c7 H1)
  simp only [HM.out] at m7
  clear g H1
  go_wp2_with fail
  refine wp_region_grown (by kernel_rfl) (by kernel_rfl) ?_
  repeat (go_big_quiet_step (fail))
  refine wpQuiet_nil ?_
  rintro _ ⟨q, rfl⟩
  have GQ := Lib.hid (G1.out.trans q.h)
  clear m1 m7
  go_wp2_with fail
  go_ret
  exact ⟨rfl, GQ.out⟩
set_option maxHeartbeats 4000000 in
set_option maxRecDepth 100000 in
theorem zadd_yes (h : ZB w r a room n count V last L G J) {i cl : Int} (h0 : 0 ≤ cl) (h8 : cl < 8) (hi : ∀ x ∈ J, x.id ≠ i) (hr : (J.length : Int) < room) (hL : ∀ j, j < L.length → (QQ.gt L j).id ≠ i) (hl : (L.length : Int) < room) (hb : J.length ≤ 1000) (hlb : L.length ≤ 1000) :
    Calls Tryz.prog 10 #[.pointer (some ⟨r, 0, none⟩), .int .i64 i, .int .i64 cl] w fun e w' => e = .returned (.int .i64 0) ∧ ∃ V', ZB w' r a room n count V' last (L ++ [⟨i, cl, count⟩]) G (J ++ [⟨i, cl, 1, 0⟩]) ∧ Zs r V V' w w' := by
  obtain ⟨i0, hi0, hz0, hz1, hz2⟩ := info_parts Tryz.info75
  have C := Lib.hid (zfind_no h hi)
  have H := Lib.hid h
  obtain ⟨vq, vt, vj⟩ := V
  obtain ⟨ao, cap, hv, _⟩ := ownsRow_lies (RB.rj h)
  simp only at hv
  subst hv
  obtain ⟨m, hm⟩ : ∃ m, J.length = m := ⟨_, rfl⟩
  have HM := Lib.hid hm
  have d1 : decide (cl < 0) = false := by simp; omega
  have d2 : decide (8 ≤ cl) = false := by simp; omega
  have d4 : decide (room ≤ (m : Int)) = false := by rw [← hm]; simp; omega
  have HC := Lib.hid (And.intro h0 (And.intro h8 (And.intro hL (And.intro hl hlb))))
  have hmb : m ≤ 1000 := by omega
  clear h hi h0 h8 hr hm hL hl hb hlb
  go_enter Tryz.func10, Tryz.ntmps10
  go_wp2_with fail
  refine C.out.mono ?_
  rintro _ w1 ⟨rfl, g⟩
  have G1 := Lib.hid g
  have H1 := H.out.later g
  have m1 := gw_cell (RB.c1 H1)
  have m7 := gw_cell (RB.c7 H1)
  simp only [HM.out] at m7
  clear g H1
  go_wp2_with fail
  refine wp_region_grown (by kernel_rfl) (by kernel_rfl) ?_
  repeat (go_big_quiet_step (fail))
  refine wpQuiet_nil ?_
  rintro _ ⟨q, rfl⟩
  have GQ := Lib.hid (G1.out.trans q.h)
  clear m1 m7
  obtain ⟨w2, hw2⟩ : ∃ w2, q.x = w2 := ⟨_, rfl⟩
  rw [hw2] at GQ ⊢
  clear hw2
  have H2 := Lib.hid (H.out.later GQ.out)
  have ga := (Grw.rfl' w2).alloc (.cells #[.int .i64 i, .int .i64 cl, .int .i64 1, .int .i64 0] 75)
  have H3 := Lib.hid (H2.out.later ga)
  have O3 := Lib.hid (show World.ownsRow _ 0 75 4 (.slice ao m cap) m (cj J) from by have := RB.rj H3.out; simp only [HM.out] at this; exact this)
  have D1 := Lib.hid (one_jb w2 ⟨i, cl, 1, 0⟩)
  have D2 := Lib.hid (cj_one [⟨i, cl, 1, 0⟩])
  have GA := Lib.hid ga
  have c7 := RB.c7 H2.out
  simp only [HM.out] at c7
  clear ga
  go_wp2_with (at_builtin; refine wpList_append_mine _ rfl _ _ 68 rfl 75 i0 _ 4 32 Tryz.underlying68 hi0 hz0 hz1 hz2 rfl (by decide) _ _ _ rfl O3.out ⟨w2.heap.size, 0, none⟩ 1 1 (cj [⟨i, cl, 1, 0⟩]) rfl rfl D1.out D2.out (by unfold maxLen; omega) (by omega) ?_)
  intro v5 w5 hrow hgb hob
  rw [← cj_app] at hrow
  obtain ⟨p5, d5, rfl⟩ := ownsRow_succ hrow
  have f5 := grownBy_frm hgb
  have hr5 : ¬ (Value.slice ao m cap).ownBlock = some r := by have := RB.nj H3.out; simp only [HM.out] at this; exact this
  have c7' := f5.cell (RB.c7 H3.out) hr5
  have z7 : w5.frozen? ⟨r, 7, none⟩ = false := LE.frz_frm f5 (RB.c7 H3.out) hr5 (RB.fr H3.out 7 (by decide))
  have R5 := Lib.hid (H3.out.stepJ (J' := J ++ [⟨i, cl, 1, 0⟩]) f5 (fun k e => Or.inl (by simp only [HM.out]; exact e)) (by simp only [List.length_append, List.length_singleton, HM.out]; exact hrow) (by
    simp only [HM.out]
    rcases hob with e | e
    · exact Or.inl e
    · exact Or.inr (fun k hk => by rw [e] at hk; injection hk with hk; rw [size_new]; omega)) (by simp only [List.length_append, List.length_singleton, HM.out]; omega))
  obtain ⟨w6, hw6⟩ : ∃ w6, w5.setCell ⟨r, 7, none⟩ (.slice (some ⟨p5, 0, none⟩) (m + 1) d5) = w6 := ⟨_, rfl⟩
  rw [hw6] at R5
  have PU := Lib.hid (QQ.rput_yes (RB.toQ R5.out.1) i cl HC.out.1 HC.out.2.1 HC.out.2.2.1 HC.out.2.2.2.1 (by have := HC.out.2.2.2.2; omega))
  clear hrow hgb hob f5 c7
  go_wp2_with fail
  refine PU.out.mono ?_
  rintro _ w7 ⟨rfl, vq', q7, f7, n7⟩
  have R7 := Lib.hid (R5.out.1.stepQ q7 f7 n7)
  clear q7 f7 n7
  go_wp2_with fail
  go_ret
  exact ⟨rfl, _, R7.out.1, ((Zs.of r _ (GQ.out.trans GA.out)).trans R5.out.2).trans R7.out.2⟩
set_option maxHeartbeats 1000000 in
set_option maxRecDepth 100000 in
theorem zlease_no (h : ZB w r a room n count V last L G J) {i : Int} (hb : LE.byN G i = none) :
    Calls Tryz.prog 37 #[.pointer (some ⟨r, 0, none⟩), .int .i64 i] w fun e w' => e = .returned (.tuple #[lv 0 0 0 0, .int .i64 13]) ∧ Grw w w' := by
  have ga := (Grw.rfl' w).alloc (.cells #[.int .i64 0, .int .i64 0, .int .i64 0, .int .i64 0, .int .i64 0, .int .u64 0] 38)
  have GA := Lib.hid ga
  have C := Lib.hid (LE.rlook_is (RB.toT (h.later ga)) i)
  rw [hb] at C
  unfold LE.fv LE.g0 at C
  simp only [Option.getD_none, Option.isSome_none] at C
  have S := Lib.hid (Six.new w (.int .i64 0) (.int .i64 0) (.int .i64 0) (.int .i64 0) (.int .i64 0) (.int .u64 0) 38)
  clear h hb ga
  go_enter Tryz.func37, Tryz.ntmps37
  go_wp2_with fail
  refine C.out.mono ?_
  rintro _ w1 ⟨rfl, hw⟩
  have G1 := Lib.hid (GA.out.trans hw)
  have hs : w.heap.size < w1.heap.size := by have := Below.size hw; rw [size_new] at this; omega
  have s' := (S.out.later hw (by rw [size_new]; omega)).later ((Grw.rfl' w1).alloc (.cells #[.int .i64 0, .int .i64 0, .int .u64 0, .bool false] 93)) hs
  obtain ⟨z0, z1, z2, z3, z4, z5, k0, k1, k2, k3, k4, k5⟩ := s'
  clear hw hs
  go_wp2_with fail
  exact bodyPost_ret (v := .tuple #[lv 0 0 0 0, .int .i64 13]) (by simp [results, Tryz.results37, go_sem, lv, z0, z1, z2, z3, z4, z5]) rfl ⟨rfl, by repeat (first | with_reducible exact G1.out | with_reducible refine Grw.alloc ?_ _ | with_reducible refine Grw.set ?_ (Nat.le_refl _) _)⟩
set_option maxHeartbeats 4000000 in
set_option maxRecDepth 100000 in
theorem zlease_is (h : ZB w r a room n count V last L G J) (hI : Ids J) {i : Int} {g : LE.Gr} (hb : LE.byN G i = some g) {j : Nat} (hj : j < J.length) (hid : J[j].id = g.j) :
    Calls Tryz.prog 37 #[.pointer (some ⟨r, 0, none⟩), .int .i64 i] w fun e w' => e = .returned (.tuple #[lv i g.j J[j].u g.u, .int .i64 0]) ∧ Grw w w' := by
  have ga := (Grw.rfl' w).alloc (.cells #[.int .i64 0, .int .i64 0, .int .i64 0, .int .i64 0, .int .i64 0, .int .u64 0] 38)
  have GA := Lib.hid ga
  have C := Lib.hid (LE.rlook_is (RB.toT (h.later ga)) i)
  rw [hb] at C
  unfold LE.fv at C
  simp only [Option.getD_some, Option.isSome_some] at C
  have S := Lib.hid (Six.new w (.int .i64 0) (.int .i64 0) (.int .i64 0) (.int .i64 0) (.int .i64 0) (.int .u64 0) 38)
  have FN := Lib.hid (fun (y : World) (gy : Grw w y) => zfind_at (h.later gy) hI hj hid)
  have H := Lib.hid h
  obtain ⟨vq, vt, vj⟩ := V
  obtain ⟨gb, cap, hv, hgb, -, -, -, b3, -, -⟩ := own_at (RB.rj h) hj
  have NW : Hid (¬ r = w.heap.size ∧ ¬ gb = w.heap.size) := (⟨fun e => by have := RB.rlt h; omega, by omega⟩ : ¬ r = w.heap.size ∧ ¬ gb = w.heap.size)
  clear hgb
  simp only at hv
  subst hv
  obtain ⟨yu, hyu⟩ : ∃ yu, J[j].u = yu := ⟨_, rfl⟩
  rw [hyu] at b3 ⊢
  obtain ⟨gn, gj, gu⟩ := g
  simp only at C FN
  obtain ⟨m, hm⟩ : ∃ m, J.length = m := ⟨_, rfl⟩
  have c7 := RB.c7 h
  simp only [hm] at c7
  have d1 : (j : Int) < (m : Int) := by omega
  have hjm : j < m := by omega
  have d0 : (0 : Int) ≤ (j : Int) := by omega
  have SS : Hid (∀ u, Grw w u → u.cell? ⟨r, 7, none⟩ = some (.slice (some ⟨gb, 0, none⟩) m cap) ∧ u.cell? ⟨gb, j * 4 + 3, none⟩ = some (.int .i64 yu) ∧ u.cell? ⟨gb, j * 4 + 2 + 1, none⟩ = some (.int .i64 yu)) :=
    (fun u g => ⟨g.cell c7, g.cell b3, g.cell b3⟩ : ∀ u, Grw w u → u.cell? ⟨r, 7, none⟩ = some (.slice (some ⟨gb, 0, none⟩) m cap) ∧ u.cell? ⟨gb, j * 4 + 3, none⟩ = some (.int .i64 yu) ∧ u.cell? ⟨gb, j * 4 + 2 + 1, none⟩ = some (.int .i64 yu))
  clear h hb ga hI hj hid hyu b3 hm c7
  go_enter Tryz.func37, Tryz.ntmps37
  go_wp2_with fail
  refine C.out.mono ?_
  rintro _ w1 ⟨rfl, hw⟩
  have G1 := GA.out.trans hw
  have hs : w.heap.size < w1.heap.size := by have := Below.size hw; rw [size_new] at this; omega
  obtain ⟨w2, hw2⟩ : ∃ w2, w1.alloc (.cells #[.int .i64 gn, .int .i64 gj, .int .u64 (gu : Nat), .bool true] 93) = w2 := ⟨_, rfl⟩
  have g2 : Grw w1 w2 := by rw [← hw2]; exact (Grw.rfl' w1).alloc _
  have s' := Lib.hid ((S.out.later hw (by rw [size_new]; omega)).later g2 hs)
  have x1 : w2.cell? ⟨w1.heap.size, 1, none⟩ = some (.int .i64 gj) := by rw [← hw2]; simp [go_sem]
  have x2 : w2.cell? ⟨w1.heap.size, 2, none⟩ = some (.int .u64 (gu : Nat)) := by rw [← hw2]; simp [go_sem]
  have x3 : w2.cell? ⟨w1.heap.size, 3, none⟩ = some (.bool true) := by rw [← hw2]; simp [go_sem]
  have hs2 : w.heap.size < w2.heap.size := Nat.lt_of_lt_of_le hs (Below.size g2)
  have G2 := Lib.hid (G1.trans g2)
  have TT : Hid (∀ u, Frm (fun k => k = w.heap.size) w2 u → (u.cell? ⟨r, 7, none⟩ = some (.slice (some ⟨gb, 0, none⟩) m cap) ∧ u.cell? ⟨gb, j * 4 + 3, none⟩ = some (.int .i64 yu) ∧ u.cell? ⟨gb, j * 4 + 2 + 1, none⟩ = some (.int .i64 yu) ∧ u.cell? ⟨w1.heap.size, 1, none⟩ = some (.int .i64 gj) ∧ u.cell? ⟨w1.heap.size, 2, none⟩ = some (.int .u64 (gu : Nat)))) :=
    (fun u g => ⟨g.cell (SS.out w2 G2.out).1 NW.out.1, g.cell (SS.out w2 G2.out).2.1 NW.out.2, g.cell (SS.out w2 G2.out).2.2 NW.out.2, g.cell x1 (fun e => by have e : w1.heap.size = w.heap.size := e; omega), g.cell x2 (fun e => by have e : w1.heap.size = w.heap.size := e; omega)⟩ : ∀ u, Frm (fun k => k = w.heap.size) w2 u → (u.cell? ⟨r, 7, none⟩ = some (.slice (some ⟨gb, 0, none⟩) m cap) ∧ u.cell? ⟨gb, j * 4 + 3, none⟩ = some (.int .i64 yu) ∧ u.cell? ⟨gb, j * 4 + 2 + 1, none⟩ = some (.int .i64 yu) ∧ u.cell? ⟨w1.heap.size, 1, none⟩ = some (.int .i64 gj) ∧ u.cell? ⟨w1.heap.size, 2, none⟩ = some (.int .u64 (gu : Nat))))
  have HS := Lib.hid (And.intro s' hs2)
  clear hw G1 hs g2 s' hs2
  go_wp2_with fail
  clear x1 x2 x3 hw2
  have S2 := HS.out.1.out
  obtain ⟨z0, z1, z2, z3, z4, z5, k0, k1, k2, k3, k4, k5⟩ := S2
  go_region_held3 (fun u => u.cell? ⟨r, 7, none⟩ = some (.slice (some ⟨gb, 0, none⟩) m cap) ∧ u.cell? ⟨gb, j * 4 + 3, none⟩ = some (.int .i64 yu) ∧ u.cell? ⟨gb, j * 4 + 2 + 1, none⟩ = some (.int .i64 yu) ∧ u.cell? ⟨w1.heap.size, 1, none⟩ = some (.int .i64 gj) ∧ u.cell? ⟨w1.heap.size, 2, none⟩ = some (.int .u64 (gu : Nat)))
    ((refine TT.out _ ?_; repeat (first | with_reducible exact hxf | with_reducible exact Frm.rfl' _ _ | with_reducible refine Frm.drew ?_ | with_reducible refine Frm.alloc ?_ _ | with_reducible refine Frm.set ?_ _ _ (Or.inl rfl))))
    (first | (go_at_call 23; (with_reducible refine (FN.out _ (G2.out.trans ((Grw.rfl' _).drew))).mono ?_); rintro _ w3 ⟨rfl, hw3⟩; have hx : Grw w2 w3 := Grw.trans ((Grw.rfl' w2).drew) hw3; have hxf : Frm (fun k => k = w.heap.size) w2 w3 := hx.frm _; have tt := HS.out.1.out.later hx HS.out.2; have y0 := tt.c0; have y1 := tt.c1; have y2 := tt.c2; have y3 := tt.c3; have y4 := tt.c4; have y5 := tt.c5; have l0 := tt.f0; have l1 := tt.f1; have l2 := tt.f2; have l3 := tt.f3; have l4 := tt.f4; have l5 := tt.f5; clear tt hw3))
  have G3 := Lib.hid (G2.out.trans hx)
  clear hx hxf
  go_wp2_with fail
  exact bodyPost_ret (v := .tuple #[lv i gj yu gu, .int .i64 0]) (by simp [results, Tryz.results37, go_sem, lv, y0, y1, y2, y3, y4, y5]) rfl ⟨rfl, by repeat (first | with_reducible exact G3.out | with_reducible refine Grw.drew ?_ | with_reducible refine Grw.alloc ?_ _ | with_reducible refine Grw.set ?_ (Nat.le_refl _) _)⟩
end Go.Proofs.YtlopijcpnfkcgaaGreat
