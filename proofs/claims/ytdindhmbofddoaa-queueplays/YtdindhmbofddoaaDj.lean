/- The law QueuePlays, walked: both queues side by side. -/
import Derived.Test.YtdindhmbofddoaaDh
import Derived.Test.YtdindhmbofddoaaQk
import Derived.Test.YtdindhmbofddoaaDc
import Derived.Test.YtdindhmbofddoaaFa
import Derived.Deep.LoopGhost
import Derived.Deep.CutRange
import Derived.Deep.CutBlock
import Derived.Deep.RegionHeld3
namespace Go.Proofs.Ytdindhmbofddoaa
open Go.RowKit
set_option linter.unusedSimpArgs false

/-- the two queues stand apart. -/
structure PQ (w0 : World) (p : Nat) (v : Value) (r : Nat) (vr : Value) : Prop where
  nr : w0.heap.size ≤ r
  nv : ∀ k, vr.ownBlock = some k → w0.heap.size ≤ k
  pr : p ≠ r
  v1 : v.ownBlock ≠ some r
  v2 : vr.ownBlock ≠ some p
  v3 : ∀ k, v.ownBlock = some k → vr.ownBlock ≠ some k
structure B3 (w : World) (b : Nat) (c0 c1 c2 : Value) : Prop where
  c0 : w.cell? ⟨b, 0, none⟩ = some c0
  c1 : w.cell? ⟨b, 1, none⟩ = some c1
  c2 : w.cell? ⟨b, 2, none⟩ = some c2
theorem B3.frm {F : Nat → Prop} {w x : World} {b : Nat} {c0 c1 c2 : Value} (h : B3 w b c0 c1 c2) (f : Frm F w x) (hn : ¬ F b) : B3 x b c0 c1 c2 := ⟨f.cell h.c0 hn, f.cell h.c1 hn, f.cell h.c2 hn⟩
theorem B3.later {w x : World} {b : Nat} {c0 c1 c2 : Value} (h : B3 w b c0 c1 c2) (g : Grw w x) : B3 x b c0 c1 c2 := ⟨g.cell h.c0, g.cell h.c1, g.cell h.c2⟩
/-- all that a round holds: both queues, and the act that is played. -/
structure PST (w0 w : World) (p r X : Nat) (a room count : Int) (v vr : Value) (L : List Wt) (c0 c1 c2 : Value) : Prop where
  qm : QM w0 w p a room count v L
  rq : RQ w r a room count vr L
  pq : PQ w0 p v r vr
  bx : B3 w X c0 c1 c2
  xp : X ≠ p
  xr : X ≠ r
  xv : v.ownBlock ≠ some X
  xw : vr.ownBlock ≠ some X
theorem QM.frm {w0 w x : World} {p : Nat} {a room count : Int} {v : Value} {L : List Wt} (h : QM w0 w p a room count v L) {F : Nat → Prop} (f : Frm F w x) (hF : ∀ k, F k → w0.heap.size ≤ k) (hn : ∀ k, qf p v k → ¬ F k) : QM w0 x p a room count v L :=
  ⟨h.q.keep f hn, Frm.grw h.g f hF, h.pn, h.vn⟩
theorem PST.later {w0 w y : World} {p r X : Nat} {a room count : Int} {v vr : Value} {L : List Wt} {c0 c1 c2 : Value} (h : PST w0 w p r X a room count v vr L c0 c1 c2) (g : Grw w y) : PST w0 y p r X a room count v vr L c0 c1 c2 :=
  ⟨h.qm.later g, h.rq.later g, h.pq, h.bx.later g, h.xp, h.xr, h.xv, h.xw⟩
theorem QU.vlt {w : World} {p : Nat} {a room count : Int} {v : Value} {L : List Wt} (h : QU w p a room count v L) : ∀ k, v.ownBlock = some k → k < w.heap.size := by
  obtain ⟨l, h1, _, _⟩ := h.line
  exact fun k e => (h1.row.lt k e).2
theorem QU.plt {w : World} {p : Nat} {a room count : Int} {v : Value} {L : List Wt} (h : QU w p a room count v L) : p < w.heap.size := World.block_lt_of_cell? _ _ h.c0
theorem RQ.rlt {w : World} {r : Nat} {a room count : Int} {v : Value} {L : List Wt} (h : RQ w r a room count v L) : r < w.heap.size := World.block_lt_of_cell? _ _ h.c0
/-- the program's queue has turned: what stands beside it. -/
theorem PST.half {w0 w y : World} {p r X : Nat} {a room count : Int} {v vr : Value} {L : List Wt} {c0 c1 c2 : Value} (h : PST w0 w p r X a room count v vr L c0 c1 c2) (f : Frm (qf p v) w y) : RQ y r a room count vr L ∧ B3 y X c0 c1 c2 :=
  ⟨h.rq.keep f (fun k hk e => by
    rcases hk with rfl | hk
    · rcases e with e | e
      · exact h.pq.pr e.symm
      · exact h.pq.v1 e
    · rcases e with rfl | e
      · exact h.pq.v2 hk
      · exact h.pq.v3 k e hk), h.bx.frm f (fun e => by
    rcases e with e | e
    · exact h.xp e
    · exact h.xv e)⟩
/-- the document's has turned: what stands beside it. -/
theorem PST.half' {w0 w y : World} {p r X : Nat} {a room count : Int} {v vr : Value} {L : List Wt} {c0 c1 c2 : Value} (h : PST w0 w p r X a room count v vr L c0 c1 c2) (f : Frm (fun k => k = r) w y) : QM w0 y p a room count v L ∧ B3 y X c0 c1 c2 :=
  ⟨h.qm.frm f (fun k e => by rw [e]; exact h.pq.nr) (fun k hk e => by
    rcases hk with rfl | hk
    · exact h.pq.pr e
    · exact h.pq.v1 (by rw [hk, e])), h.bx.frm f h.xr⟩
theorem near_apart {w0 w : World} {p r X : Nat} {a room count : Int} {v vr v2 : Value} {L : List Wt} {c0 c1 c2 : Value} (h : PST w0 w p r X a room count v vr L c0 c1 c2) (n : Near w v v2) : PQ w0 p v2 r vr ∧ v2.ownBlock ≠ some X := by
  have hX : X < w.heap.size := World.block_lt_of_cell? _ _ h.bx.c0
  have hr := h.rq.rlt
  rcases n with n | ⟨k, n, hk⟩
  · exact ⟨⟨h.pq.nr, h.pq.nv, h.pq.pr, by rw [n]; exact h.pq.v1, h.pq.v2, fun k e => h.pq.v3 k (n ▸ e)⟩, by rw [n]; exact h.xv⟩
  · refine ⟨⟨h.pq.nr, h.pq.nv, h.pq.pr, fun e => ?_, h.pq.v2, fun q e e2 => ?_⟩, fun e => ?_⟩
    · rw [n] at e; injection e with e; omega
    · rw [n] at e; injection e with e; have := (h.rq.row.lt q e2).2; omega
    · rw [n] at e; injection e with e; omega
/-- both have, the program's first. -/
theorem PST.both {w0 w y z : World} {p r X : Nat} {a room count count' : Int} {v vr v2 vr2 : Value} {L L' : List Wt} {c0 c1 c2 : Value} (h : PST w0 w p r X a room count v vr L c0 c1 c2) (t : QM w0 y p a room count' v2 L') (f : Frm (qf p v) w y) (n : Near w v v2)
    (q : RQ z r a room count' vr2 L') (g : Frm (fun k => k = r) y z) (hv : ∀ k, vr2.ownBlock = some k → y.heap.size ≤ k) : PST w0 z p r X a room count' v2 vr2 L' c0 c1 c2 := by
  obtain ⟨hp, hx⟩ := near_apart h n
  obtain ⟨_, b1⟩ := h.half f
  have hX : X < y.heap.size := World.block_lt_of_cell? _ _ b1.c0
  have hp1 := t.q.plt
  have hv1 := t.q.vlt
  refine ⟨t.frm g (fun k e => by rw [e]; exact h.pq.nr) (fun k hk e => ?_), q, ⟨h.pq.nr, fun k e => Nat.le_trans (Below.size t.g) (hv k e), h.pq.pr, hp.v1, fun e => by have := hv p e; omega, fun k e e2 => by have := hv k e2; have := hv1 k e; omega⟩, b1.frm g h.xr, h.xp, h.xr, hx, fun e => by have := hv X e; omega⟩
  rcases hk with rfl | hk
  · exact h.pq.pr e
  · exact hp.v1 (by rw [hk, e])
/-- both have, the document's first. -/
theorem PST.both' {w0 w y z : World} {p r X : Nat} {a room count count' : Int} {v vr v2 vr2 : Value} {L L' : List Wt} {c0 c1 c2 : Value} (h : PST w0 w p r X a room count v vr L c0 c1 c2)
    (q : RQ y r a room count' vr2 L') (g : Frm (fun k => k = r) w y) (hv : ∀ k, vr2.ownBlock = some k → w.heap.size ≤ k) (t : QM w0 z p a room count' v2 L') (f : Frm (qf p v) y z) (n : Near y v v2) : PST w0 z p r X a room count' v2 vr2 L' c0 c1 c2 := by
  obtain ⟨qm1, b1⟩ := h.half' g
  have hX : X < w.heap.size := World.block_lt_of_cell? _ _ h.bx.c0
  have hp1 := h.qm.q.plt
  have hv1 := h.qm.q.vlt
  have hq : PQ w0 p v r vr2 := ⟨h.pq.nr, fun k e => Nat.le_trans (Below.size h.qm.g) (hv k e), h.pq.pr, h.pq.v1, fun e => by have := hv p e; omega, fun k e e2 => by have := hv k e2; have := hv1 k e; omega⟩
  have hr := q.rlt
  have hX1 : X < y.heap.size := World.block_lt_of_cell? _ _ b1.c0
  have key : PQ w0 p v2 r vr2 ∧ v2.ownBlock ≠ some X := by
    rcases n with n | ⟨k, n, hk⟩
    · exact ⟨⟨hq.nr, hq.nv, hq.pr, by rw [n]; exact hq.v1, hq.v2, fun k e => hq.v3 k (n ▸ e)⟩, by rw [n]; exact h.xv⟩
    · refine ⟨⟨hq.nr, hq.nv, hq.pr, fun e => ?_, hq.v2, fun q' e e2 => ?_⟩, fun e => ?_⟩
      · rw [n] at e; injection e with e; omega
      · rw [n] at e; injection e with e; have := (q.row.lt q' e2).2; omega
      · rw [n] at e; injection e with e; omega
  refine ⟨t, q.keep f (fun k hk e => ?_), key.1, b1.frm f (fun e => ?_), h.xp, h.xr, key.2, fun e => by have := hv X e; omega⟩
  · rcases hk with rfl | hk
    · rcases e with e | e
      · exact hq.pr e.symm
      · exact hq.v1 e
    · rcases e with rfl | e
      · exact hq.v2 hk
      · exact hq.v3 k e hk
  · rcases e with e | e
    · exact h.xp e
    · exact h.xv e
theorem Grw.of_drew {w x : World} (h : Grw w.drew x) : Grw w x := ((Grw.rfl' w).drew).trans h
set_option maxHeartbeats 20000000 in
set_option maxRecDepth 100000 in
theorem plays_good (a room : Int) (ao : Option Addr) (cap : Nat) (acts : List Wt) (w : World) (hl : Lies w ao (cw acts)) (hm : acts.length ≤ 9223372036854775807) (ha1 : 1 ≤ a) (ha2 : a ≤ 1000) (hr1 : 0 ≤ room) (hr2 : room ≤ 1000) :
    Calls Try.prog 3 #[.int .i64 a, .int .i64 room, .slice ao acts.length cap] w fun e w' => e = .returned (.bool true) ∧ Grw w w' := by
  have LI := Lib.hid hl
  have WK := Lib.hid (fun w => wakes_any w)
  have MY := Lib.hid (fun w => rmay_yes a room w ha1 ha2 hr1 hr2)
  have NW := Lib.hid (m_new a room w w (Grw.rfl' w) ha1 ha2 hr1 hr2)
  have RB := Lib.hid (And.intro hr1 hr2)
  obtain ⟨n, hn⟩ : ∃ n, acts.length = n := ⟨_, rfl⟩
  rw [hn] at hm ⊢
  have HN := Lib.hid hn
  clear hl hn ha1 ha2 hr1 hr2
  go_enter Try.func3, Try.ntmps3
  go_wp2_with fail
  refine NW.out.mono ?_
  rintro _ w1 ⟨p, rfl, m1, _⟩
  have M1 := Lib.hid m1
  clear m1
  go_wp2_with fail
  refine (MY.out _).mono ?_
  rintro _ _ ⟨rfl, rfl⟩
  obtain ⟨r, hr⟩ : ∃ r, w1.heap.size = r := ⟨_, rfl⟩
  have M2 := Lib.hid (M1.out.later ((Grw.rfl' w1).alloc (.cells #[.int .i64 a, .int .i64 room, .int .i64 0, .slice none 0 0] 30)))
  have R1 : Hid (RQ (w1.alloc (.cells #[.int .i64 a, .int .i64 room, .int .i64 0, .slice none 0 0] 30)) r a room 0 (.slice none 0 0) []) := (by
    rw [← hr]
    exact ⟨by simp [go_sem], by simp [go_sem], by simp [go_sem], by simp [go_sem], by simp [go_sem], by simp [go_sem], World.ownsRow_nil _ _ _ _, (fun e => by cases e), by simp⟩ : RQ (w1.alloc (.cells #[.int .i64 a, .int .i64 room, .int .i64 0, .slice none 0 0] 30)) r a room 0 (.slice none 0 0) [])
  have S1 : Hid (PQ w p (.slice none 0 0) r (.slice none 0 0)) := (⟨by rw [← hr]; exact Below.size M1.out.g, (fun k e => by cases e), fun e => by have := M1.out.q.plt; omega, (fun e => by cases e), (fun e => by cases e), (fun k e => by cases e)⟩ : PQ w p (.slice none 0 0) r (.slice none 0 0))
  go_wp2_with fail
  clear hr
  go_loopw [9] (fun u9 wr => ∃ (i : Nat) (count : Int) (v vr : Value) (L : List Wt), i ≤ n ∧ i ≤ 60 ∧ 0 ≤ count ∧ count ≤ i ∧ L.length ≤ i ∧ u9 = .int .i64 (i : Nat) ∧ QM w wr p a room count v L ∧ RQ wr r a room count vr L ∧ PQ w p v r vr) (fun u9 _ => n - (intOf u9).toNat)
  case atStart => exact ⟨0, 0, _, _, [], Nat.zero_le _, Nat.zero_le _, by omega, by omega, by simp, rfl, M2.out, R1.out, S1.out⟩
  case round =>
    obtain ⟨i, count, v, vr, L, hin, hi60, hc0, hci, hLi, rfl, hQ, hR, hS⟩ := hrel
    have T := Lib.hid hQ
    have R := Lib.hid hR
    have S := Lib.hid hS
    clear hQ hR hS
    by_cases ci : i < n
    · have d1 : decide ((i : Int) < (n : Int)) = true := by simp; omega
      by_cases c60 : i < 60
      · have d2 : decide ((i : Int) < 60) = true := by simp; omega
        have hkl : i < acts.length := by rw [HN.out]; exact ci
        have hki : (i : Int) < (n : Int) := by omega
        obtain ⟨b, o, rfl, e0, e1, e2⟩ := wlies_at (LI.out.later T.out.g) hkl
        obtain ⟨x, hx⟩ : ∃ x, acts[i] = x := ⟨_, rfl⟩
        rw [hx] at e0 e1 e2
        obtain ⟨xd, xi, xc⟩ := x
        simp only at e0 e1 e2
        have q6 : IntKind.i64.wrap ((i : Int) + 1) = ((i + 1 : Nat) : Int) := by simp [IntKind.wrap_i64]; omega
        obtain ⟨X, hX⟩ : ∃ X, wr.heap.size = X := ⟨_, rfl⟩
        obtain ⟨w2, hw2⟩ : ∃ w2, wr.alloc (.cells #[.int .i64 xd, .int .i64 xi, .int .i64 xc] 32) = w2 := ⟨_, rfl⟩
        have ST2 : Hid (PST w w2 p r X a room count v vr L (.int .i64 xd) (.int .i64 xi) (.int .i64 xc)) := (by
          have g : Grw wr w2 := by rw [← hw2]; exact (Grw.rfl' wr).alloc _
          exact ⟨T.out.later g, R.out.later g, S.out, by rw [← hX, ← hw2]; exact ⟨by simp [go_sem], by simp [go_sem], by simp [go_sem]⟩, by have := T.out.q.plt; omega, by have := R.out.rlt; omega, fun e => by have := T.out.q.vlt X e; omega, fun e => by have := (R.out.row.lt X e).2; omega⟩ : PST w w2 p r X a room count v vr L (.int .i64 xd) (.int .i64 xi) (.int .i64 xc))
        have x0 := ST2.out.bx.c0
        obtain ⟨q, hq⟩ : ∃ q : Int, xd % 6 = q := ⟨_, rfl⟩
        have q0 := Int.emod_nonneg xd (show (6 : Int) ≠ 0 by decide)
        have q1 := Int.emod_lt_of_pos xd (show (0 : Int) < 6 by decide)
        rw [hq] at q0 q1
        have MO : Hid (∀ w, Calls Try.prog 11 #[.int .i64 xd, .int .i64 6] w fun e w' => e = .returned (.int .i64 q) ∧ w = w') := (fun w => by have := mod_any xd 6 w (by decide) (by decide); rw [show ((6 : Nat) : Int) = 6 from rfl, hq] at this; exact this : ∀ w, Calls Try.prog 11 #[.int .i64 xd, .int .i64 6] w fun e w' => e = .returned (.int .i64 q) ∧ w = w')
        have HL := Lib.hid (And.intro hin (And.intro hi60 (And.intro hc0 (And.intro hci hLi))))
        clear hx hq hkl T R S hin hi60 hc0 hci hLi
        go_upto_block 2 with (with_reducible refine (MO.out _).mono ?_; rintro _ _ ⟨rfl, rfl⟩)
        clear hw2 hX
        go_cut [] from 31 to 122 (fun wx => ∃ count' v' vr' L', PST w wx p r X a room count' v' vr' L' (.int .i64 xd) (.int .i64 xi) (.int .i64 xc) ∧ 0 ≤ count' ∧ count' ≤ i + 1 ∧ L'.length ≤ i + 1)
        case first =>
          have x1 := ST2.out.bx.c1
          have x2 := ST2.out.bx.c2
          rcases (show q = 0 ∨ q = 1 ∨ q = 2 ∨ q = 3 ∨ q = 4 ∨ q = 5 by omega) with rfl | rfl | rfl | rfl | rfl | rfl
          · by_cases hb : 0 ≤ xc ∧ xc < 8
            · by_cases ht : ∀ j, j < L.length → (gt L j).id ≠ xi
              · by_cases hf : (L.length : Int) < room
                · have A1 : Hid (∀ u, QM w u p a room count v L → Calls Try.prog 12 #[.pointer (some ⟨p, 0, none⟩), .int .i64 xi, .int .i64 xc] u fun e w' => e = .returned (.int .i64 0) ∧ ∃ v', QM w w' p a room count v' (L ++ [⟨xi, xc, count⟩]) ∧ Frm (qf p v) u w' ∧ Near u v v') := (fun u h => m_put h xi xc hb.1 hb.2 ht hf (by have := HL.out; omega) : ∀ u, QM w u p a room count v L → Calls Try.prog 12 #[.pointer (some ⟨p, 0, none⟩), .int .i64 xi, .int .i64 xc] u fun e w' => e = .returned (.int .i64 0) ∧ ∃ v', QM w w' p a room count v' (L ++ [⟨xi, xc, count⟩]) ∧ Frm (qf p v) u w' ∧ Near u v v')
                  have A2 : Hid (∀ u, RQ u r a room count vr L → Calls Try.prog 13 #[.pointer (some ⟨r, 0, none⟩), .int .i64 xi, .int .i64 xc] u fun e w' => e = .returned (.int .i64 0) ∧ ∃ v', RQ w' r a room count v' (L ++ [⟨xi, xc, count⟩]) ∧ Frm (fun k => k = r) u w' ∧ (∀ k, v'.ownBlock = some k → u.heap.size ≤ k)) := (fun u h => rput_yes h xi xc hb.1 hb.2 ht hf (by have := HL.out; omega) : ∀ u, RQ u r a room count vr L → Calls Try.prog 13 #[.pointer (some ⟨r, 0, none⟩), .int .i64 xi, .int .i64 xc] u fun e w' => e = .returned (.int .i64 0) ∧ ∃ v', RQ w' r a room count v' (L ++ [⟨xi, xc, count⟩]) ∧ Frm (fun k => k = r) u w' ∧ (∀ k, v'.ownBlock = some k → u.heap.size ≤ k))
                  have SS : Hid (∀ u, Grw w2 u → (u.cell? ⟨X, 1, none⟩ = some (.int .i64 xi) ∧ u.cell? ⟨X, 2, none⟩ = some (.int .i64 xc))) := (fun u g => ⟨g.cell x1, g.cell x2⟩ : ∀ u, Grw w2 u → (u.cell? ⟨X, 1, none⟩ = some (.int .i64 xi) ∧ u.cell? ⟨X, 2, none⟩ = some (.int .i64 xc)))
                  have GD : Grw w2 w2.drew := (Grw.rfl' w2).drew
                  have SD := Lib.hid (ST2.out.later GD)
                  go_wp2_with fail
                  go_region_held3 (fun u => u.cell? ⟨X, 1, none⟩ = some (.int .i64 xi) ∧ u.cell? ⟨X, 2, none⟩ = some (.int .i64 xc))
                    ((first | with_reducible assumption | exact ⟨cX1, cX2⟩ | (refine SS.out _ ?_; exact GD)))
                    (first
                      | (go_at_call 12; first
                          | (refine (A1.out _ tq).mono ?_; rintro _ y ⟨rfl, v2, q2, f2, n2⟩; have sf := SD.out.both' rz fz hv q2 f2 n2; have cX1 := sf.bx.c1; have cX2 := sf.bx.c2; have SG := Lib.hid sf; clear sf tq rz fz hv q2 f2 n2)
                          | (refine (A1.out _ SD.out.qm).mono ?_; rintro _ y ⟨rfl, v2, q2, f2, n2⟩; have hh := SD.out.half f2; have ry := hh.1; have cX1 := hh.2.c1; have cX2 := hh.2.c2; clear hh))
                      | (go_at_call 13; first
                          | (refine (A2.out _ ry).mono ?_; rintro _ z ⟨rfl, v3, rz, fz, hv⟩; have sf := SD.out.both q2 f2 n2 rz fz hv; have cX1 := sf.bx.c1; have cX2 := sf.bx.c2; have SG := Lib.hid sf; clear sf ry rz fz hv q2 f2 n2)
                          | (refine (A2.out _ SD.out.rq).mono ?_; rintro _ z ⟨rfl, v3, rz, fz, hv⟩; have hh := SD.out.half' fz; have tq := hh.1; have cX1 := hh.2.c1; have cX2 := hh.2.c2; clear hh)))
                  all_goals
                    clear x1 x2
                    go_wp2_with fail
                    go_meet
                    case rel => exact ⟨count, _, _, _, SG.out, by have := HL.out; omega, by have := HL.out; omega, by rw [List.length_append]; have := HL.out; simp; omega⟩
                · have hf : room ≤ (L.length : Int) := by omega
                  have P1 := Lib.hid (fun (g : GW w2) => calls_grown (p := g) (put_full (ST2.out.later g.h).qm.q xi xc hb.1 hb.2 ht hf))
                  have P2 := Lib.hid (fun (g : GW w2) => calls_grown (p := g) (rput_full (ST2.out.later g.h).rq xi xc hb.1 hb.2 ht hf))
                  go_wp2_with fail
                  have m1 := gw_cell x1
                  have m2 := gw_cell x2
                  refine wp_region_grown (by kernel_rfl) (by kernel_rfl) ?_
                  repeat (go_big_quiet_step (first | (go_at_call 12; with_reducible exact P1.out _) | (go_at_call 13; with_reducible exact P2.out _)))
                  refine wpQuiet_nil ?_
                  rintro _ ⟨qw, rfl⟩
                  have SZ := Lib.hid (ST2.out.later qw.h)
                  clear m1 m2 x1 x2
                  go_wp2_with fail
                  go_meet
                  case rel => exact ⟨count, v, vr, L, SZ.out, by have := HL.out; omega, by have := HL.out; omega, by have := HL.out; omega⟩
              · have ht : ∃ j, j < L.length ∧ (gt L j).id = xi := by
                  apply Classical.byContradiction
                  intro c
                  exact ht (fun j hj e => c ⟨j, hj, e⟩)
                have P1 := Lib.hid (fun (g : GW w2) => calls_grown (p := g) (put_twice (ST2.out.later g.h).qm.q xi xc hb.1 hb.2 ht))
                have P2 := Lib.hid (fun (g : GW w2) => calls_grown (p := g) (rput_twice (ST2.out.later g.h).rq xi xc hb.1 hb.2 ht))
                go_wp2_with fail
                have m1 := gw_cell x1
                have m2 := gw_cell x2
                refine wp_region_grown (by kernel_rfl) (by kernel_rfl) ?_
                repeat (go_big_quiet_step (first | (go_at_call 12; with_reducible exact P1.out _) | (go_at_call 13; with_reducible exact P2.out _)))
                refine wpQuiet_nil ?_
                rintro _ ⟨qw, rfl⟩
                have SZ := Lib.hid (ST2.out.later qw.h)
                clear m1 m2 x1 x2
                go_wp2_with fail
                go_meet
                case rel => exact ⟨count, v, vr, L, SZ.out, by have := HL.out; omega, by have := HL.out; omega, by have := HL.out; omega⟩
            · have P1 := Lib.hid (fun (g : GW w2) => calls_grown_same (p := g) (put_bad p xi xc g.x hb))
              have P2 := Lib.hid (fun (g : GW w2) => calls_grown_same (p := g) (rput_bad (r := r) xi xc hb))
              go_wp2_with fail
              have m1 := gw_cell x1
              have m2 := gw_cell x2
              refine wp_region_grown (by kernel_rfl) (by kernel_rfl) ?_
              repeat (go_big_quiet_step (first | (go_at_call 12; with_reducible exact P1.out _) | (go_at_call 13; with_reducible exact P2.out _)))
              refine wpQuiet_nil ?_
              rintro _ ⟨qw, rfl⟩
              have SZ := Lib.hid (ST2.out.later qw.h)
              clear m1 m2 x1 x2
              go_wp2_with fail
              go_meet
              case rel => exact ⟨count, v, vr, L, SZ.out, by have := HL.out; omega, by have := HL.out; omega, by have := HL.out; omega⟩
          · by_cases hb : 0 ≤ xc ∧ xc < 8
            · by_cases ht : ∀ j, j < L.length → (gt L j).id ≠ xi
              · by_cases hf : (L.length : Int) < room
                · have A1 : Hid (∀ u, QM w u p a room count v L → Calls Try.prog 12 #[.pointer (some ⟨p, 0, none⟩), .int .i64 xi, .int .i64 xc] u fun e w' => e = .returned (.int .i64 0) ∧ ∃ v', QM w w' p a room count v' (L ++ [⟨xi, xc, count⟩]) ∧ Frm (qf p v) u w' ∧ Near u v v') := (fun u h => m_put h xi xc hb.1 hb.2 ht hf (by have := HL.out; omega) : ∀ u, QM w u p a room count v L → Calls Try.prog 12 #[.pointer (some ⟨p, 0, none⟩), .int .i64 xi, .int .i64 xc] u fun e w' => e = .returned (.int .i64 0) ∧ ∃ v', QM w w' p a room count v' (L ++ [⟨xi, xc, count⟩]) ∧ Frm (qf p v) u w' ∧ Near u v v')
                  have A2 : Hid (∀ u, RQ u r a room count vr L → Calls Try.prog 13 #[.pointer (some ⟨r, 0, none⟩), .int .i64 xi, .int .i64 xc] u fun e w' => e = .returned (.int .i64 0) ∧ ∃ v', RQ w' r a room count v' (L ++ [⟨xi, xc, count⟩]) ∧ Frm (fun k => k = r) u w' ∧ (∀ k, v'.ownBlock = some k → u.heap.size ≤ k)) := (fun u h => rput_yes h xi xc hb.1 hb.2 ht hf (by have := HL.out; omega) : ∀ u, RQ u r a room count vr L → Calls Try.prog 13 #[.pointer (some ⟨r, 0, none⟩), .int .i64 xi, .int .i64 xc] u fun e w' => e = .returned (.int .i64 0) ∧ ∃ v', RQ w' r a room count v' (L ++ [⟨xi, xc, count⟩]) ∧ Frm (fun k => k = r) u w' ∧ (∀ k, v'.ownBlock = some k → u.heap.size ≤ k))
                  have SS : Hid (∀ u, Grw w2 u → (u.cell? ⟨X, 1, none⟩ = some (.int .i64 xi) ∧ u.cell? ⟨X, 2, none⟩ = some (.int .i64 xc))) := (fun u g => ⟨g.cell x1, g.cell x2⟩ : ∀ u, Grw w2 u → (u.cell? ⟨X, 1, none⟩ = some (.int .i64 xi) ∧ u.cell? ⟨X, 2, none⟩ = some (.int .i64 xc)))
                  have GD : Grw w2 w2.drew := (Grw.rfl' w2).drew
                  have SD := Lib.hid (ST2.out.later GD)
                  go_wp2_with fail
                  go_region_held3 (fun u => u.cell? ⟨X, 1, none⟩ = some (.int .i64 xi) ∧ u.cell? ⟨X, 2, none⟩ = some (.int .i64 xc))
                    ((first | with_reducible assumption | exact ⟨cX1, cX2⟩ | (refine SS.out _ ?_; exact GD)))
                    (first
                      | (go_at_call 12; first
                          | (refine (A1.out _ tq).mono ?_; rintro _ y ⟨rfl, v2, q2, f2, n2⟩; have sf := SD.out.both' rz fz hv q2 f2 n2; have cX1 := sf.bx.c1; have cX2 := sf.bx.c2; have SG := Lib.hid sf; clear sf tq rz fz hv q2 f2 n2)
                          | (refine (A1.out _ SD.out.qm).mono ?_; rintro _ y ⟨rfl, v2, q2, f2, n2⟩; have hh := SD.out.half f2; have ry := hh.1; have cX1 := hh.2.c1; have cX2 := hh.2.c2; clear hh))
                      | (go_at_call 13; first
                          | (refine (A2.out _ ry).mono ?_; rintro _ z ⟨rfl, v3, rz, fz, hv⟩; have sf := SD.out.both q2 f2 n2 rz fz hv; have cX1 := sf.bx.c1; have cX2 := sf.bx.c2; have SG := Lib.hid sf; clear sf ry rz fz hv q2 f2 n2)
                          | (refine (A2.out _ SD.out.rq).mono ?_; rintro _ z ⟨rfl, v3, rz, fz, hv⟩; have hh := SD.out.half' fz; have tq := hh.1; have cX1 := hh.2.c1; have cX2 := hh.2.c2; clear hh)))
                  all_goals
                    clear x1 x2
                    go_wp2_with fail
                    go_meet
                    case rel => exact ⟨count, _, _, _, SG.out, by have := HL.out; omega, by have := HL.out; omega, by rw [List.length_append]; have := HL.out; simp; omega⟩
                · have hf : room ≤ (L.length : Int) := by omega
                  have P1 := Lib.hid (fun (g : GW w2) => calls_grown (p := g) (put_full (ST2.out.later g.h).qm.q xi xc hb.1 hb.2 ht hf))
                  have P2 := Lib.hid (fun (g : GW w2) => calls_grown (p := g) (rput_full (ST2.out.later g.h).rq xi xc hb.1 hb.2 ht hf))
                  go_wp2_with fail
                  have m1 := gw_cell x1
                  have m2 := gw_cell x2
                  refine wp_region_grown (by kernel_rfl) (by kernel_rfl) ?_
                  repeat (go_big_quiet_step (first | (go_at_call 12; with_reducible exact P1.out _) | (go_at_call 13; with_reducible exact P2.out _)))
                  refine wpQuiet_nil ?_
                  rintro _ ⟨qw, rfl⟩
                  have SZ := Lib.hid (ST2.out.later qw.h)
                  clear m1 m2 x1 x2
                  go_wp2_with fail
                  go_meet
                  case rel => exact ⟨count, v, vr, L, SZ.out, by have := HL.out; omega, by have := HL.out; omega, by have := HL.out; omega⟩
              · have ht : ∃ j, j < L.length ∧ (gt L j).id = xi := by
                  apply Classical.byContradiction
                  intro c
                  exact ht (fun j hj e => c ⟨j, hj, e⟩)
                have P1 := Lib.hid (fun (g : GW w2) => calls_grown (p := g) (put_twice (ST2.out.later g.h).qm.q xi xc hb.1 hb.2 ht))
                have P2 := Lib.hid (fun (g : GW w2) => calls_grown (p := g) (rput_twice (ST2.out.later g.h).rq xi xc hb.1 hb.2 ht))
                go_wp2_with fail
                have m1 := gw_cell x1
                have m2 := gw_cell x2
                refine wp_region_grown (by kernel_rfl) (by kernel_rfl) ?_
                repeat (go_big_quiet_step (first | (go_at_call 12; with_reducible exact P1.out _) | (go_at_call 13; with_reducible exact P2.out _)))
                refine wpQuiet_nil ?_
                rintro _ ⟨qw, rfl⟩
                have SZ := Lib.hid (ST2.out.later qw.h)
                clear m1 m2 x1 x2
                go_wp2_with fail
                go_meet
                case rel => exact ⟨count, v, vr, L, SZ.out, by have := HL.out; omega, by have := HL.out; omega, by have := HL.out; omega⟩
            · have P1 := Lib.hid (fun (g : GW w2) => calls_grown_same (p := g) (put_bad p xi xc g.x hb))
              have P2 := Lib.hid (fun (g : GW w2) => calls_grown_same (p := g) (rput_bad (r := r) xi xc hb))
              go_wp2_with fail
              have m1 := gw_cell x1
              have m2 := gw_cell x2
              refine wp_region_grown (by kernel_rfl) (by kernel_rfl) ?_
              repeat (go_big_quiet_step (first | (go_at_call 12; with_reducible exact P1.out _) | (go_at_call 13; with_reducible exact P2.out _)))
              refine wpQuiet_nil ?_
              rintro _ ⟨qw, rfl⟩
              have SZ := Lib.hid (ST2.out.later qw.h)
              clear m1 m2 x1 x2
              go_wp2_with fail
              go_meet
              case rel => exact ⟨count, v, vr, L, SZ.out, by have := HL.out; omega, by have := HL.out; omega, by have := HL.out; omega⟩
          · by_cases hb : 0 ≤ xc ∧ xc < 8
            · by_cases ht : ∀ j, j < L.length → (gt L j).id ≠ xi
              · by_cases hf : (L.length : Int) < room
                · have A1 : Hid (∀ u, QM w u p a room count v L → Calls Try.prog 12 #[.pointer (some ⟨p, 0, none⟩), .int .i64 xi, .int .i64 xc] u fun e w' => e = .returned (.int .i64 0) ∧ ∃ v', QM w w' p a room count v' (L ++ [⟨xi, xc, count⟩]) ∧ Frm (qf p v) u w' ∧ Near u v v') := (fun u h => m_put h xi xc hb.1 hb.2 ht hf (by have := HL.out; omega) : ∀ u, QM w u p a room count v L → Calls Try.prog 12 #[.pointer (some ⟨p, 0, none⟩), .int .i64 xi, .int .i64 xc] u fun e w' => e = .returned (.int .i64 0) ∧ ∃ v', QM w w' p a room count v' (L ++ [⟨xi, xc, count⟩]) ∧ Frm (qf p v) u w' ∧ Near u v v')
                  have A2 : Hid (∀ u, RQ u r a room count vr L → Calls Try.prog 13 #[.pointer (some ⟨r, 0, none⟩), .int .i64 xi, .int .i64 xc] u fun e w' => e = .returned (.int .i64 0) ∧ ∃ v', RQ w' r a room count v' (L ++ [⟨xi, xc, count⟩]) ∧ Frm (fun k => k = r) u w' ∧ (∀ k, v'.ownBlock = some k → u.heap.size ≤ k)) := (fun u h => rput_yes h xi xc hb.1 hb.2 ht hf (by have := HL.out; omega) : ∀ u, RQ u r a room count vr L → Calls Try.prog 13 #[.pointer (some ⟨r, 0, none⟩), .int .i64 xi, .int .i64 xc] u fun e w' => e = .returned (.int .i64 0) ∧ ∃ v', RQ w' r a room count v' (L ++ [⟨xi, xc, count⟩]) ∧ Frm (fun k => k = r) u w' ∧ (∀ k, v'.ownBlock = some k → u.heap.size ≤ k))
                  have SS : Hid (∀ u, Grw w2 u → (u.cell? ⟨X, 1, none⟩ = some (.int .i64 xi) ∧ u.cell? ⟨X, 2, none⟩ = some (.int .i64 xc))) := (fun u g => ⟨g.cell x1, g.cell x2⟩ : ∀ u, Grw w2 u → (u.cell? ⟨X, 1, none⟩ = some (.int .i64 xi) ∧ u.cell? ⟨X, 2, none⟩ = some (.int .i64 xc)))
                  have GD : Grw w2 w2.drew := (Grw.rfl' w2).drew
                  have SD := Lib.hid (ST2.out.later GD)
                  go_wp2_with fail
                  go_region_held3 (fun u => u.cell? ⟨X, 1, none⟩ = some (.int .i64 xi) ∧ u.cell? ⟨X, 2, none⟩ = some (.int .i64 xc))
                    ((first | with_reducible assumption | exact ⟨cX1, cX2⟩ | (refine SS.out _ ?_; exact GD)))
                    (first
                      | (go_at_call 12; first
                          | (refine (A1.out _ tq).mono ?_; rintro _ y ⟨rfl, v2, q2, f2, n2⟩; have sf := SD.out.both' rz fz hv q2 f2 n2; have cX1 := sf.bx.c1; have cX2 := sf.bx.c2; have SG := Lib.hid sf; clear sf tq rz fz hv q2 f2 n2)
                          | (refine (A1.out _ SD.out.qm).mono ?_; rintro _ y ⟨rfl, v2, q2, f2, n2⟩; have hh := SD.out.half f2; have ry := hh.1; have cX1 := hh.2.c1; have cX2 := hh.2.c2; clear hh))
                      | (go_at_call 13; first
                          | (refine (A2.out _ ry).mono ?_; rintro _ z ⟨rfl, v3, rz, fz, hv⟩; have sf := SD.out.both q2 f2 n2 rz fz hv; have cX1 := sf.bx.c1; have cX2 := sf.bx.c2; have SG := Lib.hid sf; clear sf ry rz fz hv q2 f2 n2)
                          | (refine (A2.out _ SD.out.rq).mono ?_; rintro _ z ⟨rfl, v3, rz, fz, hv⟩; have hh := SD.out.half' fz; have tq := hh.1; have cX1 := hh.2.c1; have cX2 := hh.2.c2; clear hh)))
                  all_goals
                    clear x1 x2
                    go_wp2_with fail
                    go_meet
                    case rel => exact ⟨count, _, _, _, SG.out, by have := HL.out; omega, by have := HL.out; omega, by rw [List.length_append]; have := HL.out; simp; omega⟩
                · have hf : room ≤ (L.length : Int) := by omega
                  have P1 := Lib.hid (fun (g : GW w2) => calls_grown (p := g) (put_full (ST2.out.later g.h).qm.q xi xc hb.1 hb.2 ht hf))
                  have P2 := Lib.hid (fun (g : GW w2) => calls_grown (p := g) (rput_full (ST2.out.later g.h).rq xi xc hb.1 hb.2 ht hf))
                  go_wp2_with fail
                  have m1 := gw_cell x1
                  have m2 := gw_cell x2
                  refine wp_region_grown (by kernel_rfl) (by kernel_rfl) ?_
                  repeat (go_big_quiet_step (first | (go_at_call 12; with_reducible exact P1.out _) | (go_at_call 13; with_reducible exact P2.out _)))
                  refine wpQuiet_nil ?_
                  rintro _ ⟨qw, rfl⟩
                  have SZ := Lib.hid (ST2.out.later qw.h)
                  clear m1 m2 x1 x2
                  go_wp2_with fail
                  go_meet
                  case rel => exact ⟨count, v, vr, L, SZ.out, by have := HL.out; omega, by have := HL.out; omega, by have := HL.out; omega⟩
              · have ht : ∃ j, j < L.length ∧ (gt L j).id = xi := by
                  apply Classical.byContradiction
                  intro c
                  exact ht (fun j hj e => c ⟨j, hj, e⟩)
                have P1 := Lib.hid (fun (g : GW w2) => calls_grown (p := g) (put_twice (ST2.out.later g.h).qm.q xi xc hb.1 hb.2 ht))
                have P2 := Lib.hid (fun (g : GW w2) => calls_grown (p := g) (rput_twice (ST2.out.later g.h).rq xi xc hb.1 hb.2 ht))
                go_wp2_with fail
                have m1 := gw_cell x1
                have m2 := gw_cell x2
                refine wp_region_grown (by kernel_rfl) (by kernel_rfl) ?_
                repeat (go_big_quiet_step (first | (go_at_call 12; with_reducible exact P1.out _) | (go_at_call 13; with_reducible exact P2.out _)))
                refine wpQuiet_nil ?_
                rintro _ ⟨qw, rfl⟩
                have SZ := Lib.hid (ST2.out.later qw.h)
                clear m1 m2 x1 x2
                go_wp2_with fail
                go_meet
                case rel => exact ⟨count, v, vr, L, SZ.out, by have := HL.out; omega, by have := HL.out; omega, by have := HL.out; omega⟩
            · have P1 := Lib.hid (fun (g : GW w2) => calls_grown_same (p := g) (put_bad p xi xc g.x hb))
              have P2 := Lib.hid (fun (g : GW w2) => calls_grown_same (p := g) (rput_bad (r := r) xi xc hb))
              go_wp2_with fail
              have m1 := gw_cell x1
              have m2 := gw_cell x2
              refine wp_region_grown (by kernel_rfl) (by kernel_rfl) ?_
              repeat (go_big_quiet_step (first | (go_at_call 12; with_reducible exact P1.out _) | (go_at_call 13; with_reducible exact P2.out _)))
              refine wpQuiet_nil ?_
              rintro _ ⟨qw, rfl⟩
              have SZ := Lib.hid (ST2.out.later qw.h)
              clear m1 m2 x1 x2
              go_wp2_with fail
              go_meet
              case rel => exact ⟨count, v, vr, L, SZ.out, by have := HL.out; omega, by have := HL.out; omega, by have := HL.out; omega⟩
          · by_cases hL0 : 0 < L.length
            · obtain ⟨k, hf⟩ := fst_ex a L hL0 ST2.out.qm.q.ids
              have MT := Lib.hid (m_take ST2.out.qm hf (by have := HL.out; omega) (by have := HL.out; omega))
              have hkl := hf.lt
              obtain ⟨x, hx⟩ : ∃ x, gt L k = x := ⟨_, rfl⟩
              have HX := Lib.hid hx
              rw [hx] at MT
              clear hx
              obtain ⟨yi, yc, ym⟩ := x
              unfold wv at MT
              go_wp2_with fail
              refine MT.out.mono ?_
              rintro _ y ⟨rfl, v2, q2, f2, n2⟩
              obtain ⟨ry, by'⟩ := ST2.out.half f2
              have ry2 := ry.later ((Grw.rfl' y).alloc (.cells #[.int .i64 yi, .int .i64 yc, .int .i64 ym] 37))
              have RT := Lib.hid (rtake_some ry2 hf ST2.out.qm.q.ids (by have := HL.out; omega) (by have := HL.out; omega))
              rw [HX.out] at RT
              unfold wv at RT
              have TY := Lib.hid (And.intro (q2.later ((Grw.rfl' y).alloc (.cells #[.int .i64 yi, .int .i64 yc, .int .i64 ym] 37))) (And.intro (f2.grw' ((Grw.rfl' y).alloc (.cells #[.int .i64 yi, .int .i64 yc, .int .i64 ym] 37))) n2))
              obtain ⟨Y, hY⟩ : ∃ Y, y.heap.size = Y := ⟨_, rfl⟩
              have FY := Lib.hid (F3.one y Y hY (.int .i64 yi) (.int .i64 yc) (.int .i64 ym) 37)
              have YR := Lib.hid (show Y ≠ r by have := ry.rlt; omega)
              clear q2 f2 n2 ry ry2 by' x1 x2
              go_wp2_with fail
              refine RT.out.mono ?_
              rintro _ z ⟨rfl, v3, rz, fz, hv⟩
              have SZ := Lib.hid (ST2.out.both TY.out.1 TY.out.2.1 TY.out.2.2 rz fz hv)
              have FZ := FY.out.frm fz YR.out
              have FZ2 := Lib.hid (fun o => FZ.lat ((Grw.rfl' z).alloc o))
              have c0 : ∀ o, (z.alloc o).cell? ⟨Y, 0, none⟩ = some (.int .i64 yi) := fun o => (FZ2.out o).c0
              have c1 : ∀ o, (z.alloc o).cell? ⟨Y, 1, none⟩ = some (.int .i64 yc) := fun o => (FZ2.out o).c1
              have c2 : ∀ o, (z.alloc o).cell? ⟨Y, 2, none⟩ = some (.int .i64 ym) := fun o => (FZ2.out o).c2
              clear rz fz hv hY FZ
              go_wp2_with fail
              go_meet
              case rel => exact ⟨count + 1, _, _, _, SZ.out.later ((Grw.rfl' z).alloc _), by have := HL.out; omega, by have := HL.out; omega, by have := rem_len hkl; have := HL.out; omega⟩
            · have hLn : L = [] := List.eq_nil_of_length_eq_zero (by omega)
              subst hLn
              have MT := Lib.hid (take_none ST2.out.qm.q)
              unfold wv at MT
              go_wp2_with fail
              refine MT.out.mono ?_
              rintro _ y ⟨rfl, gy⟩
              have gy2 := gy.alloc (.cells #[.int .i64 0, .int .i64 0, .int .i64 0] 37)
              have RT := Lib.hid (rtake_none (ST2.out.later gy2).rq)
              unfold wv at RT
              obtain ⟨Y, hY⟩ : ∃ Y, y.heap.size = Y := ⟨_, rfl⟩
              have FY := Lib.hid (F3.one y Y hY (.int .i64 0) (.int .i64 0) (.int .i64 0) 37)
              have GY := Lib.hid gy2
              clear gy gy2 x1 x2
              go_wp2_with fail
              refine RT.out.mono ?_
              rintro _ z ⟨rfl, gz⟩
              have SZ := Lib.hid (ST2.out.later (GY.out.trans gz))
              have FZ := FY.out.lat gz
              have FZ2 := Lib.hid (fun o => FZ.lat ((Grw.rfl' z).alloc o))
              have c0 : ∀ o, (z.alloc o).cell? ⟨Y, 0, none⟩ = some (.int .i64 0) := fun o => (FZ2.out o).c0
              have c1 : ∀ o, (z.alloc o).cell? ⟨Y, 1, none⟩ = some (.int .i64 0) := fun o => (FZ2.out o).c1
              have c2 : ∀ o, (z.alloc o).cell? ⟨Y, 2, none⟩ = some (.int .i64 0) := fun o => (FZ2.out o).c2
              clear gz hY FZ
              go_wp2_with fail
              go_meet
              case rel => exact ⟨count, _, _, _, SZ.out.later ((Grw.rfl' z).alloc _), by have := HL.out; omega, by have := HL.out; omega, by have := HL.out; omega⟩
          · by_cases hL0 : 0 < L.length
            · obtain ⟨k, hf⟩ := fst_ex a L hL0 ST2.out.qm.q.ids
              have MT := Lib.hid (m_take ST2.out.qm hf (by have := HL.out; omega) (by have := HL.out; omega))
              have hkl := hf.lt
              obtain ⟨x, hx⟩ : ∃ x, gt L k = x := ⟨_, rfl⟩
              have HX := Lib.hid hx
              rw [hx] at MT
              clear hx
              obtain ⟨yi, yc, ym⟩ := x
              unfold wv at MT
              go_wp2_with fail
              refine MT.out.mono ?_
              rintro _ y ⟨rfl, v2, q2, f2, n2⟩
              obtain ⟨ry, by'⟩ := ST2.out.half f2
              have ry2 := ry.later ((Grw.rfl' y).alloc (.cells #[.int .i64 yi, .int .i64 yc, .int .i64 ym] 37))
              have RT := Lib.hid (rtake_some ry2 hf ST2.out.qm.q.ids (by have := HL.out; omega) (by have := HL.out; omega))
              rw [HX.out] at RT
              unfold wv at RT
              have TY := Lib.hid (And.intro (q2.later ((Grw.rfl' y).alloc (.cells #[.int .i64 yi, .int .i64 yc, .int .i64 ym] 37))) (And.intro (f2.grw' ((Grw.rfl' y).alloc (.cells #[.int .i64 yi, .int .i64 yc, .int .i64 ym] 37))) n2))
              obtain ⟨Y, hY⟩ : ∃ Y, y.heap.size = Y := ⟨_, rfl⟩
              have FY := Lib.hid (F3.one y Y hY (.int .i64 yi) (.int .i64 yc) (.int .i64 ym) 37)
              have YR := Lib.hid (show Y ≠ r by have := ry.rlt; omega)
              clear q2 f2 n2 ry ry2 by' x1 x2
              go_wp2_with fail
              refine RT.out.mono ?_
              rintro _ z ⟨rfl, v3, rz, fz, hv⟩
              have SZ := Lib.hid (ST2.out.both TY.out.1 TY.out.2.1 TY.out.2.2 rz fz hv)
              have FZ := FY.out.frm fz YR.out
              have FZ2 := Lib.hid (fun o => FZ.lat ((Grw.rfl' z).alloc o))
              have c0 : ∀ o, (z.alloc o).cell? ⟨Y, 0, none⟩ = some (.int .i64 yi) := fun o => (FZ2.out o).c0
              have c1 : ∀ o, (z.alloc o).cell? ⟨Y, 1, none⟩ = some (.int .i64 yc) := fun o => (FZ2.out o).c1
              have c2 : ∀ o, (z.alloc o).cell? ⟨Y, 2, none⟩ = some (.int .i64 ym) := fun o => (FZ2.out o).c2
              clear rz fz hv hY FZ
              go_wp2_with fail
              go_meet
              case rel => exact ⟨count + 1, _, _, _, SZ.out.later ((Grw.rfl' z).alloc _), by have := HL.out; omega, by have := HL.out; omega, by have := rem_len hkl; have := HL.out; omega⟩
            · have hLn : L = [] := List.eq_nil_of_length_eq_zero (by omega)
              subst hLn
              have MT := Lib.hid (take_none ST2.out.qm.q)
              unfold wv at MT
              go_wp2_with fail
              refine MT.out.mono ?_
              rintro _ y ⟨rfl, gy⟩
              have gy2 := gy.alloc (.cells #[.int .i64 0, .int .i64 0, .int .i64 0] 37)
              have RT := Lib.hid (rtake_none (ST2.out.later gy2).rq)
              unfold wv at RT
              obtain ⟨Y, hY⟩ : ∃ Y, y.heap.size = Y := ⟨_, rfl⟩
              have FY := Lib.hid (F3.one y Y hY (.int .i64 0) (.int .i64 0) (.int .i64 0) 37)
              have GY := Lib.hid gy2
              clear gy gy2 x1 x2
              go_wp2_with fail
              refine RT.out.mono ?_
              rintro _ z ⟨rfl, gz⟩
              have SZ := Lib.hid (ST2.out.later (GY.out.trans gz))
              have FZ := FY.out.lat gz
              have FZ2 := Lib.hid (fun o => FZ.lat ((Grw.rfl' z).alloc o))
              have c0 : ∀ o, (z.alloc o).cell? ⟨Y, 0, none⟩ = some (.int .i64 0) := fun o => (FZ2.out o).c0
              have c1 : ∀ o, (z.alloc o).cell? ⟨Y, 1, none⟩ = some (.int .i64 0) := fun o => (FZ2.out o).c1
              have c2 : ∀ o, (z.alloc o).cell? ⟨Y, 2, none⟩ = some (.int .i64 0) := fun o => (FZ2.out o).c2
              clear gz hY FZ
              go_wp2_with fail
              go_meet
              case rel => exact ⟨count, _, _, _, SZ.out.later ((Grw.rfl' z).alloc _), by have := HL.out; omega, by have := HL.out; omega, by have := HL.out; omega⟩
          · by_cases ht : ∀ j, j < L.length → (gt L j).id ≠ xi
            · have P1 := Lib.hid (fun (g : GW w2) => calls_grown (p := g) (drop_no (ST2.out.later g.h).qm.q xi ht))
              have P2 := Lib.hid (fun (g : GW w2) => calls_grown (p := g) (rdrop_no (ST2.out.later g.h).rq xi ht))
              go_wp2_with fail
              have m1 := gw_cell x1
              have m2 := gw_cell x2
              refine wp_region_grown (by kernel_rfl) (by kernel_rfl) ?_
              repeat (go_big_quiet_step (first | (go_at_call 16; with_reducible exact P1.out _) | (go_at_call 17; with_reducible exact P2.out _)))
              refine wpQuiet_nil ?_
              rintro _ ⟨qw, rfl⟩
              have SZ := Lib.hid (ST2.out.later qw.h)
              clear m1 m2 x1 x2
              go_wp2_with fail
              go_meet
              case rel => exact ⟨count, v, vr, L, SZ.out, by have := HL.out; omega, by have := HL.out; omega, by have := HL.out; omega⟩
            · have ht : ∃ j, j < L.length ∧ (gt L j).id = xi := by
                apply Classical.byContradiction
                intro c
                exact ht (fun j hj e => c ⟨j, hj, e⟩)
              obtain ⟨k, hj, he⟩ := ht
              have A1 : Hid (∀ u, QM w u p a room count v L → Calls Try.prog 16 #[.pointer (some ⟨p, 0, none⟩), .int .i64 xi] u fun e w' => e = .returned (.bool true) ∧ ∃ v', QM w w' p a room count v' (rem L k) ∧ Frm (qf p v) u w' ∧ Near u v v') := (fun u h => m_drop h xi hj he : ∀ u, QM w u p a room count v L → Calls Try.prog 16 #[.pointer (some ⟨p, 0, none⟩), .int .i64 xi] u fun e w' => e = .returned (.bool true) ∧ ∃ v', QM w w' p a room count v' (rem L k) ∧ Frm (qf p v) u w' ∧ Near u v v')
              have A2 : Hid (∀ u, RQ u r a room count vr L → Calls Try.prog 17 #[.pointer (some ⟨r, 0, none⟩), .int .i64 xi] u fun e w' => e = .returned (.bool true) ∧ ∃ v', RQ w' r a room count v' (rem L k) ∧ Frm (fun k => k = r) u w' ∧ (∀ k, v'.ownBlock = some k → u.heap.size ≤ k)) := (fun u h => rdrop_yes h xi k hj he (fun j hj' e => ids_inj ST2.out.qm.q.ids hj' hj (by rw [e, he])) : ∀ u, RQ u r a room count vr L → Calls Try.prog 17 #[.pointer (some ⟨r, 0, none⟩), .int .i64 xi] u fun e w' => e = .returned (.bool true) ∧ ∃ v', RQ w' r a room count v' (rem L k) ∧ Frm (fun k => k = r) u w' ∧ (∀ k, v'.ownBlock = some k → u.heap.size ≤ k))
              have SS : Hid (∀ u, Grw w2 u → (u.cell? ⟨X, 1, none⟩ = some (.int .i64 xi) ∧ u.cell? ⟨X, 2, none⟩ = some (.int .i64 xc))) := (fun u g => ⟨g.cell x1, g.cell x2⟩ : ∀ u, Grw w2 u → (u.cell? ⟨X, 1, none⟩ = some (.int .i64 xi) ∧ u.cell? ⟨X, 2, none⟩ = some (.int .i64 xc)))
              have GD : Grw w2 w2.drew := (Grw.rfl' w2).drew
              have SD := Lib.hid (ST2.out.later GD)
              go_wp2_with fail
              go_region_held3 (fun u => u.cell? ⟨X, 1, none⟩ = some (.int .i64 xi) ∧ u.cell? ⟨X, 2, none⟩ = some (.int .i64 xc))
                ((first | with_reducible assumption | exact ⟨cX1, cX2⟩ | (refine SS.out _ ?_; exact GD)))
                (first
                  | (go_at_call 16; first
                      | (refine (A1.out _ tq).mono ?_; rintro _ y ⟨rfl, v2, q2, f2, n2⟩; have sf := SD.out.both' rz fz hv q2 f2 n2; have cX1 := sf.bx.c1; have cX2 := sf.bx.c2; have SG := Lib.hid sf; clear sf tq rz fz hv q2 f2 n2)
                      | (refine (A1.out _ SD.out.qm).mono ?_; rintro _ y ⟨rfl, v2, q2, f2, n2⟩; have hh := SD.out.half f2; have ry := hh.1; have cX1 := hh.2.c1; have cX2 := hh.2.c2; clear hh))
                  | (go_at_call 17; first
                      | (refine (A2.out _ ry).mono ?_; rintro _ z ⟨rfl, v3, rz, fz, hv⟩; have sf := SD.out.both q2 f2 n2 rz fz hv; have cX1 := sf.bx.c1; have cX2 := sf.bx.c2; have SG := Lib.hid sf; clear sf ry rz fz hv q2 f2 n2)
                      | (refine (A2.out _ SD.out.rq).mono ?_; rintro _ z ⟨rfl, v3, rz, fz, hv⟩; have hh := SD.out.half' fz; have tq := hh.1; have cX1 := hh.2.c1; have cX2 := hh.2.c2; clear hh)))
              all_goals
                clear x1 x2
                go_wp2_with fail
                go_meet
                case rel => exact ⟨count, _, _, _, SG.out, by have := HL.out; omega, by have := HL.out; omega, by have := rem_len hj; have := HL.out; omega⟩
        case rest =>
          clear x0 MO ST2
          obtain ⟨count', v', vr', L', st, hc0, hc1, hl'⟩ := hcut
          have SC := Lib.hid st
          have HL' := Lib.hid (And.intro hc0 (And.intro hc1 hl'))
          obtain ⟨aor, capr, hvr, _⟩ := ownsRow_lies st.rq.row
          subst hvr
          obtain ⟨ln, hln⟩ : ∃ ln, L'.length = ln := ⟨_, rfl⟩
          have HLN := Lib.hid hln
          have LE := Lib.hid (fun (g : GW wc) => calls_grown_same (p := g) (len_is (SC.out.later g.h).qm.q hln))
          have CO := Lib.hid (fun (g : GW wc) => calls_grown_same (p := g) (count_is (SC.out.later g.h).qm.q))
          have c2 := st.rq.c2
          have c3 := st.rq.c3
          rw [hln] at c3
          clear st hc0 hc1 hl' hln
          go_wp2_with fail
          have m2 := gw_cell c2
          have m3 := gw_cell c3
          refine wp_region_grown (by kernel_rfl) (by kernel_rfl) ?_
          repeat (go_big_quiet_step (first | (go_at_call 18; with_reducible exact LE.out _) | (go_at_call 19; with_reducible exact CO.out _)))
          refine wpQuiet_nil ?_
          rintro _ ⟨qw, rfl⟩
          obtain ⟨wd, hwd⟩ : ∃ wd, qw.x = wd := ⟨_, rfl⟩
          have SD := Lib.hid (SC.out.later qw.h)
          rw [hwd] at SD ⊢
          clear m2 m3 c2 c3 hwd
          have nod := SD.out.qm.q.ids
          have NOD := Lib.hid nod
          obtain ⟨t5, ht5⟩ : ∃ t, (((i : Int).tmod 6) == 5) = t := ⟨_, rfl⟩
          have hti : (i : Int).tmod 6 = (i : Int) % 6 := Int.tmod_eq_emod_of_nonneg (by omega)
          have ht6 : (((i : Int) % 6) == 5) = t5 := by rw [← hti]; exact ht5
          have ht7 : ((((i % 6 : Nat) : Int)) == 5) = t5 := by rw [← ht6]; rfl
          clear hti
          have LST := Lib.hid (list_is SD.out.qm.q)
          cases t5 with
          | false =>
            clear nod
            go_wp2_with fail
            go_roundw
            case rel => exact ⟨i + 1, count', _, _, L', by omega, by omega, HL'.out.1, by have := HL'.out.2.1; omega, HL'.out.2.2, by first | rfl | go_num, SD.out.qm, SD.out.rq, SD.out.pq⟩
            case measure => simp only [intOf]; omega
          | true =>
            clear nod
            go_wp2_with fail
            refine LST.out.mono ?_
            rintro _ we ⟨u1, s1, rfl, lq⟩
            obtain ⟨ao1, cap1, rfl, l1⟩ := ownsRow_lies lq.row
            have SE := Lib.hid (SD.out.later lq.gw)
            have LQ1 := Lib.hid lq
            have RL := Lib.hid (rlist_is SE.out.rq NOD.out)
            have L1 := Lib.hid l1
            clear lq l1
            go_wp2_with fail
            refine RL.out.mono ?_
            rintro _ wf ⟨u2, s2, rfl, ld⟩
            obtain ⟨⟨ao2, cap2, rfl, l2⟩, p2, pw2, g2⟩ := ld
            have es : s1 = s2 := one_order (LQ1.out.perm.trans p2.symm) (((LQ1.out.perm.map Wt.id).nodup_iff).2 NOD.out) LQ1.out.srt.pw pw2
            subst es
            have WS := Lib.hid (waits_same ao1 ao2 cap1 cap2 s1 wf (by have h1 := p2.length_eq; have h2 := HL'.out.2.2; have h3 := HL.out; omega) (L1.out.later g2) l2)
            have SF := Lib.hid (SE.out.later g2)
            clear l2 p2 pw2 g2
            go_wp2_with fail
            refine WS.out.mono ?_
            rintro _ wg ⟨rfl, gg⟩
            have SG := Lib.hid (SF.out.later gg)
            clear gg
            go_wp2_with fail
            go_roundw
            case rel => exact ⟨i + 1, count', _, _, L', by omega, by omega, HL'.out.1, by have := HL'.out.2.1; omega, HL'.out.2.2, by first | rfl | go_num, SG.out.qm, SG.out.rq, SG.out.pq⟩
            case measure => simp only [intOf]; omega
      · have d2 : decide ((i : Int) < 60) = false := by simp; omega
        have nod := T.out.q.ids
        have NOD := Lib.hid nod
        have LST := Lib.hid (list_is T.out.q)
        have HL := Lib.hid (And.intro hi60 hLi)
        clear nod hin hi60 hc0 hci hLi
        go_wp2_with fail
        refine LST.out.mono ?_
        rintro _ we ⟨u1, s1, rfl, lq⟩
        obtain ⟨ao1, cap1, rfl, l1⟩ := ownsRow_lies lq.row
        have SE := Lib.hid (And.intro (T.out.g.trans lq.gw) (R.out.later lq.gw))
        have LQ1 := Lib.hid lq
        have RL := Lib.hid (rlist_is SE.out.2 NOD.out)
        have L1 := Lib.hid l1
        clear lq l1
        go_wp2_with fail
        refine RL.out.mono ?_
        rintro _ wf ⟨u2, s2, rfl, ld⟩
        obtain ⟨⟨ao2, cap2, rfl, l2⟩, p2, pw2, g2⟩ := ld
        have es : s1 = s2 := one_order (LQ1.out.perm.trans p2.symm) (((LQ1.out.perm.map Wt.id).nodup_iff).2 NOD.out) LQ1.out.srt.pw pw2
        subst es
        have WS := Lib.hid (waits_same ao1 ao2 cap1 cap2 s1 wf (by have h1 := p2.length_eq; have h3 := HL.out; omega) (L1.out.later g2) l2)
        have SF := Lib.hid (SE.out.1.trans g2)
        clear l2 p2 pw2 g2
        go_wp2_with fail
        refine WS.out.mono ?_
        rintro _ wg ⟨rfl, gg⟩
        have SG := Lib.hid (SF.out.trans gg)
        clear gg
        go_wp2_with fail
        refine (WK.out _).mono ?_
        rintro _ wh ⟨rfl, hw⟩
        have SH := Lib.hid (SG.out.trans hw)
        clear hw
        go_wp2_with fail
        go_ret
        exact ⟨rfl, SH.out⟩
    · have d1 : decide ((i : Int) < (n : Int)) = false := by simp; omega
      have nod := T.out.q.ids
      have NOD := Lib.hid nod
      have LST := Lib.hid (list_is T.out.q)
      have HL := Lib.hid (And.intro hi60 hLi)
      clear nod hin hi60 hc0 hci hLi
      go_wp2_with fail
      refine LST.out.mono ?_
      rintro _ we ⟨u1, s1, rfl, lq⟩
      obtain ⟨ao1, cap1, rfl, l1⟩ := ownsRow_lies lq.row
      have SE := Lib.hid (And.intro (T.out.g.trans lq.gw) (R.out.later lq.gw))
      have LQ1 := Lib.hid lq
      have RL := Lib.hid (rlist_is SE.out.2 NOD.out)
      have L1 := Lib.hid l1
      clear lq l1
      go_wp2_with fail
      refine RL.out.mono ?_
      rintro _ wf ⟨u2, s2, rfl, ld⟩
      obtain ⟨⟨ao2, cap2, rfl, l2⟩, p2, pw2, g2⟩ := ld
      have es : s1 = s2 := one_order (LQ1.out.perm.trans p2.symm) (((LQ1.out.perm.map Wt.id).nodup_iff).2 NOD.out) LQ1.out.srt.pw pw2
      subst es
      have WS := Lib.hid (waits_same ao1 ao2 cap1 cap2 s1 wf (by have h1 := p2.length_eq; have h3 := HL.out; omega) (L1.out.later g2) l2)
      have SF := Lib.hid (SE.out.1.trans g2)
      clear l2 p2 pw2 g2
      go_wp2_with fail
      refine WS.out.mono ?_
      rintro _ wg ⟨rfl, gg⟩
      have SG := Lib.hid (SF.out.trans gg)
      clear gg
      go_wp2_with fail
      refine (WK.out _).mono ?_
      rintro _ wh ⟨rfl, hw⟩
      have SH := Lib.hid (SG.out.trans hw)
      clear hw
      go_wp2_with fail
      go_ret
      exact ⟨rfl, SH.out⟩
set_option maxHeartbeats 4000000 in
set_option maxRecDepth 100000 in
theorem plays_bad (a room : Int) (ao : Option Addr) (cap n : Nat) (w : World) (h : ¬ (1 ≤ a ∧ a ≤ 1000 ∧ 0 ≤ room ∧ room ≤ 1000)) :
    Calls Try.prog 3 #[.int .i64 a, .int .i64 room, .slice ao n cap] w fun e w' => e = .returned (.bool true) ∧ Grw w w' := by
  have WK := Lib.hid (fun w => wakes_any w)
  have MY := Lib.hid (fun w => rmay_no a room w h)
  have NW := Lib.hid (fun w => new_no a room w h)
  clear h
  go_enter Try.func3, Try.ntmps3
  go_wp2_with fail
  refine (NW.out _).mono ?_
  rintro _ _ ⟨rfl, rfl⟩
  go_wp2_with fail
  refine (MY.out _).mono ?_
  rintro _ _ ⟨rfl, rfl⟩
  go_wp2_with fail
  refine (WK.out _).mono ?_
  rintro _ w1 ⟨rfl, hw⟩
  have G := Lib.hid hw
  clear hw
  go_wp2_with fail
  go_ret
  exact ⟨rfl, G.out⟩
theorem plays_walk (a room : Int) (ao : Option Addr) (cap : Nat) (acts : List Wt) (w : World) (hl : Lies w ao (cw acts)) (hm : acts.length ≤ 9223372036854775807) :
    Calls Try.prog 3 #[.int .i64 a, .int .i64 room, .slice ao acts.length cap] w fun e w' => e = .returned (.bool true) ∧ Grw w w' := by
  by_cases h : 1 ≤ a ∧ a ≤ 1000 ∧ 0 ≤ room ∧ room ≤ 1000
  · exact plays_good a room ao cap acts w hl hm h.1 h.2.1 h.2.2.1 h.2.2.2
  · exact plays_bad a room ao cap acts.length w h
end Go.Proofs.Ytdindhmbofddoaa
