/- The heap's line in memory: the methods of (*queue.line). -/
import Derived.Test.YtlopijcpnfkcgaaQRw
import Derived.Test.YtlopijcpnfkcgaaQHm
import Derived.Test.YtlopijcpnfkcgaaQWa
import Derived.Deep.RegionHeld3
import Derived.Deep.OwnRows
namespace Go.Proofs.Ytlopijcpnfkcgaa
namespace QQ
open Go.RowKit
set_option linter.unusedSimpArgs false

/-- the line at (b, o): aging a, a row of jobs in block g. -/
structure LR (b o : Nat) (a : Int) (g cap : Nat) (W : World) (l : List Wt) : Prop where
  c0 : W.cell? ⟨b, o, none⟩ = some (.int .i64 a)
  c1 : W.cell? ⟨b, o + 1, none⟩ = some (.slice (some ⟨g, 0, none⟩) l.length cap)
  f1 : W.frozen? ⟨b, o + 1, none⟩ = false
  row : W.ownsRow 0 69 3 (.slice (some ⟨g, 0, none⟩) l.length cap) l.length (cw l)
  ne : g ≠ b
theorem LR.at {b o : Nat} {a : Int} {g cap : Nat} {W : World} {l : List Wt} (h : LR b o a g cap W l) {i : Nat} (hi : i < l.length) :
    W.cell? ⟨g, i * 3, none⟩ = some (.int .i64 l[i].id) ∧ W.cell? ⟨g, i * 3 + 1, none⟩ = some (.int .i64 l[i].cl) ∧ W.cell? ⟨g, i * 3 + 2, none⟩ = some (.int .i64 l[i].ca) := by
  have hc := h.row.cells (g := g) rfl
  refine ⟨?_, ?_, ?_⟩
  · have := hc _ _ (cw_id l i hi); rwa [Addr.add_lit, Nat.zero_add] at this
  · have := hc _ _ (cw_cl l i hi); rwa [Addr.add_lit, Nat.zero_add] at this
  · have := hc _ _ (cw_ca l i hi); rwa [Addr.add_lit, Nat.zero_add] at this
theorem LR.keep {b o : Nat} {a : Int} {g cap : Nat} {W W' : World} {l : List Wt} (h : LR b o a g cap W l) {F : Nat → Prop} (k : Frm F W W') (hb : ¬ F b) (hg : ¬ F g) : LR b o a g cap W' l :=
  ⟨k.cell h.c0 hb, k.cell h.c1 hb, by
    have e := k.block b (World.block_lt_of_cell? _ _ h.c1) hb
    have := h.f1
    simp only [World.frozen?, e] at *
    exact this, ownsRow_frm h.row k (fun k' hk => by cases hk; exact hg), h.ne⟩

set_option maxHeartbeats 1000000 in
set_option maxRecDepth 100000 in
theorem line_less (b o : Nat) (a : Int) (g cap : Nat) (l : List Wt) (i j : Nat) (w : World) (h : LR b o a g cap w l) (hi : i < l.length) (hj : j < l.length) :
    Calls Try.prog 88 #[.pointer (some ⟨b, o, none⟩), .int .i64 i, .int .i64 j] w fun e w' => e = .returned (.bool (les a l[i] l[j])) ∧ Grw w w' := by
  obtain ⟨x0, x1, x2⟩ := h.at hi
  obtain ⟨y0, y1, y2⟩ := h.at hj
  have c0 := h.c0
  have c1 := h.c1
  obtain ⟨n, hn⟩ : ∃ n, l.length = n := ⟨_, rfl⟩
  rw [hn] at c1
  obtain ⟨x, hx⟩ : ∃ x, l[i] = x := ⟨_, rfl⟩
  obtain ⟨y, hy⟩ : ∃ y, l[j] = y := ⟨_, rfl⟩
  rw [hx] at x0 x1 x2 ⊢
  rw [hy] at y0 y1 y2 ⊢
  obtain ⟨xi, xc, xm⟩ := x
  obtain ⟨yi, yc, ym⟩ := y
  have C := Lib.hid (fun w => less_is a xi xc xm yi yc ym _ w rfl)
  rw [hn] at hi hj
  simp only at x0 x1 x2 y0 y1 y2
  have d1 : decide (i < n) = true := by simp [hi]
  have d2 : decide (j < n) = true := by simp [hj]
  obtain ⟨r, hr⟩ : ∃ r, les a ⟨xi, xc, xm⟩ ⟨yi, yc, ym⟩ = r := ⟨_, rfl⟩
  rw [hr] at C ⊢
  clear hx hy h hn hr
  have u0 := gw_cell c0
  have u1 := gw_cell c1
  have m0 := gw_cell x0
  have m1 := gw_cell x1
  have m2 := gw_cell x2
  have n0 := gw_cell y0
  have n1 := gw_cell y1
  have n2 := gw_cell y2
  clear c0 c1 x0 x1 x2 y0 y1 y2
  go_enter Try.func88, Try.ntmps88
  go_wp2_with fail
  refine wp_region_grown (by kernel_rfl) (by kernel_rfl) ?_
  repeat (go_big_quiet_step (first | (go_at_call 92; with_reducible exact calls_grown (C.out _))))
  refine wpQuiet_nil ?_
  rintro _ ⟨q, rfl⟩
  go_wp2_with fail
  go_ret
  exact ⟨rfl, q.h⟩
theorem cw_set (l : List Wt) (i : Nat) (x : Wt) : cw (l.set i x) = (((cw l).set (i * 3) (.int .i64 x.id)).set (i * 3 + 1) (.int .i64 x.cl)).set (i * 3 + 2) (.int .i64 x.ca) := by
  induction l generalizing i with
  | nil => simp [cw]
  | cons d l ih =>
    cases i with
    | zero => simp [cw]
    | succ i =>
      rw [show (i + 1) * 3 = i * 3 + 1 + 1 + 1 by omega]
      simp only [cw, List.set_cons_succ, ih]
/-- a job written at place i. -/
theorem own_put {w : World} {g n cap : Nat} {l : List Wt} (h : w.ownsRow 0 69 3 (.slice (some ⟨g, 0, none⟩) n cap) n (cw l)) (i : Nat) (x : Wt) :
    (((w.setCell ⟨g, i * 3, none⟩ (.int .i64 x.id)).setCell ⟨g, i * 3 + 1, none⟩ (.int .i64 x.cl)).setCell ⟨g, i * 3 + 2, none⟩ (.int .i64 x.ca)).ownsRow 0 69 3 (.slice (some ⟨g, 0, none⟩) n cap) n (cw (l.set i x)) := by
  rw [cw_set]
  exact ((((h.stored _ _).1).stored _ _).1.stored _ _).1
theorem LR.put2 {b o : Nat} {a : Int} {g cap : Nat} {w : World} {l : List Wt} (h : LR b o a g cap w l) (i j : Nat) (x y : Wt) {l' : List Wt} (e : l' = (l.set i x).set j y) :
    LR b o a g cap ((((((w.setCell ⟨g, i * 3, none⟩ (.int .i64 x.id)).setCell ⟨g, i * 3 + 1, none⟩ (.int .i64 x.cl)).setCell ⟨g, i * 3 + 2, none⟩ (.int .i64 x.ca)).setCell ⟨g, j * 3, none⟩ (.int .i64 y.id)).setCell ⟨g, j * 3 + 1, none⟩ (.int .i64 y.cl)).setCell ⟨g, j * 3 + 2, none⟩ (.int .i64 y.ca)).drew l' ∧
    Frm (fun k => k = g) w ((((((w.setCell ⟨g, i * 3, none⟩ (.int .i64 x.id)).setCell ⟨g, i * 3 + 1, none⟩ (.int .i64 x.cl)).setCell ⟨g, i * 3 + 2, none⟩ (.int .i64 x.ca)).setCell ⟨g, j * 3, none⟩ (.int .i64 y.id)).setCell ⟨g, j * 3 + 1, none⟩ (.int .i64 y.cl)).setCell ⟨g, j * 3 + 2, none⟩ (.int .i64 y.ca)).drew := by
  have hl : l'.length = l.length := by rw [e]; simp
  have hf : Frm (fun k => k = g) w ((((((w.setCell ⟨g, i * 3, none⟩ (.int .i64 x.id)).setCell ⟨g, i * 3 + 1, none⟩ (.int .i64 x.cl)).setCell ⟨g, i * 3 + 2, none⟩ (.int .i64 x.ca)).setCell ⟨g, j * 3, none⟩ (.int .i64 y.id)).setCell ⟨g, j * 3 + 1, none⟩ (.int .i64 y.cl)).setCell ⟨g, j * 3 + 2, none⟩ (.int .i64 y.ca)).drew :=
    (((((((Frm.rfl' (fun k => k = g) w).set _ _ (Or.inl rfl)).set _ _ (Or.inl rfl)).set _ _ (Or.inl rfl)).set _ _ (Or.inl rfl)).set _ _ (Or.inl rfl)).set _ _ (Or.inl rfl)).drew
  have hb : ¬ b = g := fun e => h.ne e.symm
  refine ⟨⟨hf.cell h.c0 hb, ?_, ?_, ?_, h.ne⟩, hf⟩
  · rw [hl]; exact hf.cell h.c1 hb
  · have e := hf.block b (World.block_lt_of_cell? _ _ h.c1) hb
    have := h.f1
    simp only [World.frozen?, e] at *
    exact this
  · rw [hl, e]
    have q := own_put (own_put h.row i x) j y
    exact ownsRow_frm (F := fun _ => False) q ((Frm.rfl' _ _).drew) (fun _ _ e => e)

set_option maxHeartbeats 1000000 in
set_option maxRecDepth 100000 in
theorem line_swap (b o : Nat) (a : Int) (g cap : Nat) (l : List Wt) (i j : Nat) (w : World) (h : LR b o a g cap w l) (hi : i < l.length) (hj : j < l.length) :
    Calls Try.prog 91 #[.pointer (some ⟨b, o, none⟩), .int .i64 i, .int .i64 j] w fun e w' => e = .returned (.tuple #[]) ∧ LR b o a g cap w' (swp l i j) ∧ Frm (fun k => k = g) w w' := by
  obtain ⟨x0, x1, x2⟩ := h.at hi
  obtain ⟨y0, y1, y2⟩ := h.at hj
  have H := Lib.hid h
  have c1 := h.c1
  have s : Hid (swp l i j = (l.set i l[j]).set j l[i]) := (by rw [swp, gt_at hi, gt_at hj] : swp l i j = (l.set i l[j]).set j l[i])
  obtain ⟨n, hn⟩ : ∃ n, l.length = n := ⟨_, rfl⟩
  have HN := Lib.hid hn
  rw [hn] at c1
  obtain ⟨x, hx⟩ : ∃ x, l[i] = x := ⟨_, rfl⟩
  obtain ⟨y, hy⟩ : ∃ y, l[j] = y := ⟨_, rfl⟩
  rw [hx] at x0 x1 x2 s
  rw [hy] at y0 y1 y2 s
  obtain ⟨xi, xc, xm⟩ := x
  obtain ⟨yi, yc, ym⟩ := y
  rw [hn] at hi hj
  simp only at x0 x1 x2 y0 y1 y2
  have d1 : decide (i < n) = true := by simp [hi]
  have d2 : decide (j < n) = true := by simp [hj]
  have fz : Hid (∀ k, w.frozen? ⟨g, k, none⟩ = false) := (fun k => h.row.frozenAt k : ∀ k, w.frozen? ⟨g, k, none⟩ = false)
  have f0 := fz.out (i * 3)
  have f1 := fz.out (i * 3 + 1)
  have f2 := fz.out (i * 3 + 2)
  have f3 := fz.out (j * 3)
  have f4 := fz.out (j * 3 + 1)
  have f5 := fz.out (j * 3 + 2)
  obtain ⟨v0, hv0⟩ := cell?_setCell_some (w := w) (p := ⟨g, i * 3, none⟩) (x := .int .i64 yi) (q := ⟨g, j * 3, none⟩) y0
  obtain ⟨t1, ht1⟩ := cell?_setCell_some (w := w) (p := ⟨g, i * 3, none⟩) (x := .int .i64 yi) (q := ⟨g, j * 3 + 1, none⟩) y1
  obtain ⟨v1, hv1⟩ := cell?_setCell_some (p := ⟨g, i * 3 + 1, none⟩) (x := .int .i64 yc) (q := ⟨g, j * 3 + 1, none⟩) ht1
  obtain ⟨t2, ht2⟩ := cell?_setCell_some (w := w) (p := ⟨g, i * 3, none⟩) (x := .int .i64 yi) (q := ⟨g, j * 3 + 2, none⟩) y2
  obtain ⟨t3, ht3⟩ := cell?_setCell_some (p := ⟨g, i * 3 + 1, none⟩) (x := .int .i64 yc) (q := ⟨g, j * 3 + 2, none⟩) ht2
  obtain ⟨v2, hv2⟩ := cell?_setCell_some (p := ⟨g, i * 3 + 2, none⟩) (x := .int .i64 ym) (q := ⟨g, j * 3 + 2, none⟩) ht3
  clear ht1 ht2 ht3
  clear hx hy h hn
  go_enter Try.func91, Try.ntmps91
  go_wp2_with fail
  go_region
  all_goals (try go_wp2)
  go_end0
  exact ⟨rfl, H.out.put2 i j ⟨yi, yc, ym⟩ ⟨xi, xc, xm⟩ s.out⟩
end QQ
end Go.Proofs.Ytlopijcpnfkcgaa
