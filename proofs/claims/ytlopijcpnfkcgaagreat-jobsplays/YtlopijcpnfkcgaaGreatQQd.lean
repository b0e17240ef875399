/- The heap's line in memory: the methods of (*queue.line). -/
import Derived.Test.YtlopijcpnfkcgaaGreatQRw
import Derived.Test.YtlopijcpnfkcgaaGreatQHm
import Derived.Test.YtlopijcpnfkcgaaGreatQWa
import Derived.Deep.RegionHeld3
import Derived.Deep.OwnRows
import Derived.Deep.RegionLaw
namespace Go.Proofs.YtlopijcpnfkcgaaGreat
namespace QQ
open Go.RowKit
set_option linter.unusedSimpArgs false

/-- the line at (b, o): aging a, a row of jobs in block g. -/
structure LR (b o : Nat) (a : Int) (g cap : Nat) (W : World) (l : List Wt) : Prop where
  c0 : W.cell? ⟨b, o, none⟩ = some (.int .i64 a)
  c1 : W.cell? ⟨b, o + 1, none⟩ = some (.slice (some ⟨g, 0, none⟩) l.length cap)
  f1 : W.frozen? ⟨b, o + 1, none⟩ = false
  row : W.ownsRow 0 77 3 (.slice (some ⟨g, 0, none⟩) l.length cap) l.length (cw l)
  ne : g ≠ b
theorem LR.at {b o : Nat} {a : Int} {g cap : Nat} {W : World} {l : List Wt} (h : LR b o a g cap W l) {i : Nat} (hi : i < l.length) :
    W.cell? ⟨g, i * 3, none⟩ = some (.int .i64 l[i].id) ∧ W.cell? ⟨g, i * 3 + 1, none⟩ = some (.int .i64 l[i].cl) ∧ W.cell? ⟨g, i * 3 + 2, none⟩ = some (.int .i64 l[i].ca) := by
  have hc := h.row.cells (g := g) rfl
  refine ⟨?_, ?_, ?_⟩
  · have := hc _ _ (cw_id l i hi); rwa [Addr.add_lit, Nat.zero_add] at this
  · have := hc _ _ (cw_cl l i hi); rwa [Addr.add_lit, Nat.zero_add] at this
  · have := hc _ _ (cw_ca l i hi); rwa [Addr.add_lit, Nat.zero_add] at this
theorem LR.keep {b o : Nat} {a : Int} {g cap : Nat} {W W' : World} {l : List Wt} (h : LR b o a g cap W l) {F : Nat → Prop} (k : Frm F W W') (hb : ¬ F b) (hg : ¬ F g) : LR b o a g cap W' l :=
  ⟨k.cell h.c0 hb, k.cell h.c1 hb, by
    have e := k.block b (World.block_lt_of_cell? _ _ h.c1) hb
    have := h.f1
    simp only [World.frozen?, e] at *
    exact this, ownsRow_frm h.row k (fun k' hk => by cases hk; exact hg), h.ne⟩

set_option maxHeartbeats 1000000 in
set_option maxRecDepth 100000 in
theorem line_less (b o : Nat) (a : Int) (g cap : Nat) (l : List Wt) (i j : Nat) (w : World) (h : LR b o a g cap w l) (hi : i < l.length) (hj : j < l.length) :
    Calls Tryz.prog 113 #[.pointer (some ⟨b, o, none⟩), .int .i64 i, .int .i64 j] w fun e w' => e = .returned (.bool (les a l[i] l[j])) ∧ Grw w w' := by
  obtain ⟨x0, x1, x2⟩ := h.at hi
  obtain ⟨y0, y1, y2⟩ := h.at hj
  have c0 := h.c0
  have c1 := h.c1
  obtain ⟨n, hn⟩ : ∃ n, l.length = n := ⟨_, rfl⟩
  rw [hn] at c1
  obtain ⟨x, hx⟩ : ∃ x, l[i] = x := ⟨_, rfl⟩
  obtain ⟨y, hy⟩ : ∃ y, l[j] = y := ⟨_, rfl⟩
  rw [hx] at x0 x1 x2 ⊢
  rw [hy] at y0 y1 y2 ⊢
  obtain ⟨xi, xc, xm⟩ := x
  obtain ⟨yi, yc, ym⟩ := y
  have C := Lib.hid (fun w => less_is a xi xc xm yi yc ym _ w rfl)
  rw [hn] at hi hj
  simp only at x0 x1 x2 y0 y1 y2
  have d1 : decide (i < n) = true := by simp [hi]
  have d2 : decide (j < n) = true := by simp [hj]
  obtain ⟨r, hr⟩ : ∃ r, les a ⟨xi, xc, xm⟩ ⟨yi, yc, ym⟩ = r := ⟨_, rfl⟩
  rw [hr] at C ⊢
  clear hx hy h hn hr
  have u0 := gw_cell c0
  have u1 := gw_cell c1
  have m0 := gw_cell x0
  have m1 := gw_cell x1
  have m2 := gw_cell x2
  have n0 := gw_cell y0
  have n1 := gw_cell y1
  have n2 := gw_cell y2
  clear c0 c1 x0 x1 x2 y0 y1 y2
  go_enter Tryz.func113, Tryz.ntmps113
  go_wp2_with fail
  refine wp_region_grown (by kernel_rfl) (by kernel_rfl) ?_
  repeat (go_big_quiet_step (first | (go_at_call 117; with_reducible exact calls_grown (C.out _))))
  refine wpQuiet_nil ?_
  rintro _ ⟨q, rfl⟩
  go_wp2_with fail
  go_ret
  exact ⟨rfl, q.h⟩
theorem cw_set (l : List Wt) (i : Nat) (x : Wt) : cw (l.set i x) = (((cw l).set (i * 3) (.int .i64 x.id)).set (i * 3 + 1) (.int .i64 x.cl)).set (i * 3 + 2) (.int .i64 x.ca) := by
  induction l generalizing i with
  | nil => simp [cw]
  | cons d l ih =>
    cases i with
    | zero => simp [cw]
    | succ i =>
      rw [show (i + 1) * 3 = i * 3 + 1 + 1 + 1 by omega]
      simp only [cw, List.set_cons_succ, ih]
/-- a job written at place i. -/
theorem own_put {w : World} {g n cap : Nat} {l : List Wt} (h : w.ownsRow 0 77 3 (.slice (some ⟨g, 0, none⟩) n cap) n (cw l)) (i : Nat) (x : Wt) :
    (((w.setCell ⟨g, i * 3, none⟩ (.int .i64 x.id)).setCell ⟨g, i * 3 + 1, none⟩ (.int .i64 x.cl)).setCell ⟨g, i * 3 + 2, none⟩ (.int .i64 x.ca)).ownsRow 0 77 3 (.slice (some ⟨g, 0, none⟩) n cap) n (cw (l.set i x)) := by
  rw [cw_set]
  exact ((((h.stored _ _).1).stored _ _).1.stored _ _).1
theorem LR.put2 {b o : Nat} {a : Int} {g cap : Nat} {w : World} {l : List Wt} (h : LR b o a g cap w l) (i j : Nat) (x y : Wt) {l' : List Wt} (e : l' = (l.set i x).set j y) :
    LR b o a g cap ((((((w.setCell ⟨g, i * 3, none⟩ (.int .i64 x.id)).setCell ⟨g, i * 3 + 1, none⟩ (.int .i64 x.cl)).setCell ⟨g, i * 3 + 2, none⟩ (.int .i64 x.ca)).setCell ⟨g, j * 3, none⟩ (.int .i64 y.id)).setCell ⟨g, j * 3 + 1, none⟩ (.int .i64 y.cl)).setCell ⟨g, j * 3 + 2, none⟩ (.int .i64 y.ca)).drew l' ∧
    Frm (fun k => k = g) w ((((((w.setCell ⟨g, i * 3, none⟩ (.int .i64 x.id)).setCell ⟨g, i * 3 + 1, none⟩ (.int .i64 x.cl)).setCell ⟨g, i * 3 + 2, none⟩ (.int .i64 x.ca)).setCell ⟨g, j * 3, none⟩ (.int .i64 y.id)).setCell ⟨g, j * 3 + 1, none⟩ (.int .i64 y.cl)).setCell ⟨g, j * 3 + 2, none⟩ (.int .i64 y.ca)).drew := by
  have hl : l'.length = l.length := by rw [e]; simp
  have hf : Frm (fun k => k = g) w ((((((w.setCell ⟨g, i * 3, none⟩ (.int .i64 x.id)).setCell ⟨g, i * 3 + 1, none⟩ (.int .i64 x.cl)).setCell ⟨g, i * 3 + 2, none⟩ (.int .i64 x.ca)).setCell ⟨g, j * 3, none⟩ (.int .i64 y.id)).setCell ⟨g, j * 3 + 1, none⟩ (.int .i64 y.cl)).setCell ⟨g, j * 3 + 2, none⟩ (.int .i64 y.ca)).drew :=
    (((((((Frm.rfl' (fun k => k = g) w).set _ _ (Or.inl rfl)).set _ _ (Or.inl rfl)).set _ _ (Or.inl rfl)).set _ _ (Or.inl rfl)).set _ _ (Or.inl rfl)).set _ _ (Or.inl rfl)).drew
  have hb : ¬ b = g := fun e => h.ne e.symm
  refine ⟨⟨hf.cell h.c0 hb, ?_, ?_, ?_, h.ne⟩, hf⟩
  · rw [hl]; exact hf.cell h.c1 hb
  · have e := hf.block b (World.block_lt_of_cell? _ _ h.c1) hb
    have := h.f1
    simp only [World.frozen?, e] at *
    exact this
  · rw [hl, e]
    have q := own_put (own_put h.row i x) j y
    exact ownsRow_frm (F := fun _ => False) q ((Frm.rfl' _ _).drew) (fun _ _ e => e)

set_option maxHeartbeats 1000000 in
set_option maxRecDepth 100000 in
theorem line_swap (b o : Nat) (a : Int) (g cap : Nat) (l : List Wt) (i j : Nat) (w : World) (h : LR b o a g cap w l) (hi : i < l.length) (hj : j < l.length) :
    Calls Tryz.prog 116 #[.pointer (some ⟨b, o, none⟩), .int .i64 i, .int .i64 j] w fun e w' => e = .returned (.tuple #[]) ∧ LR b o a g cap w' (swp l i j) ∧ Frm (fun k => k = g) w w' := by
  obtain ⟨x0, x1, x2⟩ := h.at hi
  obtain ⟨y0, y1, y2⟩ := h.at hj
  have H := Lib.hid h
  have c1 := h.c1
  have s : Hid (swp l i j = (l.set i l[j]).set j l[i]) := (by rw [swp, gt_at hi, gt_at hj] : swp l i j = (l.set i l[j]).set j l[i])
  obtain ⟨n, hn⟩ : ∃ n, l.length = n := ⟨_, rfl⟩
  have HN := Lib.hid hn
  rw [hn] at c1
  obtain ⟨x, hx⟩ : ∃ x, l[i] = x := ⟨_, rfl⟩
  obtain ⟨y, hy⟩ : ∃ y, l[j] = y := ⟨_, rfl⟩
  rw [hx] at x0 x1 x2 s
  rw [hy] at y0 y1 y2 s
  obtain ⟨xi, xc, xm⟩ := x
  obtain ⟨yi, yc, ym⟩ := y
  rw [hn] at hi hj
  simp only at x0 x1 x2 y0 y1 y2
  have d1 : decide (i < n) = true := by simp [hi]
  have d2 : decide (j < n) = true := by simp [hj]
  have fz : Hid (∀ k, w.frozen? ⟨g, k, none⟩ = false) := (fun k => h.row.frozenAt k : ∀ k, w.frozen? ⟨g, k, none⟩ = false)
  have f0 := fz.out (i * 3)
  have f1 := fz.out (i * 3 + 1)
  have f2 := fz.out (i * 3 + 2)
  have f3 := fz.out (j * 3)
  have f4 := fz.out (j * 3 + 1)
  have f5 := fz.out (j * 3 + 2)
  obtain ⟨v0, hv0⟩ := cell?_setCell_some (w := w) (p := ⟨g, i * 3, none⟩) (x := .int .i64 yi) (q := ⟨g, j * 3, none⟩) y0
  obtain ⟨t1, ht1⟩ := cell?_setCell_some (w := w) (p := ⟨g, i * 3, none⟩) (x := .int .i64 yi) (q := ⟨g, j * 3 + 1, none⟩) y1
  obtain ⟨v1, hv1⟩ := cell?_setCell_some (p := ⟨g, i * 3 + 1, none⟩) (x := .int .i64 yc) (q := ⟨g, j * 3 + 1, none⟩) ht1
  obtain ⟨t2, ht2⟩ := cell?_setCell_some (w := w) (p := ⟨g, i * 3, none⟩) (x := .int .i64 yi) (q := ⟨g, j * 3 + 2, none⟩) y2
  obtain ⟨t3, ht3⟩ := cell?_setCell_some (p := ⟨g, i * 3 + 1, none⟩) (x := .int .i64 yc) (q := ⟨g, j * 3 + 2, none⟩) ht2
  obtain ⟨v2, hv2⟩ := cell?_setCell_some (p := ⟨g, i * 3 + 2, none⟩) (x := .int .i64 ym) (q := ⟨g, j * 3 + 2, none⟩) ht3
  clear ht1 ht2 ht3
  clear hx hy h hn
  go_enter Tryz.func116, Tryz.ntmps116
  go_wp2_with fail
  go_region
  all_goals (try go_wp2)
  go_end0
  exact ⟨rfl, H.out.put2 i j ⟨yi, yc, ym⟩ ⟨xi, xc, xm⟩ s.out⟩
end QQ
end Go.Proofs.YtlopijcpnfkcgaaGreat

/- container/heap at the line: up and down. -/
namespace Go.Proofs.YtlopijcpnfkcgaaGreat
namespace QQ
open Go.RowKit
set_option linter.unusedSimpArgs false

theorem meth_less (b o : Nat) : ∀ w, Sem.run Tryz.prog (method (Tryz.prog.types.size + 100) 109 (.pointer (some ⟨b, o, none⟩)) "Less") w = .ok (113, .pointer (some ⟨b, o, none⟩)) w := fun _ => by kernel_rfl
theorem meth_swap (b o : Nat) : ∀ w, Sem.run Tryz.prog (method (Tryz.prog.types.size + 100) 109 (.pointer (some ⟨b, o, none⟩)) "Swap") w = .ok (116, .pointer (some ⟨b, o, none⟩)) w := fun _ => by kernel_rfl
theorem meth_len (b o : Nat) : ∀ w, Sem.run Tryz.prog (method (Tryz.prog.types.size + 100) 109 (.pointer (some ⟨b, o, none⟩)) "Len") w = .ok (51, .pointer (some ⟨b, o, none⟩)) w := fun _ => by kernel_rfl
theorem meth_push (b o : Nat) : ∀ w, Sem.run Tryz.prog (method (Tryz.prog.types.size + 100) 109 (.pointer (some ⟨b, o, none⟩)) "Push") w = .ok (115, .pointer (some ⟨b, o, none⟩)) w := fun _ => by kernel_rfl
theorem meth_pop (b o : Nat) : ∀ w, Sem.run Tryz.prog (method (Tryz.prog.types.size + 100) 109 (.pointer (some ⟨b, o, none⟩)) "Pop") w = .ok (114, .pointer (some ⟨b, o, none⟩)) w := fun _ => by kernel_rfl

theorem less_gt (b o : Nat) (a : Int) (g cap : Nat) (l : List Wt) (i j : Nat) (t : Bool) (w : World) (h : LR b o a g cap w l) (hi : i < l.length) (hj : j < l.length) (e : les a (gt l i) (gt l j) = t) :
    Calls Tryz.prog 113 #[.pointer (some ⟨b, o, none⟩), .int .i64 i, .int .i64 j] w fun e w' => e = .returned (.bool t) ∧ Grw w w' := by
  rw [gt_at hi, gt_at hj] at e
  exact e ▸ line_less b o a g cap l i j w h hi hj

set_option maxHeartbeats 1000000 in
set_option maxRecDepth 100000 in
theorem up_is (b o : Nat) (a : Int) (g cap n j0 : Nat) (l : List Wt) (w : World) (h : LR b o a g cap w l) (hb : n ≤ l.length) (hsz : l.length ≤ 1000000) (hj : j0 < n) (hu : HU a l n j0) :
    Calls Tryz.prog 66 #[.iface 109 (.pointer (some ⟨b, o, none⟩)), .int .i64 j0] w fun e w' => e = .returned (.tuple #[]) ∧ ∃ l', LR b o a g cap w' l' ∧ Frm (fun k => k = g) w w' ∧ l'.Perm l ∧ Hp a l' n ∧ ∀ k, n ≤ k → gt l' k = gt l k := by
  have H := Lib.hid h
  have HU0 := Lib.hid hu
  have HL := Lib.hid (And.intro hb hsz)
  have mL := meth_less b o
  have mS := meth_swap b o
  have hj1 : j0 ≤ 1000000 := by omega
  clear h hu hb hsz
  go_enter Tryz.func66, Tryz.ntmps66
  go_wp2_with fail
  go_loopw [1] (fun s1 wr => ∃ (j : Nat) (m : List Wt), s1 = .int .i64 j ∧ j ≤ j0 ∧ LR b o a g cap wr m ∧ Frm (fun k => k = g) w wr ∧ m.Perm l ∧ HU a m n j ∧ ∀ k, n ≤ k → gt m k = gt l k) (fun s1 _ => (intOf s1).toNat)
  case atStart => exact ⟨j0, l, rfl, Nat.le_refl _, H.out, Frm.rfl' _ _, List.Perm.refl _, HU0.out, fun _ _ => rfl⟩
  case round =>
    obtain ⟨j, m, rfl, hjj, hm, hf, hp, hu, hk⟩ := hrel
    have M := Lib.hid hm
    have F := Lib.hid hf
    have Pm := Lib.hid (And.intro hp (And.intro hu hk))
    have hml := hp.length_eq
    have ML := Lib.hid hml
    clear hm hf hp hu hk hml
    obtain ⟨i, hi⟩ : ∃ i : Nat, (j - 1) / 2 = i := ⟨_, rfl⟩
    have HI := Lib.hid hi
    have q1 : IntKind.i64.wrap ((j : Int) - 1) = (j : Int) - 1 := by simp [IntKind.wrap_i64]; omega
    have q2 : Int.tdiv ((j : Int) - 1) 2 = (i : Int) := by
      rcases Nat.eq_zero_or_pos j with c | c
      · subst c; simp at hi; subst hi; decide
      · rw [← hi, show (j : Int) - 1 = ((j - 1 : Nat) : Int) by omega, Int.tdiv_eq_ediv_of_nonneg (by omega)]; omega
    have q3 : IntKind.i64.wrap (i : Int) = (i : Int) := by simp [IntKind.wrap_i64]; omega
    by_cases c : j = 0
    · have e1 : ((i : Int) == (j : Int)) = true := by simp; omega
      subst c
      have R := Lib.hid (And.intro M.out (And.intro F.out (And.intro Pm.out.1 (And.intro Pm.out.2.1.top Pm.out.2.2))))
      go_wp2_with fail
      go_end0
      exact ⟨rfl, m, R.out⟩
    · have e1 : ((i : Int) == (j : Int)) = false := by simp; omega
      have hjn : j < n := by omega
      have hjm : j < m.length := by rw [ML.out]; have := HL.out.1; omega
      have him : i < m.length := by omega
      obtain ⟨t, ht⟩ : ∃ t, les a (gt m j) (gt m i) = t := ⟨_, rfl⟩
      have C := Lib.hid (fun w h => less_gt b o a g cap m j i t w h hjm him ht)
      have S := Lib.hid (fun w h => line_swap b o a g cap m i j w h him hjm)
      have HT := Lib.hid ht
      have HJ := Lib.hid (And.intro hjm (And.intro him hjn))
      clear ht hjm him hjn hi
      cases t with
      | false =>
        go_wp2_with fail
        refine (C.out _ M.out).mono ?_
        rintro _ w1 ⟨rfl, hw⟩
        go_wp2_with fail
        go_end0
        exact ⟨rfl, m, M.out.keep (hw.frm (fun _ => False)) (fun e => e) (fun e => e), F.out.grw' hw, Pm.out.1, Pm.out.2.1.done (by rw [HI.out]; exact HT.out), Pm.out.2.2⟩
      | true =>
        go_wp2_with fail
        refine (C.out _ M.out).mono ?_
        rintro _ w1 ⟨rfl, hw⟩
        have M1 := Lib.hid (M.out.keep (hw.frm (fun _ => False)) (fun e => e) (fun e => e))
        have F1 := Lib.hid (F.out.grw' hw)
        clear hw
        go_wp2_with fail
        refine (S.out _ M1.out).mono ?_
        rintro _ w2 ⟨rfl, h1, h2⟩
        have M2 := Lib.hid h1
        have F2 := Lib.hid (F1.out.trans h2 (fun _ e => Or.inl e))
        clear h1 h2
        go_wp2_with fail
        have hi := HI.out
        refine ⟨⟨i, swp m i j, rfl, by omega, M2.out, F2.out, (swp_perm HJ.out.2.1 HJ.out.1).trans Pm.out.1, Pm.out.2.1.up HJ.out.1 (by omega) hi HJ.out.2.2 HT.out, fun k hk => ?_⟩, by simp [intOf]; omega⟩
        rw [swp_gt HJ.out.2.1 HJ.out.1, if_neg (by have := HJ.out.2.2; omega), if_neg (by have := HJ.out.2.2; omega)]
        exact Pm.out.2.2 k hk

set_option maxHeartbeats 2000000 in
set_option maxRecDepth 100000 in
theorem down_is (b o : Nat) (a : Int) (g cap n i0 : Nat) (l : List Wt) (w : World) (h : LR b o a g cap w l) (hb : n ≤ l.length) (hsz : l.length ≤ 1000000) (hi0 : i0 ≤ n) (hd : HD a l n i0 i0) :
    Calls Tryz.prog 67 #[.iface 109 (.pointer (some ⟨b, o, none⟩)), .int .i64 i0, .int .i64 n] w fun e w' => ∃ t, e = .returned (.bool t) ∧ ∃ l', LR b o a g cap w' l' ∧ Frm (fun k => k = g) w w' ∧ l'.Perm l ∧ (t = true → Hp a l' n) ∧ (t = false → HU a l' n i0) ∧ ∀ k, n ≤ k → gt l' k = gt l k := by
  have H := Lib.hid h
  have HD0 := Lib.hid hd
  have HL := Lib.hid (And.intro hb hsz)
  have mL := meth_less b o
  have mS := meth_swap b o
  have hn1 : n ≤ 1000000 := by omega
  clear h hd hb hsz
  go_enter Tryz.func67, Tryz.ntmps67
  go_wp2_with fail
  go_loopw [7] (fun s7 wr => ∃ (i : Nat) (m : List Wt), s7 = .int .i64 i ∧ i0 ≤ i ∧ i ≤ n ∧ LR b o a g cap wr m ∧ Frm (fun k => k = g) w wr ∧ m.Perm l ∧ HD a m n i0 i ∧ ∀ k, n ≤ k → gt m k = gt l k) (fun s7 _ => n - (intOf s7).toNat)
  case atStart => exact ⟨i0, l, rfl, Nat.le_refl _, hi0, H.out, Frm.rfl' _ _, List.Perm.refl _, HD0.out, fun _ _ => rfl⟩
  case round =>
    obtain ⟨i, m, rfl, hii, hin, hm, hf, hp, hd, hk⟩ := hrel
    have M := Lib.hid hm
    have F := Lib.hid hf
    have Pm := Lib.hid (And.intro hp (And.intro hd hk))
    have hml := hp.length_eq
    have ML := Lib.hid hml
    clear hm hf hp hd hk hml
    have q1 : IntKind.i64.wrap (2 * (i : Int)) = 2 * (i : Int) := by simp [IntKind.wrap_i64]; omega
    have q2 : IntKind.i64.wrap (2 * (i : Int) + 1) = ((2 * i + 1 : Nat) : Int) := by simp [IntKind.wrap_i64]; omega
    have q3 : IntKind.i64.wrap (((2 * i + 1 : Nat) : Int) + 1) = ((2 * i + 2 : Nat) : Int) := by simp [IntKind.wrap_i64]; omega
    obtain ⟨j1, hj1⟩ : ∃ j1, 2 * i + 1 = j1 := ⟨_, rfl⟩
    obtain ⟨j2, hj2⟩ : ∃ j2, 2 * i + 2 = j2 := ⟨_, rfl⟩
    rw [hj1] at q2 q3
    rw [hj2] at q3
    have d2 : decide ((j1 : Int) < 0) = false := by simp
    have HI := Lib.hid (And.intro hj1 hj2)
    by_cases c1 : n ≤ j1
    · have d1 : decide (n ≤ j1) = true := by simp [c1]
      by_cases c9 : i0 < i
      · have d9 : decide (i0 < i) = true := by simp [c9]
        go_wp2_with fail
        go_ret
        exact ⟨true, rfl, m, M.out, F.out, Pm.out.1, fun _ => Pm.out.2.1.leaf (by have := HI.out.1; omega) c9, (by intro e; cases e), Pm.out.2.2⟩
      · obtain rfl : i0 = i := by omega
        have d9 : decide (i0 < i0) = false := by simp
        go_wp2_with fail
        go_ret
        exact ⟨false, rfl, m, M.out, F.out, Pm.out.1, (by intro e; cases e), fun _ => Pm.out.2.1.leaf' (by have := HI.out.1; omega), Pm.out.2.2⟩
    · have d1 : decide (n ≤ j1) = false := by simp; omega
      have q4 : IntKind.i64.wrap (j1 : Int) = j1 := by simp [IntKind.wrap_i64]; omega
      by_cases c2 : n ≤ j2
      · have d3 : decide (j2 < n) = false := by simp; omega
        have CH := Lib.hid (show Ch a m n i j1 from HI.out.1 ▸ ch_one (by have := HI.out.1; omega) (by have := HI.out.2; omega))
        obtain ⟨t, ht⟩ : ∃ t, les a (gt m j1) (gt m i) = t := ⟨_, rfl⟩
        have C := Lib.hid (fun w h => less_gt b o a g cap m j1 i t w h (by have := CH.out.lt; have := ML.out; have := HL.out.1; omega) (by have := ML.out; have := HL.out.1; omega) ht)
        have S := Lib.hid (fun w h => line_swap b o a g cap m i j1 w h (by have := ML.out; have := HL.out.1; omega) (by have := CH.out.lt; have := ML.out; have := HL.out.1; omega))
        have HT := Lib.hid ht
        clear ht
        cases t with
        | false =>
          go_wp2_with fail
          refine (C.out _ M.out).mono ?_
          rintro _ w5 ⟨rfl, hw⟩
          have M5 := Lib.hid (M.out.keep (hw.frm (fun _ => False)) (fun e => e) (fun e => e))
          have F5 := Lib.hid (F.out.grw' hw)
          clear hw
          by_cases c9 : i0 < i
          · have d9 : decide (i0 < i) = true := by simp [c9]
            go_wp2_with fail
            go_ret
            exact ⟨true, rfl, m, M5.out, F5.out, Pm.out.1, fun _ => Pm.out.2.1.done CH.out HT.out c9, (by intro e; cases e), Pm.out.2.2⟩
          · obtain rfl : i0 = i := by omega
            have d9 : decide (i0 < i0) = false := by simp
            go_wp2_with fail
            go_ret
            exact ⟨false, rfl, m, M5.out, F5.out, Pm.out.1, (by intro e; cases e), fun _ => Pm.out.2.1.done' CH.out HT.out, Pm.out.2.2⟩
        | true =>
          go_wp2_with fail
          refine (C.out _ M.out).mono ?_
          rintro _ w5 ⟨rfl, hw⟩
          have M5 := Lib.hid (M.out.keep (hw.frm (fun _ => False)) (fun e => e) (fun e => e))
          have F5 := Lib.hid (F.out.grw' hw)
          clear hw
          go_wp2_with fail
          refine (S.out _ M5.out).mono ?_
          rintro _ w6 ⟨rfl, h1, h2⟩
          have M6 := Lib.hid h1
          have F6 := Lib.hid (F5.out.trans h2 (fun _ e => Or.inl e))
          clear h1 h2
          go_wp2_with fail
          have hc := CH.out
          have hp := hc.par
          have h0 := hc.pos
          have hl := hc.lt
          have hml := ML.out
          have hnl := HL.out.1
          refine ⟨⟨j1, swp m i j1, rfl, by omega, by omega, M6.out, F6.out, (swp_perm (by omega) (by omega)).trans Pm.out.1, Pm.out.2.1.down hc (by omega) hii HT.out, fun k hk => ?_⟩, by simp [intOf]; omega⟩
          rw [swp_gt (by omega) (by omega), if_neg (by omega), if_neg (by omega)]
          exact Pm.out.2.2 k hk
      · have d3 : decide (j2 < n) = true := by simp; omega
        have C0 := Lib.hid (fun t w h e => less_gt b o a g cap m j2 j1 t w h (by have := ML.out; have := HL.out.1; omega) (by have := ML.out; have := HL.out.1; omega) e)
        have HU := Lib.hid (And.intro c1 c2)
        obtain ⟨u, hu⟩ : ∃ u, les a (gt m j2) (gt m j1) = u := ⟨_, rfl⟩
        cases u with
        | false =>
          have CH := Lib.hid (show Ch a m n i j1 from HI.out.1 ▸ ch_left (by have := HI.out.2; omega) (by rw [HI.out.1, HI.out.2]; exact hu))
          go_wp2_with fail
          refine (C0.out _ _ M.out hu).mono ?_
          rintro _ w4 ⟨rfl, hw⟩
          have M4 := Lib.hid (M.out.keep (hw.frm (fun _ => False)) (fun e => e) (fun e => e))
          have F4 := Lib.hid (F.out.grw' hw)
          clear hw hu
          obtain ⟨t, ht⟩ : ∃ t, les a (gt m j1) (gt m i) = t := ⟨_, rfl⟩
          have C := Lib.hid (fun w h => less_gt b o a g cap m j1 i t w h (by have := CH.out.lt; have := ML.out; have := HL.out.1; omega) (by have := ML.out; have := HL.out.1; omega) ht)
          have S := Lib.hid (fun w h => line_swap b o a g cap m i j1 w h (by have := ML.out; have := HL.out.1; omega) (by have := CH.out.lt; have := ML.out; have := HL.out.1; omega))
          have HT := Lib.hid ht
          clear ht
          cases t with
          | false =>
            go_wp2_with fail
            refine (C.out _ M4.out).mono ?_
            rintro _ w5 ⟨rfl, hw⟩
            have M5 := Lib.hid (M4.out.keep (hw.frm (fun _ => False)) (fun e => e) (fun e => e))
            have F5 := Lib.hid (F4.out.grw' hw)
            clear hw
            by_cases c9 : i0 < i
            · have d9 : decide (i0 < i) = true := by simp [c9]
              go_wp2_with fail
              go_ret
              exact ⟨true, rfl, m, M5.out, F5.out, Pm.out.1, fun _ => Pm.out.2.1.done CH.out HT.out c9, (by intro e; cases e), Pm.out.2.2⟩
            · obtain rfl : i0 = i := by omega
              have d9 : decide (i0 < i0) = false := by simp
              go_wp2_with fail
              go_ret
              exact ⟨false, rfl, m, M5.out, F5.out, Pm.out.1, (by intro e; cases e), fun _ => Pm.out.2.1.done' CH.out HT.out, Pm.out.2.2⟩
          | true =>
            go_wp2_with fail
            refine (C.out _ M4.out).mono ?_
            rintro _ w5 ⟨rfl, hw⟩
            have M5 := Lib.hid (M4.out.keep (hw.frm (fun _ => False)) (fun e => e) (fun e => e))
            have F5 := Lib.hid (F4.out.grw' hw)
            clear hw
            go_wp2_with fail
            refine (S.out _ M5.out).mono ?_
            rintro _ w6 ⟨rfl, h1, h2⟩
            have M6 := Lib.hid h1
            have F6 := Lib.hid (F5.out.trans h2 (fun _ e => Or.inl e))
            clear h1 h2
            go_wp2_with fail
            have hc := CH.out
            have hp := hc.par
            have h0 := hc.pos
            have hl := hc.lt
            have hml := ML.out
            have hnl := HL.out.1
            refine ⟨⟨j1, swp m i j1, rfl, by omega, by omega, M6.out, F6.out, (swp_perm (by omega) (by omega)).trans Pm.out.1, Pm.out.2.1.down hc (by omega) hii HT.out, fun k hk => ?_⟩, by simp [intOf]; omega⟩
            rw [swp_gt (by omega) (by omega), if_neg (by omega), if_neg (by omega)]
            exact Pm.out.2.2 k hk
        | true =>
          have CH := Lib.hid (show Ch a m n i j2 from HI.out.2 ▸ ch_right (by have := HI.out.2; omega) (by rw [HI.out.1, HI.out.2]; exact hu))
          go_wp2_with fail
          refine (C0.out _ _ M.out hu).mono ?_
          rintro _ w4 ⟨rfl, hw⟩
          have M4 := Lib.hid (M.out.keep (hw.frm (fun _ => False)) (fun e => e) (fun e => e))
          have F4 := Lib.hid (F.out.grw' hw)
          clear hw hu
          obtain ⟨t, ht⟩ : ∃ t, les a (gt m j2) (gt m i) = t := ⟨_, rfl⟩
          have C := Lib.hid (fun w h => less_gt b o a g cap m j2 i t w h (by have := CH.out.lt; have := ML.out; have := HL.out.1; omega) (by have := ML.out; have := HL.out.1; omega) ht)
          have S := Lib.hid (fun w h => line_swap b o a g cap m i j2 w h (by have := ML.out; have := HL.out.1; omega) (by have := CH.out.lt; have := ML.out; have := HL.out.1; omega))
          have HT := Lib.hid ht
          clear ht
          cases t with
          | false =>
            go_wp2_with fail
            refine (C.out _ M4.out).mono ?_
            rintro _ w5 ⟨rfl, hw⟩
            have M5 := Lib.hid (M4.out.keep (hw.frm (fun _ => False)) (fun e => e) (fun e => e))
            have F5 := Lib.hid (F4.out.grw' hw)
            clear hw
            by_cases c9 : i0 < i
            · have d9 : decide (i0 < i) = true := by simp [c9]
              go_wp2_with fail
              go_ret
              exact ⟨true, rfl, m, M5.out, F5.out, Pm.out.1, fun _ => Pm.out.2.1.done CH.out HT.out c9, (by intro e; cases e), Pm.out.2.2⟩
            · obtain rfl : i0 = i := by omega
              have d9 : decide (i0 < i0) = false := by simp
              go_wp2_with fail
              go_ret
              exact ⟨false, rfl, m, M5.out, F5.out, Pm.out.1, (by intro e; cases e), fun _ => Pm.out.2.1.done' CH.out HT.out, Pm.out.2.2⟩
          | true =>
            go_wp2_with fail
            refine (C.out _ M4.out).mono ?_
            rintro _ w5 ⟨rfl, hw⟩
            have M5 := Lib.hid (M4.out.keep (hw.frm (fun _ => False)) (fun e => e) (fun e => e))
            have F5 := Lib.hid (F4.out.grw' hw)
            clear hw
            go_wp2_with fail
            refine (S.out _ M5.out).mono ?_
            rintro _ w6 ⟨rfl, h1, h2⟩
            have M6 := Lib.hid h1
            have F6 := Lib.hid (F5.out.trans h2 (fun _ e => Or.inl e))
            clear h1 h2
            go_wp2_with fail
            have hc := CH.out
            have hp := hc.par
            have h0 := hc.pos
            have hl := hc.lt
            have hml := ML.out
            have hnl := HL.out.1
            refine ⟨⟨j2, swp m i j2, rfl, by omega, by omega, M6.out, F6.out, (swp_perm (by omega) (by omega)).trans Pm.out.1, Pm.out.2.1.down hc (by omega) hii HT.out, fun k hk => ?_⟩, by simp [intOf]; omega⟩
            rw [swp_gt (by omega) (by omega), if_neg (by omega), if_neg (by omega)]
            exact Pm.out.2.2 k hk
end QQ
end Go.Proofs.YtlopijcpnfkcgaaGreat

/- The line's Len, Pop and Push. -/
namespace Go.Proofs.YtlopijcpnfkcgaaGreat
namespace QQ
open Go.RowKit
set_option linter.unusedSimpArgs false

theorem Tryz.info77 : (Tryz.prog.info? 77).map (fun i => (i.zero, i.size, i.bytes)) = some (some (.agg #[.int .i64 0, .int .i64 0, .int .i64 0]), 3, 24) := by kernel_rfl
theorem info_parts {T : TypeId} {z : Value} {s b : Nat} (h : (Tryz.prog.info? T).map (fun i => (i.zero, i.size, i.bytes)) = some (some z, s, b)) : ∃ i, Tryz.prog.info? T = some i ∧ i.zero = some z ∧ i.size = s ∧ i.bytes = b := by
  match hi : Tryz.prog.info? T, h with
  | some i, h =>
    simp at h
    exact ⟨i, rfl, h.1, h.2.1, h.2.2⟩
theorem blk_cells {w : World} {g : Nat} {xs : List Value} {t : TypeId} (h : w.heap[g]? = some (.cells xs.toArray t (0, 0))) : ∀ j u, xs[j]? = some u → w.cell? ((⟨g, 0, none⟩ : Addr).add j) = some u := by
  intro j u hj
  rw [Addr.add_lit, Nat.zero_add]
  simp [World.cell?, h, hj]
theorem one_wt (w : World) (d : Wt) : ∀ (j : Nat) (u : Value), (cw [d])[j]? = some u → (w.alloc (.cells #[.int .i64 d.id, .int .i64 d.cl, .int .i64 d.ca] 77)).cell? ((⟨w.heap.size, 0, none⟩ : Addr).add j) = some u :=
  blk_cells (xs := cw [d]) (t := 77) (heap_alloc_new w _)
theorem step_append_run {P : Program} {ops : Array Oper} {o : Oper} {a : Act} {w : World} {K : Act → World → Prop} {Q : Exit → Act → World → Prop} {E : Prop} (hgd : o.guard = none) (s x : Operand) (t : TypeId)
    (ho : o.op = .call { callee := .builtin .append, args := #[s, x], argTypes := #[t, t] }) (vs vx : Value) (hs : a.eval s = vs) (hx : a.eval x = vx) {v' : Value} {w' : World}
    (hr : (Builtin.append_ #[t, t] o.type #[vs, vx]).run P w = .ok v' w') (h : K (a.put o.dst v') w') :
    if Region.wanted o (yielded ops a.tmps) = true then Oper.wp P o a w K Q else E := by
  have hw : Region.wanted o (yielded ops a.tmps) = true := by simp [Region.wanted, hgd]
  rw [if_pos hw]
  unfold Oper.wp
  simp [execOp, ho, resolve, invoke, builtin, hs, hx, hr, Result.andThen]
  exact h
/-- append(v, x) at a row of one's own, x just made. -/
theorem app_one (w : World) (v : Value) (l : List Wt) (x : Wt) (ho : w.ownsRow 0 77 3 v l.length (cw l)) (hb : l.length ≤ 1000000) :
    ∃ v' w', (Builtin.append_ #[62, 62] 62 #[v, .slice (some ⟨w.heap.size, 0, none⟩) 1 1]).run Tryz.prog (w.alloc (.cells #[.int .i64 x.id, .int .i64 x.cl, .int .i64 x.ca] 77)).drew = .ok v' w' ∧ w'.ownsRow 0 77 3 v' (l ++ [x]).length (cw (l ++ [x])) ∧
      Frm (fun k => v.ownBlock = some k) w w' ∧ (v'.ownBlock = v.ownBlock ∨ ∃ k, v'.ownBlock = some k ∧ w.heap.size ≤ k) := by
  obtain ⟨i0, hi, hz0, hz1, hz2⟩ := info_parts Tryz.info77
  rw [List.length_append, cw_app]
  have g : Grw w (w.alloc (.cells #[.int .i64 x.id, .int .i64 x.cl, .int .i64 x.ca] 77)).drew := ((Grw.rfl' w).alloc _).drew
  have ho' : ((w.alloc (.cells #[.int .i64 x.id, .int .i64 x.cl, .int .i64 x.ca] 77)).drew).ownsRow 0 77 3 v l.length (cw l) := ownsRow_frm ho (g.frm (fun _ => False)) (fun _ _ e => e)
  obtain ⟨v', w', h1, h2, h3, h4⟩ := run_append_mine (P := Tryz.prog) ((w.alloc (.cells #[.int .i64 x.id, .int .i64 x.cl, .int .i64 x.ca] 77)).drew) 62 62 77 i0 _ 3 24 Tryz.underlying62 hi hz0 hz1 hz2 rfl (by decide) v l.length (cw l) ho' ⟨w.heap.size, 0, none⟩ 1 1 (cw [x]) (cw_len [x]) (one_wt w x) (cw_one [x]) (by unfold maxLen; omega) (by omega)
  refine ⟨v', w', h1, h2, ?_, ?_⟩
  · have f := grownBy_frm h3
    exact (g.frm (fun k => v.ownBlock = some k)).trans f (fun k e => Or.inl e)
  · rcases h4 with h4 | h4
    · exact Or.inl h4
    · exact Or.inr ⟨_, h4, Below.size g⟩

/-- the line at (b, o), whatever its row. -/
structure LV (b o : Nat) (a : Int) (v : Value) (W : World) (l : List Wt) : Prop where
  c0 : W.cell? ⟨b, o, none⟩ = some (.int .i64 a)
  c1 : W.cell? ⟨b, o + 1, none⟩ = some v
  f1 : W.frozen? ⟨b, o + 1, none⟩ = false
  row : W.ownsRow 0 77 3 v l.length (cw l)
  ne : v.ownBlock ≠ some b
theorem LR.lv {b o : Nat} {a : Int} {g cap : Nat} {W : World} {l : List Wt} (h : LR b o a g cap W l) : LV b o a (.slice (some ⟨g, 0, none⟩) l.length cap) W l :=
  ⟨h.c0, h.c1, h.f1, h.row, fun e => h.ne (by injection e)⟩
theorem LV.lr {b o : Nat} {a : Int} {v : Value} {W : World} {l : List Wt} (h : LV b o a v W l) (hl : l ≠ []) : ∃ g cap, v = .slice (some ⟨g, 0, none⟩) l.length cap ∧ LR b o a g cap W l := by
  rcases h.row.2 with ⟨_, h2⟩ | ⟨g, cap, cur, h1, _⟩
  · exact absurd (List.eq_nil_of_length_eq_zero h2) hl
  · subst h1
    exact ⟨g, cap, rfl, h.c0, h.c1, h.f1, h.row, fun e => h.ne (by rw [e]; rfl)⟩
theorem frz_frm {F : Nat → Prop} {w x : World} (h : Frm F w x) {a : Addr} {v : Value} (hc : w.cell? a = some v) (hn : ¬ F a.block) (hf : w.frozen? a = false) : x.frozen? a = false := by
  have e := h.block a.block (World.block_lt_of_cell? _ _ hc) hn
  simp only [World.frozen?, e] at *
  exact hf
theorem LV.keep {b o : Nat} {a : Int} {v : Value} {W W' : World} {l : List Wt} (h : LV b o a v W l) {F : Nat → Prop} (k : Frm F W W') (hb : ¬ F b) (hg : ∀ g, v.ownBlock = some g → ¬ F g) : LV b o a v W' l :=
  ⟨k.cell h.c0 hb, k.cell h.c1 hb, frz_frm k h.c1 hb h.f1, ownsRow_frm h.row k hg, h.ne⟩
theorem own_slice {w : World} {v : Value} {n : Nat} {xs : List Value} (h : w.ownsRow 0 77 3 v n xs) : ∃ ao cap, v = .slice ao n cap := by
  rcases h.2 with ⟨h1, h2⟩ | ⟨g, cap, cur, h1, _⟩
  · subst h2; exact ⟨_, _, h1⟩
  · exact ⟨_, _, h1⟩
set_option maxHeartbeats 1000000 in
set_option maxRecDepth 100000 in
theorem line_len (b o : Nat) (ao : Option Addr) (n cap : Nat) (w : World) (h : w.cell? ⟨b, o + 1, none⟩ = some (.slice ao n cap)) :
    Calls Tryz.prog 51 #[.pointer (some ⟨b, o, none⟩)] w fun e w' => e = .returned (.int .i64 n) ∧ w = w' := by
  go_enter Tryz.func51, Tryz.ntmps51
  go_wp2_with fail
  go_ret
  exact ⟨rfl, rfl⟩
theorem LV.len {b o : Nat} {a : Int} {v : Value} {W : World} {l : List Wt} (h : LV b o a v W l) {n : Nat} (hn : l.length = n) :
    Calls Tryz.prog 51 #[.pointer (some ⟨b, o, none⟩)] W fun e w' => e = .returned (.int .i64 n) ∧ W = w' := by
  obtain ⟨ao, cap, hv⟩ := own_slice h.row
  have c := h.c1
  rw [hv, hn] at c
  exact line_len b o ao n cap W c
/-- the same row, cut before its last. -/
theorem own_cut {w : World} {g n cap : Nat} {l : List Wt} (h : w.ownsRow 0 77 3 (.slice (some ⟨g, 0, none⟩) l.length cap) l.length (cw l)) (hn : n ≤ l.length) : w.ownsRow 0 77 3 (.slice (some ⟨g, 0, none⟩) n cap) n (cw (l.take n)) := by
  refine ⟨by rw [cw_len, List.length_take, Nat.min_eq_left hn], Or.inr ?_⟩
  rcases h.2 with ⟨h1, _⟩ | ⟨g', cap', cur, h1, h2, h3, h4, h5, h6, h7⟩
  · cases h1
  · injection h1 with e1 e2 e3
    injection e1 with e1
    injection e1 with e1
    subst e1 e3
    refine ⟨g, cap, cur, rfl, h2, h3, by omega, h5, h6, ?_⟩
    rw [cw_take, ← h7, List.take_take, Nat.min_eq_left (by omega)]
/-- the other cells of a block are as they were. -/
def Rest (b j : Nat) (w x : World) : Prop := ∀ k, k ≠ j → x.cell? ⟨b, k, none⟩ = w.cell? ⟨b, k, none⟩ ∧ x.frozen? ⟨b, k, none⟩ = w.frozen? ⟨b, k, none⟩
theorem Rest.trans {b j : Nat} {w x y : World} (h : Rest b j w x) (g : Rest b j x y) : Rest b j w y := fun k hk => ⟨(g k hk).1.trans (h k hk).1, (g k hk).2.trans (h k hk).2⟩
theorem Rest.frm {b j : Nat} {w x : World} {F : Nat → Prop} (f : Frm F w x) (hb : b < w.heap.size) (hn : ¬ F b) : Rest b j w x := fun k _ => by
  have e := f.block b hb hn
  exact ⟨World.cell?_of_block e, by simp only [World.frozen?, e]⟩
theorem Rest.set (b j : Nat) (w : World) (v : Value) : Rest b j w (w.setCell ⟨b, j, none⟩ v) := fun k hk =>
  ⟨World.cell?_setCell_other w ⟨b, j, none⟩ ⟨b, k, none⟩ v (fun e => hk (by injection e with _ e; exact e.symm)), by simp⟩
/-- the line with another row put into it. -/
theorem lv_reput {b o : Nat} {a : Int} {u v : Value} {W : World} {l : List Wt} (c0 : W.cell? ⟨b, o, none⟩ = some (.int .i64 a)) (c1 : W.cell? ⟨b, o + 1, none⟩ = some u) (f1 : W.frozen? ⟨b, o + 1, none⟩ = false)
    (row : W.ownsRow 0 77 3 v l.length (cw l)) (ne : v.ownBlock ≠ some b) : LV b o a v (W.setCell ⟨b, o + 1, none⟩ v) l := by
  refine ⟨?_, ?_, ?_, ?_, ne⟩
  · simp [go_sem, c0]
  · simp [go_sem, c1]
  · simp [go_sem, f1]
  · exact ownsRow_frm row (frm_set (F := fun k => k = b) W ⟨b, o + 1, none⟩ v rfl) (fun k hk e => by subst e; exact ne hk)
set_option maxHeartbeats 1000000 in
set_option maxRecDepth 100000 in
theorem line_pop (b o : Nat) (a : Int) (g cap n : Nat) (l : List Wt) (w : World) (h : LR b o a g cap w l) (hn : l.length = n + 1) (hsz : n ≤ 1000000) :
    Calls Tryz.prog 114 #[.pointer (some ⟨b, o, none⟩)] w fun e w' => e = .returned (.iface 77 (wv (gt l n))) ∧ LR b o a g cap w' (l.take n) ∧ Frm (fun k => k = b) w w' ∧ Rest b (o + 1) w w' := by
  have hnl : n < l.length := by omega
  obtain ⟨x0, x1, x2⟩ := h.at hnl
  have H := Lib.hid h
  have c1 := h.c1
  have f1 := h.f1
  rw [hn] at c1
  obtain ⟨x, hx⟩ : ∃ x, l[n] = x := ⟨_, rfl⟩
  have HX : Hid (gt l n = x) := (by rw [gt_at hnl]; exact hx : gt l n = x)
  rw [hx] at x0 x1 x2
  obtain ⟨xi, xc, xm⟩ := x
  simp only at x0 x1 x2
  have HN := Lib.hid (And.intro hn hsz)
  have q1 : IntKind.i64.wrap (((n + 1 : Nat) : Int) - 1) = (n : Int) := by simp [IntKind.wrap_i64]; omega
  have d1 : n < n + 1 := by omega
  obtain ⟨m, hm⟩ : ∃ m, n + 1 = m := ⟨_, rfl⟩
  rw [hm] at c1 q1 d1
  have hnm : n ≤ m := by omega
  have hmc : m ≤ cap := by
    rcases h.row.2 with ⟨h1, _⟩ | ⟨g', cap', cur, h1, h2, h3, h4, h5, h6, h7⟩
    · cases h1
    · injection h1 with e1 e2 e3; omega
  have hnc : n ≤ cap := by omega
  have KE : Hid (∀ T, Frm (fun k => k = b) w ((w.alloc (.cells #[.int .i64 xi, .int .i64 xc, .int .i64 xm] T)).setCell ⟨b, o + 1, none⟩ (.slice (some ⟨g, 0, none⟩) n cap))) :=
    (fun T => (((Frm.rfl' (fun k => k = b) w).alloc _).set _ _ (Or.inl rfl)) : ∀ T, Frm (fun k => k = b) w ((w.alloc (.cells #[.int .i64 xi, .int .i64 xc, .int .i64 xm] T)).setCell ⟨b, o + 1, none⟩ (.slice (some ⟨g, 0, none⟩) n cap)))
  have RS : Hid (∀ T, Rest b (o + 1) w ((w.alloc (.cells #[.int .i64 xi, .int .i64 xc, .int .i64 xm] T)).setCell ⟨b, o + 1, none⟩ (.slice (some ⟨g, 0, none⟩) n cap))) :=
    (fun T => (Rest.frm (((Grw.rfl' w).alloc _).frm (fun _ => False)) (World.block_lt_of_cell? _ _ c1) (fun e => e)).trans (Rest.set _ _ _ _) : ∀ T, Rest b (o + 1) w ((w.alloc (.cells #[.int .i64 xi, .int .i64 xc, .int .i64 xm] T)).setCell ⟨b, o + 1, none⟩ (.slice (some ⟨g, 0, none⟩) n cap)))
  have ca : ∀ u, (w.alloc u).cell? ⟨b, o + 1, none⟩ = some (.slice (some ⟨g, 0, none⟩) m cap) := fun u => ((Grw.rfl' w).alloc u).cell c1
  have fa : ∀ u, (w.alloc u).frozen? ⟨b, o + 1, none⟩ = false := fun u => frz_frm (((Grw.rfl' w).alloc u).frm (fun _ => False)) c1 (fun e => e) f1
  have hs := World.block_lt_of_cell? _ _ c1
  have s1 : ¬ w.heap.size = b := by simp only at hs; omega
  have s2 : ¬ b = w.heap.size := by simp only at hs; omega
  clear hx h hn hnl hm hs
  go_enter Tryz.func114, Tryz.ntmps114
  go_wp2_with fail
  go_ret
  have g0 : Grw w (w.alloc (.cells #[.int .i64 xi, .int .i64 xc, .int .i64 xm] 77)) := (Grw.rfl' w).alloc _
  have hl : (l.take n).length = n := by rw [List.length_take]; have := HN.out.1; omega
  have R := lv_reput (l := l.take n) (v := .slice (some ⟨g, 0, none⟩) n cap) (g0.cell H.out.c0) (ca _) (fa _) (by rw [hl]; exact ownsRow_frm (own_cut H.out.row (by have := HN.out.1; omega)) (g0.frm (fun _ => False)) (fun _ _ e => e)) (fun e => H.out.ne (by injection e))
  refine ⟨by rw [HX.out]; rfl, ⟨R.c0, by rw [hl]; exact R.c1, R.f1, ?_, H.out.ne⟩, KE.out 77, RS.out 77⟩
  have := R.row
  rw [hl] at this ⊢
  exact this
end QQ
end Go.Proofs.YtlopijcpnfkcgaaGreat

/- The line's Push; heap.Push, Pop, Remove. -/
namespace Go.Proofs.YtlopijcpnfkcgaaGreat
namespace QQ
open Go.RowKit
set_option linter.unusedSimpArgs false

/-- the row behind is the row ahead or a new one. -/
def Near (w : World) (v v' : Value) : Prop := v'.ownBlock = v.ownBlock ∨ ∃ k, v'.ownBlock = some k ∧ w.heap.size ≤ k
theorem assert37 (v : Value) (w : World) : (Instr.typeAssert (.iface 77 v) 20 77 false).run Tryz.prog w = .ok v w := by kernel_rfl
set_option maxHeartbeats 1000000 in
set_option maxRecDepth 100000 in
theorem line_push (b o : Nat) (a : Int) (v : Value) (l : List Wt) (x : Wt) (w : World) (h : LV b o a v w l) (hb : l.length ≤ 1000000) :
    Calls Tryz.prog 115 #[.pointer (some ⟨b, o, none⟩), .iface 77 (wv x)] w fun e w' => e = .returned (.tuple #[]) ∧ ∃ v', LV b o a v' w' (l ++ [x]) ∧ Frm (fun k => k = b ∨ v.ownBlock = some k) w w' ∧ Near w v v' ∧ Rest b (o + 1) w w' := by
  have H := Lib.hid h
  obtain ⟨v', w1, hr, ho, hf, hn⟩ := app_one w v l x h.row hb
  obtain ⟨xi, xc, xm⟩ := x
  obtain ⟨ao', cap', rfl⟩ := own_slice ho
  have hne : (Value.slice ao' (l ++ [(⟨xi, xc, xm⟩ : Wt)]).length cap').ownBlock ≠ some b := by
    rcases hn with hn | ⟨k, hk, hw⟩
    · rw [hn]; exact h.ne
    · intro e
      rw [e] at hk
      injection hk with hk
      have := World.block_lt_of_cell? _ _ h.c1
      simp only at this
      omega
  have c1 := h.c1
  have ca : ∀ u, (w.alloc u).cell? ⟨b, o + 1, none⟩ = some v := fun u => ((Grw.rfl' w).alloc u).cell c1
  have e0 := hf.cell h.c0 h.ne
  have e1 := hf.cell h.c1 h.ne
  have g1 := frz_frm hf h.c1 h.ne h.f1
  have RE := Lib.hid (lv_reput e0 e1 g1 ho hne)
  have HF := Lib.hid (hf.mono (G := fun k => k = b ∨ v.ownBlock = some k) (fun k e => Or.inr e))
  have RS : Hid (∀ u, Rest b (o + 1) w (w1.setCell ⟨b, o + 1, none⟩ u)) := (fun u => (Rest.frm hf (World.block_lt_of_cell? _ _ h.c1) h.ne).trans (Rest.set _ _ _ _) : ∀ u, Rest b (o + 1) w (w1.setCell ⟨b, o + 1, none⟩ u))
  have HN : Hid (Near w v (.slice ao' (l ++ [(⟨xi, xc, xm⟩ : Wt)]).length cap')) := hn
  obtain ⟨n, hln⟩ : ∃ n, (l ++ [(⟨xi, xc, xm⟩ : Wt)]).length = n := ⟨_, rfl⟩
  rw [hln] at hr RE HN
  have R1 := Lib.hid hr
  clear hln
  clear h hr ho hf hn hne e0
  have as37 := assert37 (.agg #[.int .i64 xi, .int .i64 xc, .int .i64 xm])
  change Calls Tryz.prog 115 #[_, .iface 77 (.agg #[.int .i64 xi, .int .i64 xc, .int .i64 xm])] w _
  go_enter Tryz.func115, Tryz.ntmps115
  go_wp2_with fail
  go_region_law (refine step_append_run rfl (.tmp 8) (.tmp 11) 62 rfl v (.slice (some ⟨w.heap.size, 0, none⟩) 1 1) rfl rfl R1.out ?_)
  all_goals
    go_wp2_with fail
    go_end0
    exact ⟨rfl, _, RE.out, HF.out.set _ _ (Or.inl (Or.inl rfl)), HN.out, RS.out _⟩
end QQ
end Go.Proofs.YtlopijcpnfkcgaaGreat
