/- The document's queue: List. -/
import Derived.Test.YtlopijcpnfkcgaaGreatQDg
import Derived.Deep.LoopGhost
import Derived.Deep.CutRange
namespace Go.Proofs.YtlopijcpnfkcgaaGreat
namespace QQ
open Go.RowKit
set_option linter.unusedSimpArgs false
variable {X : Nat → Value → Prop}

/-- four cells of a block that is one's own: as they lie, and to be written. -/
structure F4 (w : World) (b : Nat) (c0 c1 c2 c3 : Value) : Prop where
  c0 : w.cell? ⟨b, 0, none⟩ = some c0
  c1 : w.cell? ⟨b, 1, none⟩ = some c1
  c2 : w.cell? ⟨b, 2, none⟩ = some c2
  c3 : w.cell? ⟨b, 3, none⟩ = some c3
  f0 : w.frozen? ⟨b, 0, none⟩ = false
  f1 : w.frozen? ⟨b, 1, none⟩ = false
  f2 : w.frozen? ⟨b, 2, none⟩ = false
  f3 : w.frozen? ⟨b, 3, none⟩ = false
theorem F4.one (w : World) (c0 c1 c2 c3 : Value) (T : TypeId) : F4 (w.alloc (.cells #[c0, c1, c2, c3] T)) w.heap.size c0 c1 c2 c3 :=
  ⟨by simp [go_sem], by simp [go_sem], by simp [go_sem], by simp [go_sem], by simp [go_sem], by simp [go_sem], by simp [go_sem], by simp [go_sem]⟩
theorem F4.lat {w x : World} {b : Nat} {c0 c1 c2 c3 : Value} (h : F4 w b c0 c1 c2 c3) (g : Grw w x) : F4 x b c0 c1 c2 c3 := by
  have hb : b < w.heap.size := World.block_lt_of_cell? _ _ h.c0
  exact ⟨g.cell h.c0, g.cell h.c1, g.cell h.c2, g.cell h.c3, by rw [Below.frozen g (p := ⟨b, 0, none⟩) hb]; exact h.f0, by rw [Below.frozen g (p := ⟨b, 1, none⟩) hb]; exact h.f1, by rw [Below.frozen g (p := ⟨b, 2, none⟩) hb]; exact h.f2, by rw [Below.frozen g (p := ⟨b, 3, none⟩) hb]; exact h.f3⟩
theorem F4.old (w : World) (c0 c1 c2 c3 : Value) (T : TypeId) (o : Obj) : F4 ((w.alloc (.cells #[c0, c1, c2, c3] T)).alloc o) w.heap.size c0 c1 c2 c3 := (F4.one w c0 c1 c2 c3 T).lat ((Grw.rfl' _).alloc _)
theorem F4.two (w : World) (c0 c1 c2 c3 : Value) (T : TypeId) (o : Obj) : F4 ((w.alloc o).alloc (.cells #[c0, c1, c2, c3] T)) (w.heap.size + 1) c0 c1 c2 c3 := by
  have := F4.one (w.alloc o) c0 c1 c2 c3 T
  rwa [size_new] at this
theorem F4.al {x : World} {b : Nat} {c0 c1 c2 c3 : Value} (h : F4 x b c0 c1 c2 c3) (o : Obj) : F4 (x.alloc o) b c0 c1 c2 c3 := h.lat ((Grw.rfl' _).alloc _)
theorem F4.set4 {w : World} {b : Nat} {c0 c1 c2 c3 : Value} (h : F4 w b c0 c1 c2 c3) (u0 u1 u2 u3 : Value) : F4 ((((w.setCell ⟨b, 0, none⟩ u0).setCell ⟨b, 1, none⟩ u1).setCell ⟨b, 2, none⟩ u2).setCell ⟨b, 3, none⟩ u3) b u0 u1 u2 u3 :=
  ⟨by simp [go_sem, h.c0, h.c1, h.c2, h.c3], by simp [go_sem, h.c0, h.c1, h.c2, h.c3], by simp [go_sem, h.c0, h.c1, h.c2, h.c3], by simp [go_sem, h.c0, h.c1, h.c2, h.c3], by simp [go_sem, h.f0], by simp [go_sem, h.f1], by simp [go_sem, h.f2], by simp [go_sem, h.f3]⟩
theorem F4.off {w : World} {b d : Nat} {c0 c1 c2 c3 : Value} (h : F4 w b c0 c1 c2 c3) (hne : b ≠ d) (u0 u1 u2 u3 : Value) : F4 ((((w.setCell ⟨d, 0, none⟩ u0).setCell ⟨d, 1, none⟩ u1).setCell ⟨d, 2, none⟩ u2).setCell ⟨d, 3, none⟩ u3) b c0 c1 c2 c3 := by
  have f : Frm (fun k => k = d) w ((((w.setCell ⟨d, 0, none⟩ u0).setCell ⟨d, 1, none⟩ u1).setCell ⟨d, 2, none⟩ u2).setCell ⟨d, 3, none⟩ u3) :=
    (((frm_set (F := fun k => k = d) w ⟨d, 0, none⟩ u0 rfl).set ⟨d, 1, none⟩ u1 (Or.inl rfl)).set ⟨d, 2, none⟩ u2 (Or.inl rfl)).set ⟨d, 3, none⟩ u3 (Or.inl rfl)
  exact ⟨f.cell h.c0 hne, f.cell h.c1 hne, f.cell h.c2 hne, f.cell h.c3 hne, by simp [go_sem, h.f0], by simp [go_sem, h.f1], by simp [go_sem, h.f2], by simp [go_sem, h.f3]⟩
theorem F4.lt {w : World} {b : Nat} {c0 c1 c2 c3 : Value} (h : F4 w b c0 c1 c2 c3) : b < w.heap.size := World.block_lt_of_cell? _ _ h.c0

theorem own_zero {w : World} {B n : Nat} {v : Value} {xs : List Value} (o : w.ownsRow B 77 3 v n xs) : w.ownsRow 0 77 3 v n xs := by
  refine ⟨o.1, ?_⟩
  rcases o.2 with h1 | ⟨b, cap, cur, h1, h2, h3⟩
  · exact Or.inl h1
  · exact Or.inr ⟨b, cap, cur, h1, Nat.zero_le _, h3⟩
theorem F4.frm {F : Nat → Prop} {w x : World} {b : Nat} {c0 c1 c2 c3 : Value} (h : F4 w b c0 c1 c2 c3) (f : Frm F w x) (hn : ¬ F b) : F4 x b c0 c1 c2 c3 :=
  ⟨f.cell h.c0 hn, f.cell h.c1 hn, f.cell h.c2 hn, f.cell h.c3 hn, frz_frm f h.c0 hn h.f0, frz_frm f h.c1 hn h.f1, frz_frm f h.c2 hn h.f2, frz_frm f h.c3 hn h.f3⟩
theorem set4_frm (w : World) (d : Nat) (u0 u1 u2 u3 : Value) : Frm (fun k => k = d) w ((((w.setCell ⟨d, 0, none⟩ u0).setCell ⟨d, 1, none⟩ u1).setCell ⟨d, 2, none⟩ u2).setCell ⟨d, 3, none⟩ u3) :=
  (((frm_set (F := fun k => k = d) w ⟨d, 0, none⟩ u0 rfl).set ⟨d, 1, none⟩ u1 (Or.inl rfl)).set ⟨d, 2, none⟩ u2 (Or.inl rfl)).set ⟨d, 3, none⟩ u3 (Or.inl rfl)
theorem own_apart {x : World} {B n : Nat} {v : Value} {xs : List Value} (o : x.ownsRow B 77 3 v n xs) {C : Nat} {cs : Array Value} (hC : x.heap[C]? = some (.cells cs 64)) : v.ownBlock ≠ some C := fun e => by
  rcases o.2 with ⟨h1, _⟩ | ⟨g, cap, cur, h1, _, hg, _⟩
  · rw [h1] at e; cases e
  · rw [h1] at e
    have e : some g = some C := e
    injection e with e
    subst e
    rw [hg] at hC
    injection hC with hC
    injection hC with _ hC _
    cases hC
theorem RQ.made {x : World} {C : Nat} {a : Int} {n : Nat} {v : Value} {B : Nat} {L : List Wt} (h : F4 x C (.int .i64 a) (.int .i64 0) (.int .i64 0) v) (o : x.ownsRow B 77 3 v n (cw L)) (hn : L.length = n) (ne : v.ownBlock ≠ some C) (hb : n ≤ 10000) : RQ X0 x C a 0 0 v L :=
  ⟨h.c0, h.c1, h.c2, h.c3, h.f2, h.f3, by rw [hn]; exact own_zero o, ne, by rw [hn]; exact hb, fun _ _ hx => hx.elim⟩
/-- what List tells. -/
structure LD (a : Int) (L : List Wt) (w : World) (u : Value) (s : List Wt) (w' : World) : Prop where
  row : ∃ ao cap, u = .slice ao s.length cap ∧ Lies w' ao (cw s)
  perm : s.Perm L
  pw : s.Pairwise fun x y => les a y x = false
  gw : Grw w w'
set_option maxHeartbeats 20000000 in
set_option maxRecDepth 100000 in
theorem rlist_is {r : Nat} {a room count : Int} {v : Value} {L : List Wt} {w : World} (h : RQ X w r a room count v L) (hids : (L.map Wt.id).Nodup) :
    Calls Tryz.prog 49 #[.pointer (some ⟨r, 0, none⟩)] w fun e w' => ∃ u s, e = .returned u ∧ LD a L w u s w' := by
  obtain ⟨i0, hi, hz0, hz1, hz2⟩ := info_parts Tryz.info77
  obtain ⟨ao, cap, hv, hl⟩ := ownsRow_lies h.row
  subst hv
  obtain ⟨n, hn⟩ : ∃ n, L.length = n := ⟨_, rfl⟩
  have HN := Lib.hid hn
  have hbn : n ≤ 10000 := by have := h.len; omega
  have H := Lib.hid h
  have LI := Lib.hid hl
  have ID := Lib.hid hids
  have hz : ao = none → n = 0 ∧ cap = 0 := fun e => by
    subst e
    rcases h.row.2 with ⟨e1, e2⟩ | ⟨_, _, _, e1, _⟩
    · injection e1 with _ _ e4
      exact ⟨by rw [← hn]; exact e2, e4⟩
    · injection e1 with e1; cases e1
  have HZ := Lib.hid hz
  clear h hl hn hids hz
  go_enter Tryz.func49, Tryz.ntmps49
  go_upto_region 1 with fail
  go_cut [3] from 7 to 17 (fun s3 wx => ∃ C vv, s3 = .pointer (some ⟨C, 0, none⟩) ∧ RQ X0 wx C a 0 0 vv L ∧ Grw w wx ∧ w.heap.size ≤ C ∧ ∀ k, vv.ownBlock = some k → w.heap.size ≤ k)
  case first =>
    have SS : ∀ x, Grw w x → x.cell? ⟨r, 3, none⟩ = some (.slice ao n cap) ∧ x.cell? ⟨r, 0, none⟩ = some (.int .i64 a) := fun x g => ⟨by have := g.cell H.out.c3; rwa [HN.out] at this, g.cell H.out.c0⟩
    obtain ⟨Z, hZ⟩ : ∃ Z : Obj, Z = .cells #[.int .i64 0, .int .i64 0, .int .i64 0, .slice none 0 0] 64 := ⟨_, rfl⟩
    obtain ⟨E, hE⟩ : ∃ E : Obj, E = .cells #[] 77 := ⟨_, rfl⟩
    have GA : ∀ o, Grw w (w.drew.alloc o) := fun o => ((Grw.rfl' w).drew).alloc o
    have GB : ∀ o o', Grw w ((w.drew.alloc o).alloc o') := fun o o' => (GA o).alloc o'
    have oldb : ∀ o o' : Obj, ((w.drew.alloc o).alloc o').heap[w.heap.size]? = some o := fun o o' => (((Grw.rfl' (w.drew.alloc o)).alloc o').block (by rw [size_new]; exact Nat.lt_succ_self _)).trans (heap_alloc_new w.drew o)
    have newb : ∀ o o' : Obj, ((w.drew.alloc o).alloc o').heap[w.heap.size + 1]? = some o' := fun o o' => by
      have := heap_alloc_new (w.drew.alloc o) o'
      rw [size_new] at this
      exact this
    obtain ⟨v1, x1, r1, o1, f1⟩ := app_copy w.heap.size w.heap.size cap n ao L (w.drew.alloc E) (empty_row w _ w.heap.size (Nat.le_refl _) (by rw [hE]; exact heap_alloc_new w.drew _)) (LI.out.later (GA _)) HN.out HZ.out (by have := HN.out; omega) (Below.size (GA _))
    obtain ⟨v3, x3, r3, o3, f3⟩ := app_copy w.heap.size w.heap.size cap n ao L ((w.drew.alloc E).alloc Z) (empty_row w _ w.heap.size (Nat.le_refl _) (by rw [hE]; exact oldb _ _)) (LI.out.later (GB _ _)) HN.out HZ.out (by have := HN.out; omega) (Below.size (GB _ _))
    obtain ⟨v5, x5, r5, o5, f5⟩ := app_copy w.heap.size (w.heap.size + 1) cap n ao L ((w.drew.alloc Z).alloc E) (empty_row w _ (w.heap.size + 1) (by omega) (by rw [hE]; exact newb _ _)) (LI.out.later (GB _ _)) HN.out HZ.out (by have := HN.out; omega) (Below.size (GB _ _))
    have g1 : Grw w x1 := f1.grw (GA _) (fun k e => Nat.le_of_eq e.symm)
    have g3 : Grw w x3 := f3.grw (GB _ _) (fun k e => Nat.le_of_eq e.symm)
    have g5 : Grw w x5 := f5.grw (GB _ _) (fun k e => by omega)
    obtain ⟨a1, p1, rfl⟩ := own_or o1
    obtain ⟨a3, p3, rfl⟩ := own_or o3
    obtain ⟨a5, p5, rfl⟩ := own_or o5
    have z3 : F4 x3 (w.heap.size + 1) (.int .i64 0) (.int .i64 0) (.int .i64 0) (.slice none 0 0) := by
      rw [hZ] at f3
      exact (F4.two w.drew (.int .i64 0) (.int .i64 0) (.int .i64 0) (.slice none 0 0) 64 E).frm f3 (fun e => by have e : w.heap.size + 1 = w.heap.size := e; omega)
    have z5 : F4 x5 w.heap.size (.int .i64 0) (.int .i64 0) (.int .i64 0) (.slice none 0 0) := by
      rw [hZ] at f5
      exact (F4.old w.drew (.int .i64 0) (.int .i64 0) (.int .i64 0) (.slice none 0 0) 64 E).frm f5 (fun e => by have e : w.heap.size = w.heap.size + 1 := e; omega)
    have n3 : (Value.slice a3 n p3).ownBlock ≠ some (w.heap.size + 1) := own_apart o3 ((f3.block (w.heap.size + 1) (by rw [size_new, size_new]; show w.heap.size + 1 < w.heap.size + 1 + 1; omega) (fun e => by have e : w.heap.size + 1 = w.heap.size := e; omega)).trans (by rw [newb, hZ]))
    have n5 : (Value.slice a5 n p5).ownBlock ≠ some w.heap.size := own_apart o5 ((f5.block w.heap.size (by rw [size_new, size_new]; show w.heap.size < w.heap.size + 1 + 1; omega) (fun e => by have e : w.heap.size = w.heap.size + 1 := e; omega)).trans (by rw [oldb, hZ]))
    have n1 : (Value.slice a1 n p1).ownBlock ≠ some x1.heap.size := fun e => by have := (o1.lt _ e).2; omega
    have Q1 := Lib.hid (RQ.made (F4.one x1 (.int .i64 a) (.int .i64 0) (.int .i64 0) (.slice a1 n p1) 64) (o1.alloc _) HN.out n1 hbn)
    have s3 := set4_frm x3 (w.heap.size + 1) (.int .i64 a) (.int .i64 0) (.int .i64 0) (.slice a3 n p3)
    have s5 := set4_frm x5 w.heap.size (.int .i64 a) (.int .i64 0) (.int .i64 0) (.slice a5 n p5)
    have Q3 := Lib.hid (RQ.made (z3.set4 (.int .i64 a) (.int .i64 0) (.int .i64 0) (.slice a3 n p3)) (ownsRow_frm o3 s3 (fun k e c => n3 (by rw [e, c]))) HN.out n3 hbn)
    have Q5 := Lib.hid (RQ.made (z5.set4 (.int .i64 a) (.int .i64 0) (.int .i64 0) (.slice a5 n p5)) (ownsRow_frm o5 s5 (fun k e c => n5 (by rw [e, c]))) HN.out n5 hbn)
    have W1 := Lib.hid (And.intro (g1.alloc (.cells #[.int .i64 a, .int .i64 0, .int .i64 0, .slice a1 n p1] 64)) (And.intro (Below.size g1) (fun k e => (o1.lt k e).1)))
    have W3 := Lib.hid (And.intro (s3.grw g3 (fun k e => by rw [e]; exact Nat.le_succ _)) (And.intro (Nat.le_succ w.heap.size) (fun k e => (o3.lt k e).1)))
    have W5 := Lib.hid (And.intro (s5.grw g5 (fun k e => Nat.le_of_eq e.symm)) (And.intro (Nat.le_refl w.heap.size) (fun k e => (o5.lt k e).1)))
    have e0 := (SS w (Grw.rfl' w)).1
    have e1 := (SS w (Grw.rfl' w)).2
    have e2 := fun o => (SS _ ((Grw.rfl' w).alloc o)).1
    have e3 := fun o => (SS _ ((Grw.rfl' w).alloc o)).2
    have e4 := fun o o' => (SS _ (((Grw.rfl' w).alloc o).alloc o')).1
    have e5 := fun o o' => (SS _ (((Grw.rfl' w).alloc o).alloc o')).2
    have e6 := (SS _ g1).2
    have e7 := (SS _ g3).2
    have e8 := (SS _ g5).2
    have e9 := fun o => (SS _ (g1.alloc o)).2
    have t0 := z3.c0
    have t1 := z3.c1
    have t2 := z3.c2
    have t3 := z3.c3
    have t4 := z3.f0
    have t5 := z3.f1
    have t6 := z3.f2
    have t7 := z3.f3
    have k0 := z5.c0
    have k1 := z5.c1
    have k2 := z5.c2
    have k3 := z5.c3
    have k4 := z5.f0
    have k5 := z5.f1
    have k6 := z5.f2
    have k7 := z5.f3
    rw [hE] at r1
    rw [hE, hZ] at r3 r5
    replace r1 : (Builtin.append_ #[62, 62] 62 #[.slice (some ⟨w.heap.size, 0, none⟩) 0 0, .slice ao n cap]).run Tryz.prog (w.alloc (.cells #[] 77)).drew = .ok (.slice a1 n p1) x1 := r1
    replace r3 : (Builtin.append_ #[62, 62] 62 #[.slice (some ⟨w.heap.size, 0, none⟩) 0 0, .slice ao n cap]).run Tryz.prog ((w.alloc (.cells #[] 77)).alloc (.cells #[.int .i64 0, .int .i64 0, .int .i64 0, .slice none 0 0] 64)).drew = .ok (.slice a3 n p3) x3 := r3
    replace r5 : (Builtin.append_ #[62, 62] 62 #[.slice (some ⟨w.heap.size + 1, 0, none⟩) 0 0, .slice ao n cap]).run Tryz.prog ((w.alloc (.cells #[.int .i64 0, .int .i64 0, .int .i64 0, .slice none 0 0] 64)).alloc (.cells #[] 77)).drew = .ok (.slice a5 n p5) x5 := r5
    clear SS GA GB oldb newb o1 o3 o5 f1 f3 f5 g1 g3 g5 z3 z5 n1 n3 n5 s3 s5 hE hZ
    go_region_law (first | (refine step_append_run rfl (.tmp 11) (.tmp 15) 62 rfl _ _ (by simp [Act.eval, Act.put]) (by simp [Act.eval, Act.put]) r1 ?_) | (refine step_append_run rfl (.tmp 11) (.tmp 15) 62 rfl _ _ (by simp [Act.eval, Act.put]) (by simp [Act.eval, Act.put]) r3 ?_) | (refine step_append_run rfl (.tmp 11) (.tmp 15) 62 rfl _ _ (by simp [Act.eval, Act.put]) (by simp [Act.eval, Act.put]) r5 ?_))
    all_goals
      go_wp2_with fail
      go_meet
      case rel => first | exact ⟨_, _, rfl, Q1.out, W1.out⟩ | exact ⟨_, _, rfl, Q3.out, W3.out⟩ | exact ⟨_, _, rfl, Q5.out, W5.out⟩
  case rest =>
    obtain ⟨C, vv, rfl, rq0, g0, hC, hvv⟩ := hcut
    have R0 := Lib.hid rq0
    have G0 := Lib.hid g0
    have HC := Lib.hid hC
    have HV := Lib.hid hvv
    clear rq0 g0 hC hvv
    go_wp2_with fail
    go_loopw [4] (fun u4 wr => ∃ (M s : List Wt) (vM : Value), wr.ownsRow 0 77 3 u4 s.length (cw s) ∧ (∀ k, u4.ownBlock = some k → w.heap.size ≤ k ∧ k ≠ C ∧ vM.ownBlock ≠ some k) ∧ RQ X0 wr C a 0 (s.length : Nat) vM M ∧ (∀ k, vM.ownBlock = some k → w.heap.size ≤ k) ∧ (s ++ M).Perm L ∧ (s.Pairwise fun x y => les a y x = false) ∧ (∀ x ∈ s, ∀ y ∈ M, les a y x = false) ∧ Grw w wr ∧ u4 = .slice (match u4 with | .slice o _ _ => o | _ => none) s.length (match u4 with | .slice _ _ c => c | _ => 0)) (fun u4 _ => n - (match u4 with | .slice _ l _ => l | _ => 0))
    case atStart => exact ⟨L, [], vv, World.ownsRow_nil _ _ _ _, (fun k e => by cases e), R0.out, HV.out, List.Perm.refl _, .nil, (fun _ h => by cases h), G0.out, rfl⟩
    case round =>
      obtain ⟨M, s, vM, hown, hub, hrq, hvM, hperm, hpw, hcr, hg, hu4⟩ := hrel
      obtain ⟨au, pu, rfl⟩ := own_or hown
      clear hu4
      obtain ⟨am, pm, hvm, _⟩ := ownsRow_lies hrq.row
      subst hvm
      obtain ⟨m, hm⟩ : ∃ m, M.length = m := ⟨_, rfl⟩
      obtain ⟨z, hz⟩ : ∃ z, s.length = z := ⟨_, rfl⟩
      have hsum : z + m = n := by have := hperm.length_eq; rw [List.length_append, hz, hm, HN.out] at this; exact this
      have c3 := hrq.c3
      rw [hm] at c3
      rw [hz] at hown hub ⊢
      have OW := Lib.hid hown
      have UB := Lib.hid hub
      have RQH := Lib.hid hrq
      have VM := Lib.hid hvM
      have PE := Lib.hid (And.intro hperm (And.intro hpw hcr))
      have GG := Lib.hid hg
      have HM := Lib.hid (And.intro hm hz)
      have nodM : (M.map Wt.id).Nodup := by
        have h1 : ((s ++ M).map Wt.id).Nodup := ((hperm.map Wt.id).nodup_iff).2 ID.out
        rw [List.map_append] at h1
        exact (List.nodup_append.1 h1).2.1
      have ND := Lib.hid nodM
      clear hown hub hrq hvM hperm hpw hcr hg hm hz nodM
      by_cases hm0 : 0 < m
      · have d0 : decide (0 < (m : Int)) = true := by simp; omega
        have d0' : decide (0 < m) = true := by simp; omega
        obtain ⟨k, hf⟩ := fst_ex a M (by have := HM.out.1; omega) ND.out
        have TK := Lib.hid (rtake_some RQH.out hf ND.out (by omega) (by have := HM.out.2; omega))
        obtain ⟨x, hx⟩ : ∃ x, gt M k = x := ⟨_, rfl⟩
        have CR : Hid ((∀ y ∈ rem M k, les a y x = false) ∧ x ∈ M ∧ M.Perm (rem M k ++ [x])) := (⟨fun y hy => by
          obtain ⟨i, hi, e⟩ := List.mem_iff_getElem.1 (rem_mem hy)
          have := hf.no i hi
          rw [e] at this
          rw [← hx, gt_at hf.lt]
          exact this, by rw [← hx, gt_at hf.lt]; exact List.getElem_mem _, by rw [← hx]; exact rem_perm hf.lt⟩ : (∀ y ∈ rem M k, les a y x = false) ∧ x ∈ M ∧ M.Perm (rem M k ++ [x]))
        have HS := Lib.hid (show (s ++ [x]).length = z + 1 by rw [List.length_append, HM.out.2]; rfl)
        rw [hx] at TK
        clear hx hf
        obtain ⟨xi, xc, xm⟩ := x
        go_wp2_with fail
        refine TK.out.mono ?_
        rintro _ w2 ⟨rfl, v', rq, fr, hv⟩
        have hsz : wr.heap.size ≤ w2.heap.size := fr.size
        have OW2 := ownsRow_frm OW.out fr (fun k e c => (UB.out k e).2.1 c)
        have g2 : Grw w w2 := Frm.grw GG.out fr (fun k e => by rw [e]; exact HC.out)
        obtain ⟨w3, hw3⟩ : ∃ w3, w2.alloc (.cells #[.int .i64 xi, .int .i64 xc, .int .i64 xm] 77) = w3 := ⟨_, rfl⟩
        have b0 : w3.cell? ⟨w2.heap.size, 0, none⟩ = some (.int .i64 xi) := by rw [← hw3]; simp [go_sem]
        have b1 : w3.cell? ⟨w2.heap.size, 1, none⟩ = some (.int .i64 xc) := by rw [← hw3]; simp [go_sem]
        have b2 : w3.cell? ⟨w2.heap.size, 2, none⟩ = some (.int .i64 xm) := by rw [← hw3]; simp [go_sem]
        have gw3 : Grw w2 w3 := by rw [← hw3]; exact (Grw.rfl' w2).alloc _
        have gw4 := gw3.alloc (.cells #[.int .i64 xi, .int .i64 xc, .int .i64 xm] 77)
        have OW4 := Lib.hid (ownsRow_frm OW2 (gw4.frm (fun _ => False)) (fun _ _ e => e))
        have R4 := Lib.hid (rq.later gw4)
        have G4 := Lib.hid (g2.trans gw4)
        have D1 := Lib.hid (one_wt w3 ⟨xi, xc, xm⟩)
        have D2 := Lib.hid (cw_one [⟨xi, xc, xm⟩])
        have HV2 := Lib.hid (And.intro hv (And.intro hsz (And.intro (Below.size gw3) (And.intro (Below.size GG.out) (fun k e => (OW.out.lt k e).2)))))
        have hzn : z ≤ 10000 := by omega
        clear rq fr hv hsz OW2 g2 gw3 gw4 c3
        unfold wv
        go_wp2_with (at_builtin; refine wpList_append_mine _ rfl _ _ 62 rfl 77 i0 _ 3 24 Tryz.underlying62 hi hz0 hz1 hz2 rfl (by decide) _ _ _ rfl OW4.out ⟨w3.heap.size, 0, none⟩ 1 1 (cw [⟨xi, xc, xm⟩]) rfl rfl D1.out D2.out (by unfold maxLen; omega) (by omega) ?_)
        clear hw3 b0 b1 b2
        intro v5 w5 hrow hgb hob
        rw [← cw_app] at hrow
        have hCl := World.block_lt_of_cell? _ _ R4.out.c0
        simp only at hCl
        have R5 := Lib.hid (R4.out.keep (grownBy_frm hgb) (fun q hq e => by
          obtain ⟨u1, u2, u3⟩ := UB.out q e
          rcases hq with rfl | hq
          · exact u2 rfl
          · have h1 := HV2.out.1 q hq
            have h2 := HV2.out.2.2.2.2 q e
            omega))
        have G5 := Lib.hid (Frm.grw G4.out (grownBy_frm hgb) (fun q e => (UB.out q e).1))
        have U5 : Hid (∀ q, v5.ownBlock = some q → w.heap.size ≤ q ∧ q ≠ C ∧ v'.ownBlock ≠ some q) := (fun q e => by
          rcases hob with hob | hob
          · rw [hob] at e
            obtain ⟨u1, u2, u3⟩ := UB.out q e
            exact ⟨u1, u2, fun e2 => by have h1 := HV2.out.1 q e2; have h2 := HV2.out.2.2.2.2 q e; omega⟩
          · rw [hob] at e
            injection e with e
            subst e
            have h1 := Below.size G4.out
            rw [size_new] at h1 hCl
            exact ⟨h1, fun e => by rw [e] at hCl; exact Nat.lt_irrefl _ hCl, fun e2 => by have h3 := (R4.out.row.lt _ e2).2; rw [size_new] at h3; exact Nat.lt_irrefl _ h3⟩ : ∀ q, v5.ownBlock = some q → w.heap.size ≤ q ∧ q ≠ C ∧ v'.ownBlock ≠ some q)
        have OW5 := Lib.hid hrow
        clear hrow hgb hob hCl
        obtain ⟨a5, p5, rfl⟩ := own_or OW5.out
        go_wp2_with fail
        go_roundw
        case rel =>
          refine ⟨rem M k, s ++ [⟨xi, xc, xm⟩], v', by rw [HS.out]; exact OW5.out, U5.out, ?_, fun q e => Nat.le_trans HV2.out.2.2.2.1 (HV2.out.1 q e), ?_, ?_, ?_, G5.out, by rw [HS.out]⟩
          · have h1 := R5.out
            rw [show (((s ++ [⟨xi, xc, xm⟩] : List Wt).length : Nat) : Int) = (s.length : Int) + 1 by rw [HS.out, HM.out.2]; rfl]
            exact h1
          · refine List.Perm.trans ?_ PE.out.1
            rw [List.append_assoc]
            exact List.Perm.append_left _ ((List.perm_append_comm).trans CR.out.2.2.symm)
          · rw [List.pairwise_append]
            exact ⟨PE.out.2.1, List.pairwise_singleton _ _, fun y hy z hz => by rw [List.mem_singleton.1 hz]; exact PE.out.2.2 y hy _ CR.out.2.1⟩
          · intro y hy z hz
            rcases List.mem_append.1 hy with hy | hy
            · exact PE.out.2.2 y hy z (rem_mem hz)
            · rw [List.mem_singleton.1 hy]; exact CR.out.1 z hz
        case measure => simp only []; omega
      · have d0 : decide (0 < (m : Int)) = false := by simp; omega
        have d0' : decide (0 < m) = false := by simp; omega
        have hM : M = [] := List.eq_nil_of_length_eq_zero (by have := HM.out.1; omega)
        have ps := PE.out.1
        rw [hM, List.append_nil] at ps
        obtain ⟨au', pu', eu, lu⟩ := ownsRow_lies OW.out
        injection eu with eu1 _ eu3
        subst eu1 eu3
        have LU := Lib.hid lu
        have PS := Lib.hid ps
        clear hM ps lu
        go_wp2_with fail
        go_ret
        exact ⟨_, rfl, s, ⟨⟨au, pu, by rw [HM.out.2]; rfl, LU.out⟩, PS.out, PE.out.2.1, GG.out⟩⟩
end QQ
end Go.Proofs.YtlopijcpnfkcgaaGreat
