/- The law LeasePlays: both structures side by side. -/
import Derived.Test.YtoejmopppkjaoaaVf
import Derived.Test.YtoejmopppkjaoaaVc
import Derived.Test.YtoejmopppkjaoaaUc
import Derived.Test.YtoejmopppkjaoaaLb
import Derived.Deep.LoopGhost
import Derived.Deep.CutRange
import Derived.Deep.CutBlock
import Derived.Deep.DeepCutAuto
import Derived.Deep.RegionHeld3
namespace Go.Proofs.Ytoejmopppkjaoaa
open Go.RowKit
set_option linter.unusedSimpArgs false

/-- the document's table stands apart from the program's, and from what was there. -/
structure PSD (w0 : World) (p mb jb r : Nat) (v : Value) : Prop where
  nr : w0.heap.size ≤ r
  nv : ∀ k, v.ownBlock = some k → w0.heap.size ≤ k
  dr : ¬ tf p mb jb r
  dv : ∀ k, v.ownBlock = some k → ¬ tf p mb jb k
theorem PSD.rt {w0 w x : World} {p mb jb r last : Nat} {v : Value} {L : List Gr} (s : PSD w0 p mb jb r v) (h : RT w r last v L) (f : Frm (tf p mb jb) w x) : RT x r last v L :=
  h.keep f (fun k hk => by
    rcases hk with rfl | hk
    · exact s.dr
    · exact s.dv k hk)
theorem PSD.tm {w0 w x : World} {p mb jb r last : Nat} {v : Value} {L : List Gr} (s : PSD w0 p mb jb r v) (h : TM w0 w p mb jb last L) (f : Frm (fun k => k = r) w x) : TM w0 x p mb jb last L :=
  ⟨h.t.keep f (fun k hk e => s.dr (e ▸ hk)), Frm.grw h.g f (fun k e => by rw [e]; exact s.nr), h.new⟩
theorem PSD.turn {w0 w : World} {p mb jb r last : Nat} {v v' : Value} {L : List Gr} (s : PSD w0 p mb jb r v) (h : TM w0 w p mb jb last L) (hv : ∀ k, v'.ownBlock = some k → w.heap.size ≤ k) : PSD w0 p mb jb r v' :=
  ⟨s.nr, fun k hk => Nat.le_trans (Below.size h.g) (hv k hk), s.dr, fun k hk e => by have := hv k hk; have := h.t.lt k e; omega⟩
/-- three cells in block b, as they lie; the act that is played. -/
structure B3 (w : World) (b : Nat) (c0 c1 c2 : Value) : Prop where
  c0 : w.cell? ⟨b, 0, none⟩ = some c0
  c1 : w.cell? ⟨b, 1, none⟩ = some c1
  c2 : w.cell? ⟨b, 2, none⟩ = some c2
theorem B3.frm {F : Nat → Prop} {w x : World} {b : Nat} {c0 c1 c2 : Value} (h : B3 w b c0 c1 c2) (f : Frm F w x) (hn : ¬ F b) : B3 x b c0 c1 c2 := ⟨f.cell h.c0 hn, f.cell h.c1 hn, f.cell h.c2 hn⟩
theorem B3.later {w x : World} {b : Nat} {c0 c1 c2 : Value} (h : B3 w b c0 c1 c2) (g : Grw w x) : B3 x b c0 c1 c2 := ⟨g.cell h.c0, g.cell h.c1, g.cell h.c2⟩

/-- all that a round holds. -/
structure PST (w0 w : World) (p mb jb r last X : Nat) (v : Value) (L : List Gr) (a b c : Value) : Prop where
  tm : TM w0 w p mb jb last L
  rt : RT w r last v L
  sd : PSD w0 p mb jb r v
  bx : B3 w X a b c
  xr : X ≠ r
  xt : ¬ tf p mb jb X
  xv : ∀ k, v.ownBlock = some k → k ≠ X
theorem PST.later {w0 w y : World} {p mb jb r last X : Nat} {v : Value} {L : List Gr} {a b c : Value} (h : PST w0 w p mb jb r last X v L a b c) (g : Grw w y) : PST w0 y p mb jb r last X v L a b c :=
  ⟨h.tm.later g, h.rt.later g, h.sd, h.bx.later g, h.xr, h.xt, h.xv⟩
/-- the program's table has turned. -/
theorem PST.half {w0 w y : World} {p mb jb r last X : Nat} {v : Value} {L : List Gr} {a b c : Value} (h : PST w0 w p mb jb r last X v L a b c) (f : Frm (tf p mb jb) w y) : RT y r last v L ∧ B3 y X a b c :=
  ⟨h.sd.rt h.rt f, h.bx.frm f h.xt⟩
/-- both have. -/
theorem PST.both {w0 w y z : World} {p mb jb r last last' X : Nat} {v v' : Value} {L L' : List Gr} {a b c : Value} (h : PST w0 w p mb jb r last X v L a b c) (t : TM w0 y p mb jb last' L') (f : Frm (tf p mb jb) w y) (q : RT z r last' v' L') (g : Frm (fun k => k = r) y z)
    (hv : ∀ k, v'.ownBlock = some k → y.heap.size ≤ k) : PST w0 z p mb jb r last' X v' L' a b c := by
  have x1 := h.bx.frm f h.xt
  have hX := World.block_lt_of_cell? _ _ x1.c0
  simp only at hX
  exact ⟨h.sd.tm t g, q, h.sd.turn t hv, x1.frm g h.xr, h.xr, h.xt, fun k e => by have := hv k e; omega⟩
/-- the document's table has turned first. -/
theorem PST.both' {w0 w y z : World} {p mb jb r last last' X : Nat} {v v' : Value} {L L' : List Gr} {a b c : Value} (h : PST w0 w p mb jb r last X v L a b c) (q : RT y r last' v' L') (g : Frm (fun k => k = r) w y)
    (hv : ∀ k, v'.ownBlock = some k → w.heap.size ≤ k) (t : TM w0 z p mb jb last' L') (f : Frm (tf p mb jb) y z) : PST w0 z p mb jb r last' X v' L' a b c := by
  have hX := World.block_lt_of_cell? _ _ h.bx.c0
  simp only at hX
  have s' := h.sd.turn h.tm hv
  exact ⟨t, s'.rt q f, s', (h.bx.frm g h.xr).frm f h.xt, h.xr, h.xt, fun k e => by have := hv k e; omega⟩
/-- dropped: the same, said in two ways. -/
theorem off_dr {last : Nat} {L : List Gr} (h : Ok last L) {x : Int} {g : Gr} (hg : byN L x = some g) : off [g] L = dr x L := by
  obtain ⟨h1, h2⟩ := byN_some hg
  rw [off_n h h1, h2]
  rfl
theorem dr_none {L : List Gr} {x : Int} (h : byN L x = none) : dr x L = L := by
  unfold dr
  rw [List.filter_eq_self]
  intro g hg
  have := byN_none h g hg
  simp [this]
/-- four cells. -/
structure B4 (w : World) (b : Nat) (c0 c1 c2 c3 : Value) : Prop where
  c0 : w.cell? ⟨b, 0, none⟩ = some c0
  c1 : w.cell? ⟨b, 1, none⟩ = some c1
  c2 : w.cell? ⟨b, 2, none⟩ = some c2
  c3 : w.cell? ⟨b, 3, none⟩ = some c3
theorem B4.later {w x : World} {b : Nat} {c0 c1 c2 c3 : Value} (h : B4 w b c0 c1 c2 c3) (g : Grw w x) : B4 x b c0 c1 c2 c3 := ⟨g.cell h.c0, g.cell h.c1, g.cell h.c2, g.cell h.c3⟩

theorem Grw.of_drew {w x : World} (h : Grw w.drew x) : Grw w x := ((Grw.rfl' w).drew).trans h
/-- four cells of a block that is one's own: as they lie, and to be written. -/
structure F4 (w : World) (b : Nat) (c0 c1 c2 c3 : Value) : Prop where
  c0 : w.cell? ⟨b, 0, none⟩ = some c0
  c1 : w.cell? ⟨b, 1, none⟩ = some c1
  c2 : w.cell? ⟨b, 2, none⟩ = some c2
  c3 : w.cell? ⟨b, 3, none⟩ = some c3
  f0 : w.frozen? ⟨b, 0, none⟩ = false
  f1 : w.frozen? ⟨b, 1, none⟩ = false
  f2 : w.frozen? ⟨b, 2, none⟩ = false
  f3 : w.frozen? ⟨b, 3, none⟩ = false
theorem F4.one (w : World) (c0 c1 c2 c3 : Value) (T : TypeId) : F4 (w.alloc (.cells #[c0, c1, c2, c3] T)) w.heap.size c0 c1 c2 c3 :=
  ⟨by simp [go_sem], by simp [go_sem], by simp [go_sem], by simp [go_sem], by simp [go_sem], by simp [go_sem], by simp [go_sem], by simp [go_sem]⟩
theorem F4.one' (w : World) (b : Nat) (hb : w.heap.size = b) (c0 c1 c2 c3 : Value) (T : TypeId) : F4 (w.alloc (.cells #[c0, c1, c2, c3] T)) b c0 c1 c2 c3 := by
  subst hb
  exact F4.one w c0 c1 c2 c3 T
theorem F4.lat {w x : World} {b : Nat} {c0 c1 c2 c3 : Value} (h : F4 w b c0 c1 c2 c3) (g : Grw w x) : F4 x b c0 c1 c2 c3 := by
  have hb : b < w.heap.size := World.block_lt_of_cell? _ _ h.c0
  exact ⟨g.cell h.c0, g.cell h.c1, g.cell h.c2, g.cell h.c3, by rw [Below.frozen g (p := ⟨b, 0, none⟩) hb]; exact h.f0, by rw [Below.frozen g (p := ⟨b, 1, none⟩) hb]; exact h.f1, by rw [Below.frozen g (p := ⟨b, 2, none⟩) hb]; exact h.f2, by rw [Below.frozen g (p := ⟨b, 3, none⟩) hb]; exact h.f3⟩
theorem F4.old (w : World) (c0 c1 c2 c3 : Value) (T : TypeId) (o : Obj) : F4 ((w.alloc (.cells #[c0, c1, c2, c3] T)).alloc o) w.heap.size c0 c1 c2 c3 := (F4.one w c0 c1 c2 c3 T).lat ((Grw.rfl' _).alloc _)
theorem F4.two (w : World) (c0 c1 c2 c3 : Value) (T : TypeId) (o : Obj) : F4 ((w.alloc o).alloc (.cells #[c0, c1, c2, c3] T)) (w.heap.size + 1) c0 c1 c2 c3 := by
  have := F4.one (w.alloc o) c0 c1 c2 c3 T
  rwa [size_new] at this
theorem F4.al {x : World} {b : Nat} {c0 c1 c2 c3 : Value} (h : F4 x b c0 c1 c2 c3) (o : Obj) : F4 (x.alloc o) b c0 c1 c2 c3 := h.lat ((Grw.rfl' _).alloc _)
theorem F4.set4 {w : World} {b : Nat} {c0 c1 c2 c3 : Value} (h : F4 w b c0 c1 c2 c3) (u0 u1 u2 u3 : Value) : F4 ((((w.setCell ⟨b, 0, none⟩ u0).setCell ⟨b, 1, none⟩ u1).setCell ⟨b, 2, none⟩ u2).setCell ⟨b, 3, none⟩ u3) b u0 u1 u2 u3 :=
  ⟨by simp [go_sem, h.c0, h.c1, h.c2, h.c3], by simp [go_sem, h.c0, h.c1, h.c2, h.c3], by simp [go_sem, h.c0, h.c1, h.c2, h.c3], by simp [go_sem, h.c0, h.c1, h.c2, h.c3], by simp [go_sem, h.f0], by simp [go_sem, h.f1], by simp [go_sem, h.f2], by simp [go_sem, h.f3]⟩
theorem F4.off {w : World} {b d : Nat} {c0 c1 c2 c3 : Value} (h : F4 w b c0 c1 c2 c3) (hne : b ≠ d) (u0 u1 u2 u3 : Value) : F4 ((((w.setCell ⟨d, 0, none⟩ u0).setCell ⟨d, 1, none⟩ u1).setCell ⟨d, 2, none⟩ u2).setCell ⟨d, 3, none⟩ u3) b c0 c1 c2 c3 := by
  have f : Frm (fun k => k = d) w ((((w.setCell ⟨d, 0, none⟩ u0).setCell ⟨d, 1, none⟩ u1).setCell ⟨d, 2, none⟩ u2).setCell ⟨d, 3, none⟩ u3) :=
    (((frm_set (F := fun k => k = d) w ⟨d, 0, none⟩ u0 rfl).set ⟨d, 1, none⟩ u1 (Or.inl rfl)).set ⟨d, 2, none⟩ u2 (Or.inl rfl)).set ⟨d, 3, none⟩ u3 (Or.inl rfl)
  exact ⟨f.cell h.c0 hne, f.cell h.c1 hne, f.cell h.c2 hne, f.cell h.c3 hne, by simp [go_sem, h.f0], by simp [go_sem, h.f1], by simp [go_sem, h.f2], by simp [go_sem, h.f3]⟩
theorem F4.lt {w : World} {b : Nat} {c0 c1 c2 c3 : Value} (h : F4 w b c0 c1 c2 c3) : b < w.heap.size := World.block_lt_of_cell? _ _ h.c0
/-- four cells of one's own, whatever they hold. -/
def Has (w : World) (b : Nat) : Prop := ∃ c0 c1 c2 c3, F4 w b c0 c1 c2 c3
theorem Has.of {w : World} {b : Nat} {c0 c1 c2 c3 : Value} (h : F4 w b c0 c1 c2 c3) : Has w b := ⟨_, _, _, _, h⟩
theorem Has.off {w : World} {b d : Nat} (h : Has w b) (hne : b ≠ d) (u0 u1 u2 u3 : Value) : Has ((((w.setCell ⟨d, 0, none⟩ u0).setCell ⟨d, 1, none⟩ u1).setCell ⟨d, 2, none⟩ u2).setCell ⟨d, 3, none⟩ u3) b := by
  obtain ⟨_, _, _, _, h⟩ := h
  exact Has.of (h.off hne u0 u1 u2 u3)
theorem Has.set4 {w : World} {b : Nat} (h : Has w b) (u0 u1 u2 u3 : Value) : F4 ((((w.setCell ⟨b, 0, none⟩ u0).setCell ⟨b, 1, none⟩ u1).setCell ⟨b, 2, none⟩ u2).setCell ⟨b, 3, none⟩ u3) b u0 u1 u2 u3 := by
  obtain ⟨_, _, _, _, h⟩ := h
  exact h.set4 u0 u1 u2 u3
theorem F4.b4 {w : World} {b : Nat} {c0 c1 c2 c3 : Value} (h : F4 w b c0 c1 c2 c3) : B4 w b c0 c1 c2 c3 := ⟨h.c0, h.c1, h.c2, h.c3⟩
theorem F4.all {x : World} {b : Nat} {c0 c1 c2 c3 : Value} (h : F4 x b c0 c1 c2 c3) : (∀ o, (x.alloc o).cell? ⟨b, 0, none⟩ = some c0) ∧ (∀ o, (x.alloc o).cell? ⟨b, 1, none⟩ = some c1) ∧ (∀ o, (x.alloc o).cell? ⟨b, 2, none⟩ = some c2) ∧ (∀ o, (x.alloc o).cell? ⟨b, 3, none⟩ = some c3) ∧
    (∀ o, (x.alloc o).frozen? ⟨b, 0, none⟩ = false) ∧ (∀ o, (x.alloc o).frozen? ⟨b, 1, none⟩ = false) ∧ (∀ o, (x.alloc o).frozen? ⟨b, 2, none⟩ = false) ∧ (∀ o, (x.alloc o).frozen? ⟨b, 3, none⟩ = false) :=
  ⟨fun o => (h.al o).c0, fun o => (h.al o).c1, fun o => (h.al o).c2, fun o => (h.al o).c3, fun o => (h.al o).f0, fun o => (h.al o).f1, fun o => (h.al o).f2, fun o => (h.al o).f3⟩
theorem F4.all2 {x : World} {b : Nat} {c0 c1 c2 c3 : Value} (h : F4 x b c0 c1 c2 c3) : (∀ o o', ((x.alloc o).alloc o').cell? ⟨b, 0, none⟩ = some c0) ∧ (∀ o o', ((x.alloc o).alloc o').cell? ⟨b, 1, none⟩ = some c1) ∧ (∀ o o', ((x.alloc o).alloc o').cell? ⟨b, 2, none⟩ = some c2) ∧ (∀ o o', ((x.alloc o).alloc o').cell? ⟨b, 3, none⟩ = some c3) ∧
    (∀ o o', ((x.alloc o).alloc o').frozen? ⟨b, 0, none⟩ = false) ∧ (∀ o o', ((x.alloc o).alloc o').frozen? ⟨b, 1, none⟩ = false) ∧ (∀ o o', ((x.alloc o).alloc o').frozen? ⟨b, 2, none⟩ = false) ∧ (∀ o o', ((x.alloc o).alloc o').frozen? ⟨b, 3, none⟩ = false) :=
  ⟨fun o o' => ((h.al o).al o').c0, fun o o' => ((h.al o).al o').c1, fun o o' => ((h.al o).al o').c2, fun o o' => ((h.al o).al o').c3, fun o o' => ((h.al o).al o').f0, fun o o' => ((h.al o).al o').f1, fun o o' => ((h.al o).al o').f2, fun o o' => ((h.al o).al o').f3⟩

set_option maxHeartbeats 8000000 in
set_option maxRecDepth 100000 in
theorem plays_walk (ao : Option Addr) (cap : Nat) (acts : List Gr) (w : World) (hl : Lies w ao (cg acts)) (hw : ∀ x ∈ acts, Wi x.n ∧ Wi x.j ∧ x.u < 18446744073709551616) (hm : acts.length ≤ 9223372036854775807) :
    Calls Try.prog 3 #[.slice ao acts.length cap] w fun e w' => e = .returned (.bool true) ∧ Grw w w' := by
  have LI := Lib.hid hl
  have WI := Lib.hid hw
  have WK := Lib.hid (fun w => wakes_any w)
  obtain ⟨n, hn⟩ : ∃ n, acts.length = n := ⟨_, rfl⟩
  rw [hn] at hm ⊢
  have HN := Lib.hid hn
  clear hl hw hn
  go_enter Try.func3, Try.ntmps3
  go_wp2_with fail
  refine (m_new w w (Grw.rfl' w)).mono ?_
  rintro _ w1 ⟨p, mb, jb, rfl, m1⟩
  obtain ⟨r, hr⟩ : ∃ r, w1.heap.size = r := ⟨_, rfl⟩
  have M1 := Lib.hid (m1.later ((Grw.rfl' w1).alloc (.cells #[.slice none 0 0, .int .i64 0] 28)))
  have R1 : Hid (RT (w1.alloc (.cells #[.slice none 0 0, .int .i64 0] 28)) r 0 (.slice none 0 0) []) := (by
    rw [← hr]
    exact ⟨by simp [go_sem], by simp [go_sem], by simp [go_sem], by simp [go_sem], World.ownsRow_nil _ _ _ _, (fun e => by cases e), by simp⟩ : RT (w1.alloc (.cells #[.slice none 0 0, .int .i64 0] 28)) r 0 (.slice none 0 0) [])
  have S1 : Hid (PSD w p mb jb r (.slice none 0 0)) := (⟨by rw [← hr]; exact Below.size m1.g, (fun k e => by cases e), (fun e => by have := m1.t.lt r e; omega), (fun k e => by cases e)⟩ : PSD w p mb jb r (.slice none 0 0))
  clear m1
  go_wp2_with fail
  clear hr
  go_loopw [5] (fun u5 wr => ∃ (i last : Nat) (v : Value) (L : List Gr), i ≤ n ∧ i ≤ 60 ∧ last ≤ i ∧ u5 = .int .i64 (i : Nat) ∧ TM w wr p mb jb last L ∧ RT wr r last v L ∧ PSD w p mb jb r v) (fun u5 _ => n - (intOf u5).toNat)
  case atStart => exact ⟨0, 0, _, [], Nat.zero_le _, Nat.zero_le _, Nat.zero_le _, rfl, M1.out, R1.out, S1.out⟩
  case round =>
    obtain ⟨i, last, v, L, hin, hi60, hli, rfl, hT, hR, hS⟩ := hrel
    have T := Lib.hid hT
    have R := Lib.hid hR
    have S := Lib.hid hS
    clear hT hR hS
    by_cases ci : i < n
    · have d1 : decide ((i : Int) < (n : Int)) = true := by simp; omega
      by_cases c60 : i < 60
      · have d2 : decide ((i : Int) < 60) = true := by simp; omega
        have hkl : i < acts.length := by rw [HN.out]; exact ci
        have hki : (i : Int) < (n : Int) := by omega
        obtain ⟨b, o, rfl, e0, e1, e2⟩ := glies_at (LI.out.later T.out.g) hkl
        have WA := Lib.hid (WI.out acts[i] (List.getElem_mem hkl))
        obtain ⟨x, hx⟩ : ∃ x, acts[i] = x := ⟨_, rfl⟩
        rw [hx] at e0 e1 e2 WA
        obtain ⟨xd, xj, xu⟩ := x
        simp only at e0 e1 e2 WA
        have q6 : IntKind.i64.wrap ((i : Int) + 1) = ((i + 1 : Nat) : Int) := by simp [IntKind.wrap_i64]; omega
        obtain ⟨X, hX⟩ : ∃ X, wr.heap.size = X := ⟨_, rfl⟩
        obtain ⟨w2, hw2⟩ : ∃ w2, wr.alloc (.cells #[.int .i64 xd, .int .i64 xj, .int .u64 (xu : Nat)] 31) = w2 := ⟨_, rfl⟩
        have ST2 : Hid (PST w w2 p mb jb r last X v L (.int .i64 xd) (.int .i64 xj) (.int .u64 (xu : Nat))) := (by
          have g : Grw wr w2 := by rw [← hw2]; exact (Grw.rfl' wr).alloc _
          have hrl := World.block_lt_of_cell? _ _ R.out.c0
          simp only at hrl
          exact ⟨T.out.later g, R.out.later g, S.out, by rw [← hX, ← hw2]; exact ⟨by simp [go_sem], by simp [go_sem], by simp [go_sem]⟩, by omega, fun e => by have := T.out.t.lt X e; omega, fun k e => by have := (R.out.row.lt k e).2; omega⟩ : PST w w2 p mb jb r last X v L (.int .i64 xd) (.int .i64 xj) (.int .u64 (xu : Nat)))
        have x0 := ST2.out.bx.c0
        obtain ⟨q, hq⟩ : ∃ q : Int, xd % 6 = q := ⟨_, rfl⟩
        have q0 := Int.emod_nonneg xd (show (6 : Int) ≠ 0 by decide)
        have q1 := Int.emod_lt_of_pos xd (show (0 : Int) < 6 by decide)
        rw [hq] at q0 q1
        have MO : Hid (∀ w, Calls Try.prog 9 #[.int .i64 xd, .int .i64 6] w fun e w' => e = .returned (.int .i64 q) ∧ w = w') := (fun w => by have := mod_any xd 6 w (by decide) (by decide); rw [show ((6 : Nat) : Int) = 6 from rfl, hq] at this; exact this : ∀ w, Calls Try.prog 9 #[.int .i64 xd, .int .i64 6] w fun e w' => e = .returned (.int .i64 q) ∧ w = w')
        have HL := Lib.hid (And.intro hli (And.intro hi60 hin))
        clear hx hq hkl T R S hli hi60 hin
        go_upto_block 2 with (with_reducible refine (MO.out _).mono ?_; rintro _ _ ⟨rfl, rfl⟩)
        clear hw2 hX
        go_cut [] from 25 to 172 (fun wx => ∃ last' v' L', PST w wx p mb jb r last' X v' L' (.int .i64 xd) (.int .i64 xj) (.int .u64 (xu : Nat)) ∧ last' ≤ i + 1)
        case first =>
          have x1 := ST2.out.bx.c1
          have x2 := ST2.out.bx.c2
          obtain ⟨m, hm'⟩ : ∃ m, last + 1 = m := ⟨_, rfl⟩
          rcases (show q = 0 ∨ q = 1 ∨ q = 2 ∨ q = 3 ∨ q = 4 ∨ q = 5 by omega) with rfl | rfl | rfl | rfl | rfl | rfl
          · as_aux_lemma =>
            rcases hb : byJ L xj with _ | g
            · have MG := Lib.hid (m_grant ST2.out.tm xj xu m hm' WA.out.2.1 WA.out.2.2 hb (by have := HL.out; omega))
              go_wp2_with fail
              refine MG.out.mono ?_
              rintro _ y ⟨rfl, ty, fy⟩
              obtain ⟨ry, by'⟩ := ST2.out.half fy
              have c1 := by'.c1
              have c2 := by'.c2
              have RG := Lib.hid (rgrant_yes ry xj xu m hm' hb (by have := HL.out; omega) (by have := ST2.out.tm.t.ok.len; have := HL.out; omega))
              have TY := Lib.hid (And.intro ty fy)
              clear ty fy ry by' x1 x2
              go_wp2_with fail
              refine RG.out.mono ?_
              rintro _ z ⟨rfl, v', rz, fz, hv⟩
              have SZ := Lib.hid (ST2.out.both TY.out.1 TY.out.2 rz fz hv)
              clear rz fz hv c1 c2
              go_wp2_with fail
              go_meet
              case rel => exact ⟨m, v', _, SZ.out, by have := HL.out; omega⟩
            · have hs : (byJ L xj).isSome = true := by rw [hb]; rfl
              have MG := Lib.hid (grant_twice ST2.out.tm.t xj xu WA.out.2.1 hs)
              have RG := Lib.hid (rgrant_twice ST2.out.rt xj xu hs)
              clear hs
              go_wp2_with fail
              refine MG.out.mono ?_
              rintro _ _ ⟨rfl, rfl⟩
              go_wp2_with fail
              refine RG.out.mono ?_
              rintro _ z ⟨rfl, fz⟩
              have SZ := Lib.hid (ST2.out.later fz)
              clear fz x1 x2
              go_wp2_with fail
              go_meet
              case rel => exact ⟨last, v, L, SZ.out, by have := HL.out; omega⟩
          · as_aux_lemma =>
            rcases hb : byJ L xj with _ | g
            · have MG := Lib.hid (m_grant ST2.out.tm xj xu m hm' WA.out.2.1 WA.out.2.2 hb (by have := HL.out; omega))
              go_wp2_with fail
              refine MG.out.mono ?_
              rintro _ y ⟨rfl, ty, fy⟩
              obtain ⟨ry, by'⟩ := ST2.out.half fy
              have c1 := by'.c1
              have c2 := by'.c2
              have RG := Lib.hid (rgrant_yes ry xj xu m hm' hb (by have := HL.out; omega) (by have := ST2.out.tm.t.ok.len; have := HL.out; omega))
              have TY := Lib.hid (And.intro ty fy)
              clear ty fy ry by' x1 x2
              go_wp2_with fail
              refine RG.out.mono ?_
              rintro _ z ⟨rfl, v', rz, fz, hv⟩
              have SZ := Lib.hid (ST2.out.both TY.out.1 TY.out.2 rz fz hv)
              clear rz fz hv c1 c2
              go_wp2_with fail
              go_meet
              case rel => exact ⟨m, v', _, SZ.out, by have := HL.out; omega⟩
            · have hs : (byJ L xj).isSome = true := by rw [hb]; rfl
              have MG := Lib.hid (grant_twice ST2.out.tm.t xj xu WA.out.2.1 hs)
              have RG := Lib.hid (rgrant_twice ST2.out.rt xj xu hs)
              clear hs
              go_wp2_with fail
              refine MG.out.mono ?_
              rintro _ _ ⟨rfl, rfl⟩
              go_wp2_with fail
              refine RG.out.mono ?_
              rintro _ z ⟨rfl, fz⟩
              have SZ := Lib.hid (ST2.out.later fz)
              clear fz x1 x2
              go_wp2_with fail
              go_meet
              case rel => exact ⟨last, v, L, SZ.out, by have := HL.out; omega⟩
          · as_aux_lemma =>
            rcases hb : byJ L xj with _ | g
            · have MG := Lib.hid (m_grant ST2.out.tm xj xu m hm' WA.out.2.1 WA.out.2.2 hb (by have := HL.out; omega))
              go_wp2_with fail
              refine MG.out.mono ?_
              rintro _ y ⟨rfl, ty, fy⟩
              obtain ⟨ry, by'⟩ := ST2.out.half fy
              have c1 := by'.c1
              have c2 := by'.c2
              have RG := Lib.hid (rgrant_yes ry xj xu m hm' hb (by have := HL.out; omega) (by have := ST2.out.tm.t.ok.len; have := HL.out; omega))
              have TY := Lib.hid (And.intro ty fy)
              clear ty fy ry by' x1 x2
              go_wp2_with fail
              refine RG.out.mono ?_
              rintro _ z ⟨rfl, v', rz, fz, hv⟩
              have SZ := Lib.hid (ST2.out.both TY.out.1 TY.out.2 rz fz hv)
              clear rz fz hv c1 c2
              go_wp2_with fail
              go_meet
              case rel => exact ⟨m, v', _, SZ.out, by have := HL.out; omega⟩
            · have hs : (byJ L xj).isSome = true := by rw [hb]; rfl
              have MG := Lib.hid (grant_twice ST2.out.tm.t xj xu WA.out.2.1 hs)
              have RG := Lib.hid (rgrant_twice ST2.out.rt xj xu hs)
              clear hs
              go_wp2_with fail
              refine MG.out.mono ?_
              rintro _ _ ⟨rfl, rfl⟩
              go_wp2_with fail
              refine RG.out.mono ?_
              rintro _ z ⟨rfl, fz⟩
              have SZ := Lib.hid (ST2.out.later fz)
              clear fz x1 x2
              go_wp2_with fail
              go_meet
              case rel => exact ⟨last, v, L, SZ.out, by have := HL.out; omega⟩
          · as_aux_lemma =>
            rcases hb : byN L xj with _ | g
            · have MG := Lib.hid (drop_no ST2.out.tm.t xj WA.out.2.1 hb)
              go_wp2_with fail
              refine MG.out.mono ?_
              rintro _ y ⟨rfl, gy⟩
              have SY := Lib.hid (ST2.out.later gy)
              have RG := Lib.hid (rdrop_is SY.out.rt xj)
              rw [hb, dr_none hb] at RG
              have c1 := SY.out.bx.c1
              clear gy x1 x2
              go_wp2_with fail
              refine RG.out.mono ?_
              rintro _ z ⟨rfl, v', rz, fz, hv⟩
              have SZ := Lib.hid (SY.out.both SY.out.tm ((Grw.rfl' y).frm _) rz fz hv)
              clear rz fz hv c1
              unfold fv
              go_wp2_with fail
              go_meet
              case rel => exact ⟨last, v', L, SZ.out.later ((Grw.rfl' z).alloc _), by have := HL.out; omega⟩
            · have MG := Lib.hid (m_drop ST2.out.tm xj WA.out.2.1 hb)
              go_wp2_with fail
              refine MG.out.mono ?_
              rintro _ y ⟨rfl, ty, fy⟩
              obtain ⟨ry, by'⟩ := ST2.out.half fy
              have c1 := by'.c1
              have RG := Lib.hid (rdrop_is ry xj)
              rw [hb, ← off_dr ST2.out.tm.t.ok hb] at RG
              have TY := Lib.hid (And.intro ty fy)
              clear ty fy ry by' x1 x2
              go_wp2_with fail
              refine RG.out.mono ?_
              rintro _ z ⟨rfl, v', rz, fz, hv⟩
              have SZ := Lib.hid (ST2.out.both TY.out.1 TY.out.2 rz fz hv)
              clear rz fz hv c1
              unfold fv
              go_wp2_with fail
              go_meet
              case rel => exact ⟨last, v', _, SZ.out.later ((Grw.rfl' z).alloc _), by have := HL.out; omega⟩
          · as_aux_lemma =>
            have OKL := Lib.hid ST2.out.tm.t.ok
            obtain ⟨os, hos⟩ : ∃ os, ov xu L = os := ⟨_, rfl⟩
            obtain ⟨ls, hls⟩ : ∃ ls, lf xu L = ls := ⟨_, rfl⟩
            have OL : Hid (os.length ≤ 1000000) := (by have h1 := ov_len xu L; have h2 := OKL.out.len; have h3 := HL.out; rw [hos] at h1; omega : os.length ≤ 1000000)
            have A15 : Hid (∀ u, Grw w2 u → Calls Try.prog 15 #[.pointer (some ⟨p, 0, none⟩), .int .u64 (xu : Nat)] u fun e w' => ∃ v, e = .returned v ∧ Told u w' v os ∧ TM w w' p mb jb last ls ∧ Frm (tf p mb jb) u w') := (fun u g => by rw [← hos, ← hls]; exact m_over (ST2.out.later g).tm xu : ∀ u, Grw w2 u → Calls Try.prog 15 #[.pointer (some ⟨p, 0, none⟩), .int .u64 (xu : Nat)] u fun e w' => ∃ v, e = .returned v ∧ Told u w' v os ∧ TM w w' p mb jb last ls ∧ Frm (tf p mb jb) u w')
            have A15' : Hid (∀ u, TM w u p mb jb last L → Calls Try.prog 15 #[.pointer (some ⟨p, 0, none⟩), .int .u64 (xu : Nat)] u fun e w' => ∃ v, e = .returned v ∧ Told u w' v os ∧ TM w w' p mb jb last ls ∧ Frm (tf p mb jb) u w') := (fun u g => by rw [← hos, ← hls]; exact m_over g xu : ∀ u, TM w u p mb jb last L → Calls Try.prog 15 #[.pointer (some ⟨p, 0, none⟩), .int .u64 (xu : Nat)] u fun e w' => ∃ v, e = .returned v ∧ Told u w' v os ∧ TM w w' p mb jb last ls ∧ Frm (tf p mb jb) u w')
            have A16 : Hid (∀ u, RT u r last v L → Calls Try.prog 16 #[.pointer (some ⟨r, 0, none⟩), .int .u64 (xu : Nat)] u fun e w' => ∃ ao cap, e = .returned (.slice ao os.length cap) ∧ Lies w' ao (cg os) ∧ (∀ a, ao = some a → u.heap.size ≤ a.block) ∧ ∃ v', RT w' r last v' ls ∧ Frm (fun k => k = r) u w' ∧ (∀ k, v'.ownBlock = some k → u.heap.size ≤ k)) := (fun u g => by rw [← hos, ← hls]; exact rover_is g OKL.out xu : ∀ u, RT u r last v L → Calls Try.prog 16 #[.pointer (some ⟨r, 0, none⟩), .int .u64 (xu : Nat)] u fun e w' => ∃ ao cap, e = .returned (.slice ao os.length cap) ∧ Lies w' ao (cg os) ∧ (∀ a, ao = some a → u.heap.size ≤ a.block) ∧ ∃ v', RT w' r last v' ls ∧ Frm (fun k => k = r) u w' ∧ (∀ k, v'.ownBlock = some k → u.heap.size ≤ k))
            have HR : Hid (∀ u, Grw w2 u → r < u.heap.size ∧ ∀ k, tf p mb jb k → k < u.heap.size) := (fun u g => ⟨World.block_lt_of_cell? _ _ (ST2.out.later g).rt.c0, (ST2.out.later g).tm.t.lt⟩ : ∀ u, Grw w2 u → r < u.heap.size ∧ ∀ k, tf p mb jb k → k < u.heap.size)
            have SS : Hid (∀ u, Grw w2 u → u.cell? ⟨X, 2, none⟩ = some (.int .u64 (xu : Nat))) := (fun u g => g.cell x2 : ∀ u, Grw w2 u → u.cell? ⟨X, 2, none⟩ = some (.int .u64 (xu : Nat)))
            have GD : Grw w2 w2.drew := (Grw.rfl' w2).drew
            have SD := Lib.hid (ST2.out.later GD)
            clear hos hls
            go_wp2_with fail
            go_region_held3 (fun u => u.cell? ⟨X, 2, none⟩ = some (.int .u64 (xu : Nat)))
              ((first | with_reducible assumption | (refine SS.out _ ?_; exact GD)))
              (first
                | (go_at_call 15; first
                    | (refine (A15'.out _ tz).mono ?_; rintro _ y ⟨v5, rfl, ⟨ao5, cap5, rfl, l5, b5⟩, ty, fy⟩; have sf := SD.out.both' rz fz hv ty fy; have l6' := l6.frm fy (fun a e c => Nat.lt_irrefl _ (Nat.lt_of_lt_of_le ((HR.out _ GD).2 _ c) (b6 a e))); have h14 := fun u (g : Grw y u) => grants_yes u ao5 ao6 cap5 cap6 os (l5.later g) (l6'.later g) OL.out; have cX := sf.bx.c2; have HF := Lib.hid sf; have H14 := Lib.hid h14; clear sf h14 l6' tz rz fz hv ty fy l5 l6 b5 b6)
                    | (refine (A15.out _ GD).mono ?_; rintro _ y ⟨v5, rfl, ⟨ao5, cap5, rfl, l5, b5⟩, ty, fy⟩; have hh := SD.out.half fy; have ry := hh.1; have cX := hh.2.c2; clear hh))
                | (go_at_call 16; first
                    | (refine (A16.out _ ry).mono ?_; rintro _ z ⟨ao6, cap6, rfl, l6, b6, v', rz, fz, hv⟩; have sf := SD.out.both ty fy rz fz hv; have l5' := l5.frm fz (fun a e (c : a.block = r) => Nat.lt_irrefl _ (Nat.lt_of_lt_of_le (HR.out _ GD).1 (c ▸ b5 a e))); have h14 := fun u (g : Grw z u) => grants_yes u ao5 ao6 cap5 cap6 os (l5'.later g) (l6.later g) OL.out; have cX := sf.bx.c2; have HF := Lib.hid sf; have H14 := Lib.hid h14; clear sf h14 l5' ry rz fz hv ty fy l5 l6 b5 b6)
                    | (refine (A16.out _ SD.out.rt).mono ?_; rintro _ z ⟨ao6, cap6, rfl, l6, b6, v', rz, fz, hv⟩; have tz := SD.out.sd.tm SD.out.tm fz; have cX := (SD.out.bx.frm fz SD.out.xr).c2))
                | (go_at_call 14; refine (H14.out _ (Grw.rfl' _)).mono ?_; rintro _ y4 ⟨rfl, g4⟩; have sg := HF.out.later g4; have cX4 := sg.bx.c2; have SG := Lib.hid sg; clear sg))
            all_goals
              clear x1 x2
              go_wp2_with fail
              go_meet
              case rel => exact ⟨last, _, ls, SG.out, by have := HL.out; omega⟩
          · go_wp2_with fail
            go_meet
            case rel => exact ⟨last, v, L, ST2.out, by have := HL.out; omega⟩
        case rest =>
          clear x0 MO ST2
          obtain ⟨last', v', L', st, hl'⟩ := hcut
          have OKL := Lib.hid st.tm.t.ok
          have SC := Lib.hid st
          have HL' := Lib.hid hl'
          obtain ⟨o1, ho1⟩ : ∃ o1, byN L' xj = o1 := ⟨_, rfl⟩
          obtain ⟨o2, ho2⟩ : ∃ o2, byJ L' xj = o2 := ⟨_, rfl⟩
          have LK := Lib.hid (fun u (g : Grw wc u) => look_is (SC.out.later g).tm.t xj WA.out.2.1)
          have OF := Lib.hid (fun u (g : Grw wc u) => of_is (SC.out.later g).tm.t xj WA.out.2.1)
          have RL := Lib.hid (fun u (g : Grw wc u) => rlook_is (SC.out.later g).rt xj)
          have RO := Lib.hid (fun u (g : Grw wc u) => rof_is (SC.out.later g).rt xj)
          have x1 := st.bx.c1
          clear st hl'
          rw [ho1] at LK RL
          rw [ho2] at OF RO
          obtain ⟨n1, hn1⟩ : ∃ n1, (o1.getD g0).n = n1 := ⟨_, rfl⟩
          obtain ⟨j1, hj1⟩ : ∃ j1, (o1.getD g0).j = j1 := ⟨_, rfl⟩
          obtain ⟨u1, hu1⟩ : ∃ u1, (o1.getD g0).u = u1 := ⟨_, rfl⟩
          obtain ⟨b1, hb1⟩ : ∃ b1, o1.isSome = b1 := ⟨_, rfl⟩
          obtain ⟨n2, hn2⟩ : ∃ n2, (o2.getD g0).n = n2 := ⟨_, rfl⟩
          obtain ⟨j2, hj2⟩ : ∃ j2, (o2.getD g0).j = j2 := ⟨_, rfl⟩
          obtain ⟨t2, ht2⟩ : ∃ t2, (o2.getD g0).u = t2 := ⟨_, rfl⟩
          obtain ⟨b2, hb2⟩ : ∃ b2, o2.isSome = b2 := ⟨_, rfl⟩
          unfold gv at LK
          unfold fv at RL RO
          rw [hn1, hj1, hu1, hb1] at LK RL
          rw [hn2, hb2] at OF
          rw [hn2, hj2, ht2, hb2] at RO
          clear ho1 ho2 hn1 hj1 hu1 hb1 hn2 hj2 ht2 hb2
          go_wp2_with fail
          refine (LK.out _ (Grw.rfl' _)).mono ?_
          rintro _ wd ⟨rfl, gd'⟩
          have D1 := Lib.hid gd'
          obtain ⟨Y, hY⟩ : ∃ Y, wd.heap.size = Y := ⟨_, rfl⟩
          obtain ⟨we, hwe⟩ : ∃ we, wd.alloc (.cells #[.int .i64 n1, .int .i64 j1, .int .u64 (u1 : Nat)] 39) = we := ⟨_, rfl⟩
          have D2 : Hid (Grw wc we) := (by rw [← hwe]; exact D1.out.alloc _ : Grw wc we)
          have BY : Hid (B3 we Y (.int .i64 n1) (.int .i64 j1) (.int .u64 (u1 : Nat))) := (by rw [← hY, ← hwe]; exact ⟨by simp [go_sem], by simp [go_sem], by simp [go_sem]⟩ : B3 we Y (.int .i64 n1) (.int .i64 j1) (.int .u64 (u1 : Nat)))
          have x1' : we.cell? ⟨X, 1, none⟩ = some (.int .i64 xj) := D2.out.cell x1
          clear gd' x1
          go_wp2_with fail
          refine (OF.out _ D2.out).mono ?_
          rintro _ _ ⟨rfl, rfl⟩
          clear hwe hY
          go_wp2_with fail
          have BYl := Lib.hid (fun (u : World) (g : Grw we u) => BY.out.later g)
          have DL := Lib.hid (fun (u : World) (g : Grw we u) => D2.out.trans g)
          have SS : Hid (∀ u, Grw we u → u.cell? ⟨X, 1, none⟩ = some (.int .i64 xj)) := (fun u g => g.cell x1' : ∀ u, Grw we u → u.cell? ⟨X, 1, none⟩ = some (.int .i64 xj))
          go_cut [18, 19] from 25 to 172 (fun s18 s19 wx => ∃ a b, s18 = .pointer (some ⟨a, 0, none⟩) ∧ s19 = .pointer (some ⟨b, 0, none⟩) ∧ B4 wx a (.int .i64 n1) (.int .i64 j1) (.int .u64 (u1 : Nat)) (.bool b1) ∧ B4 wx b (.int .i64 n2) (.int .i64 j2) (.int .u64 (t2 : Nat)) (.bool b2) ∧ Grw we wx)
          case first =>
            go_region_held3 (fun u => u.cell? ⟨X, 1, none⟩ = some (.int .i64 xj))
              ((refine SS.out _ ?_; repeat (first | with_reducible assumption | with_reducible exact Grw.rfl' _ | with_reducible refine Grw.drew ?_ | with_reducible refine Grw.alloc ?_ _ | (with_reducible refine Grw.set ?_ ?_ _; rotate_left; (first | exact Nat.le_refl _ | exact Nat.le_succ _ | exact hs1 | exact hs2 | exact Nat.le_succ_of_le hs1 | exact Nat.le_succ_of_le hs2 | assumption | omega)))))
              (first | (go_at_call 19; refine (RL.out _ (DL.out _ (by repeat (first | with_reducible assumption | with_reducible exact Grw.rfl' _ | with_reducible refine Grw.drew ?_ | with_reducible refine Grw.alloc ?_ _ | (with_reducible refine Grw.set ?_ ?_ _; rotate_left; (first | exact Nat.le_refl _ | exact Nat.le_succ _ | exact hs1 | exact hs2 | exact Nat.le_succ_of_le hs1 | exact Nat.le_succ_of_le hs2 | assumption | omega)))))).mono ?_; rintro _ y1 ⟨rfl, h1⟩; have hx1 : Grw we y1 := Grw.trans (by repeat (first | with_reducible assumption | with_reducible exact Grw.rfl' _ | with_reducible refine Grw.drew ?_ | with_reducible refine Grw.alloc ?_ _ | (with_reducible refine Grw.set ?_ ?_ _; rotate_left; (first | exact Nat.le_refl _ | exact Nat.le_succ _ | exact hs1 | exact hs2 | exact Nat.le_succ_of_le hs1 | exact Nat.le_succ_of_le hs2 | assumption | omega)))) h1; have hs1 := Below.size hx1; (first | (with_reducible have qa := (F4.old we (.int .i64 0) (.int .i64 0) (.int .u64 0) (.bool false) 41 (.cells #[.int .i64 0, .int .i64 0, .int .u64 0, .bool false] 41)).lat (Grw.of_drew h1); with_reducible have qb := (F4.two we (.int .i64 0) (.int .i64 0) (.int .u64 0) (.bool false) 41 (.cells #[.int .i64 0, .int .i64 0, .int .u64 0, .bool false] 41)).lat (Grw.of_drew h1); have ka0 := qa.c0; have ka1 := qa.c1; have ka2 := qa.c2; have ka3 := qa.c3; have ka4 := qa.f0; have ka5 := qa.f1; have ka6 := qa.f2; have ka7 := qa.f3; have kaq := qa.lt; have kb0 := qb.c0; have kb1 := qb.c1; have kb2 := qb.c2; have kb3 := qb.c3; have kb4 := qb.f0; have kb5 := qb.f1; have kb6 := qb.f2; have kb7 := qb.f3; have kbq := qb.lt) | (with_reducible have qa := (F4.one we (.int .i64 0) (.int .i64 0) (.int .u64 0) (.bool false) 41).lat (Grw.of_drew h1); have ka0 := qa.c0; have ka1 := qa.c1; have ka2 := qa.c2; have ka3 := qa.c3; have ka4 := qa.f0; have ka5 := qa.f1; have ka6 := qa.f2; have ka7 := qa.f3; have kaq := qa.lt; obtain ⟨ka8, ka9, kaa, kab, kac, kad, kae, kaf⟩ := qa.all) | skip)) | (go_at_call 20; refine (RO.out _ (DL.out _ (by repeat (first | with_reducible assumption | with_reducible exact Grw.rfl' _ | with_reducible refine Grw.drew ?_ | with_reducible refine Grw.alloc ?_ _ | (with_reducible refine Grw.set ?_ ?_ _; rotate_left; (first | exact Nat.le_refl _ | exact Nat.le_succ _ | exact hs1 | exact hs2 | exact Nat.le_succ_of_le hs1 | exact Nat.le_succ_of_le hs2 | assumption | omega)))))).mono ?_; rintro _ y2 ⟨rfl, h2⟩; have hx2 : Grw we y2 := Grw.trans (by repeat (first | with_reducible assumption | with_reducible exact Grw.rfl' _ | with_reducible refine Grw.drew ?_ | with_reducible refine Grw.alloc ?_ _ | (with_reducible refine Grw.set ?_ ?_ _; rotate_left; (first | exact Nat.le_refl _ | exact Nat.le_succ _ | exact hs1 | exact hs2 | exact Nat.le_succ_of_le hs1 | exact Nat.le_succ_of_le hs2 | assumption | omega)))) h2; have hs2 := Below.size hx2; (first | (with_reducible have ga := F4.lat qa h2; with_reducible have gb := F4.lat qb h2; have la0 := ga.c0; have la1 := ga.c1; have la2 := ga.c2; have la3 := ga.c3; have la4 := ga.f0; have la5 := ga.f1; have la6 := ga.f2; have la7 := ga.f3; have laq := ga.lt; have lb0 := gb.c0; have lb1 := gb.c1; have lb2 := gb.c2; have lb3 := gb.c3; have lb4 := gb.f0; have lb5 := gb.f1; have lb6 := gb.f2; have lb7 := gb.f3; have lbq := gb.lt) | (with_reducible have ga := F4.lat (qa.al _) h2; with_reducible have gb := F4.lat (F4.one y1 (.int .i64 0) (.int .i64 0) (.int .u64 0) (.bool false) 41) h2; have la0 := ga.c0; have la1 := ga.c1; have la2 := ga.c2; have la3 := ga.c3; have la4 := ga.f0; have la5 := ga.f1; have la6 := ga.f2; have la7 := ga.f3; have laq := ga.lt; have lb0 := gb.c0; have lb1 := gb.c1; have lb2 := gb.c2; have lb3 := gb.c3; have lb4 := gb.f0; have lb5 := gb.f1; have lb6 := gb.f2; have lb7 := gb.f3; have lbq := gb.lt) | (with_reducible have ga := F4.lat (F4.set4 (qa.al _) _ _ _ _) h2; with_reducible have gb := F4.lat (F4.off (F4.one y1 (.int .i64 0) (.int .i64 0) (.int .u64 0) (.bool false) 41) (Nat.ne_of_gt qa.lt) _ _ _ _) h2; have la0 := ga.c0; have la1 := ga.c1; have la2 := ga.c2; have la3 := ga.c3; have la4 := ga.f0; have la5 := ga.f1; have la6 := ga.f2; have la7 := ga.f3; have laq := ga.lt; have lb0 := gb.c0; have lb1 := gb.c1; have lb2 := gb.c2; have lb3 := gb.c3; have lb4 := gb.f0; have lb5 := gb.f1; have lb6 := gb.f2; have lb7 := gb.f3; have lbq := gb.lt) | (with_reducible have ga := F4.lat (qa.al _) h2; with_reducible have gb := F4.lat (F4.one y1 (.int .i64 n1) (.int .i64 j1) (.int .u64 (u1 : Nat)) (.bool b1) 41) h2; have la0 := ga.c0; have la1 := ga.c1; have la2 := ga.c2; have la3 := ga.c3; have la4 := ga.f0; have la5 := ga.f1; have la6 := ga.f2; have la7 := ga.f3; have laq := ga.lt; have lb0 := gb.c0; have lb1 := gb.c1; have lb2 := gb.c2; have lb3 := gb.c3; have lb4 := gb.f0; have lb5 := gb.f1; have lb6 := gb.f2; have lb7 := gb.f3; have lbq := gb.lt) | (with_reducible have ga := F4.lat (F4.set4 qa _ _ _ _) h2; with_reducible have gb := F4.lat (F4.off qb (Nat.succ_ne_self _) _ _ _ _) h2; have la0 := ga.c0; have la1 := ga.c1; have la2 := ga.c2; have la3 := ga.c3; have la4 := ga.f0; have la5 := ga.f1; have la6 := ga.f2; have la7 := ga.f3; have laq := ga.lt; have lb0 := gb.c0; have lb1 := gb.c1; have lb2 := gb.c2; have lb3 := gb.c3; have lb4 := gb.f0; have lb5 := gb.f1; have lb6 := gb.f2; have lb7 := gb.f3; have lbq := gb.lt) | (with_reducible have ga := F4.lat (F4.set4 qb _ _ _ _) h2; with_reducible have gb := F4.lat (F4.off qa (Nat.succ_ne_self _).symm _ _ _ _) h2; have la0 := ga.c0; have la1 := ga.c1; have la2 := ga.c2; have la3 := ga.c3; have la4 := ga.f0; have la5 := ga.f1; have la6 := ga.f2; have la7 := ga.f3; have laq := ga.lt; have lb0 := gb.c0; have lb1 := gb.c1; have lb2 := gb.c2; have lb3 := gb.c3; have lb4 := gb.f0; have lb5 := gb.f1; have lb6 := gb.f2; have lb7 := gb.f3; have lbq := gb.lt) | (with_reducible have ga := F4.lat qa h2; have la0 := ga.c0; have la1 := ga.c1; have la2 := ga.c2; have la3 := ga.c3; have la4 := ga.f0; have la5 := ga.f1; have la6 := ga.f2; have la7 := ga.f3; have laq := ga.lt; obtain ⟨la8, la9, laa, lab, lac, lad, lae, laf⟩ := ga.all) | (with_reducible have ga := F4.lat (F4.old y1 (.int .i64 0) (.int .i64 0) (.int .u64 0) (.bool false) 41 (.cells #[.int .i64 0, .int .i64 0, .int .u64 0, .bool false] 41)) h2; with_reducible have gb := F4.lat (F4.two y1 (.int .i64 0) (.int .i64 0) (.int .u64 0) (.bool false) 41 (.cells #[.int .i64 0, .int .i64 0, .int .u64 0, .bool false] 41)) h2; have la0 := ga.c0; have la1 := ga.c1; have la2 := ga.c2; have la3 := ga.c3; have la4 := ga.f0; have la5 := ga.f1; have la6 := ga.f2; have la7 := ga.f3; have laq := ga.lt; have lb0 := gb.c0; have lb1 := gb.c1; have lb2 := gb.c2; have lb3 := gb.c3; have lb4 := gb.f0; have lb5 := gb.f1; have lb6 := gb.f2; have lb7 := gb.f3; have lbq := gb.lt) | (with_reducible have ga := F4.lat (F4.one y1 (.int .i64 0) (.int .i64 0) (.int .u64 0) (.bool false) 41) h2; have la0 := ga.c0; have la1 := ga.c1; have la2 := ga.c2; have la3 := ga.c3; have la4 := ga.f0; have la5 := ga.f1; have la6 := ga.f2; have la7 := ga.f3; have laq := ga.lt; obtain ⟨la8, la9, laa, lab, lac, lad, lae, laf⟩ := ga.all) | (with_reducible have ga := F4.lat (F4.set4 (F4.old y1 (.int .i64 0) (.int .i64 0) (.int .u64 0) (.bool false) 41 (.cells #[.int .i64 0, .int .i64 0, .int .u64 0, .bool false] 41)) _ _ _ _) h2; with_reducible have gb := F4.lat (F4.off (F4.two y1 (.int .i64 0) (.int .i64 0) (.int .u64 0) (.bool false) 41 (.cells #[.int .i64 0, .int .i64 0, .int .u64 0, .bool false] 41)) (Nat.succ_ne_self _) _ _ _ _) h2; have la0 := ga.c0; have la1 := ga.c1; have la2 := ga.c2; have la3 := ga.c3; have la4 := ga.f0; have la5 := ga.f1; have la6 := ga.f2; have la7 := ga.f3; have laq := ga.lt; have lb0 := gb.c0; have lb1 := gb.c1; have lb2 := gb.c2; have lb3 := gb.c3; have lb4 := gb.f0; have lb5 := gb.f1; have lb6 := gb.f2; have lb7 := gb.f3; have lbq := gb.lt) | (with_reducible have ga := F4.lat (F4.old y1 (.int .i64 n1) (.int .i64 j1) (.int .u64 (u1 : Nat)) (.bool b1) 41 (.cells #[.int .i64 0, .int .i64 0, .int .u64 0, .bool false] 41)) h2; with_reducible have gb := F4.lat (F4.two y1 (.int .i64 0) (.int .i64 0) (.int .u64 0) (.bool false) 41 (.cells #[.int .i64 n1, .int .i64 j1, .int .u64 (u1 : Nat), .bool b1] 41)) h2; have la0 := ga.c0; have la1 := ga.c1; have la2 := ga.c2; have la3 := ga.c3; have la4 := ga.f0; have la5 := ga.f1; have la6 := ga.f2; have la7 := ga.f3; have laq := ga.lt; have lb0 := gb.c0; have lb1 := gb.c1; have lb2 := gb.c2; have lb3 := gb.c3; have lb4 := gb.f0; have lb5 := gb.f1; have lb6 := gb.f2; have lb7 := gb.f3; have lbq := gb.lt) | (with_reducible have ga := F4.lat (F4.old y1 (.int .i64 0) (.int .i64 0) (.int .u64 0) (.bool false) 41 (.cells #[.int .i64 n1, .int .i64 j1, .int .u64 (u1 : Nat), .bool b1] 41)) h2; with_reducible have gb := F4.lat (F4.two y1 (.int .i64 n1) (.int .i64 j1) (.int .u64 (u1 : Nat)) (.bool b1) 41 (.cells #[.int .i64 0, .int .i64 0, .int .u64 0, .bool false] 41)) h2; have la0 := ga.c0; have la1 := ga.c1; have la2 := ga.c2; have la3 := ga.c3; have la4 := ga.f0; have la5 := ga.f1; have la6 := ga.f2; have la7 := ga.f3; have laq := ga.lt; have lb0 := gb.c0; have lb1 := gb.c1; have lb2 := gb.c2; have lb3 := gb.c3; have lb4 := gb.f0; have lb5 := gb.f1; have lb6 := gb.f2; have lb7 := gb.f3; have lbq := gb.lt) | skip)))
            all_goals
              go_wp2_with fail
              go_meet
              case rel =>
                refine ⟨_, _, rfl, rfl, F4.b4 ?_, F4.b4 ?_, ?_⟩
                · repeat (first | with_reducible exact Has.of ga | with_reducible exact Has.of gb | with_reducible exact F4.two _ _ _ _ _ _ _ | (with_reducible refine F4.one' _ _ ?_ _ _ _ _ _; (first | with_reducible rfl | (simp [go_sem]; done))) | with_reducible refine Has.set4 ?_ _ _ _ _ | (with_reducible refine F4.off ?_ ?_ _ _ _ _; rotate_left; (first | with_reducible exact Nat.succ_ne_self _ | with_reducible exact (Nat.succ_ne_self _).symm | with_reducible exact Nat.ne_of_lt kaq | with_reducible exact Nat.ne_of_gt kaq)) | (with_reducible refine Has.off ?_ ?_ _ _ _ _; rotate_left; (first | with_reducible exact Nat.succ_ne_self _ | with_reducible exact (Nat.succ_ne_self _).symm | with_reducible exact Nat.ne_of_lt kaq | with_reducible exact Nat.ne_of_gt kaq)) | with_reducible refine F4.al ?_ _)
                · repeat (first | with_reducible exact Has.of ga | with_reducible exact Has.of gb | with_reducible exact F4.two _ _ _ _ _ _ _ | (with_reducible refine F4.one' _ _ ?_ _ _ _ _ _; (first | with_reducible rfl | (simp [go_sem]; done))) | with_reducible refine Has.set4 ?_ _ _ _ _ | (with_reducible refine F4.off ?_ ?_ _ _ _ _; rotate_left; (first | with_reducible exact Nat.succ_ne_self _ | with_reducible exact (Nat.succ_ne_self _).symm | with_reducible exact Nat.ne_of_lt kaq | with_reducible exact Nat.ne_of_gt kaq)) | (with_reducible refine Has.off ?_ ?_ _ _ _ _; rotate_left; (first | with_reducible exact Nat.succ_ne_self _ | with_reducible exact (Nat.succ_ne_self _).symm | with_reducible exact Nat.ne_of_lt kaq | with_reducible exact Nat.ne_of_gt kaq)) | with_reducible refine F4.al ?_ _)
                · repeat (first | with_reducible exact hx2 | with_reducible exact Grw.rfl' _ | with_reducible refine Grw.drew ?_ | with_reducible refine Grw.alloc ?_ _ | (with_reducible refine Grw.set ?_ ?_ _; rotate_left; (first | with_reducible exact Nat.le_refl _ | with_reducible exact Nat.le_succ _ | with_reducible exact hs1 | with_reducible exact hs2 | with_reducible exact Nat.le_succ_of_le hs1 | with_reducible exact Nat.le_succ_of_le hs2)))
          case rest => as_aux_lemma =>
            obtain ⟨Y2, Y3, rfl, rfl, z2, z3, gz⟩ := hcut
            have ZY := Lib.hid (BYl.out _ gz)
            have PZ := Lib.hid ((SC.out.later D2.out).later gz)
            have Z2 := Lib.hid z2
            have Z3 := Lib.hid z3
            obtain ⟨aor, capr, hvr, lr⟩ := ownsRow_lies PZ.out.rt.row
            subst hvr
            obtain ⟨ln, hln⟩ : ∃ ln, L'.length = ln := ⟨_, rfl⟩
            have cr := PZ.out.rt.c0
            rw [hln] at cr
            have LEN := Lib.hid (fun u (g : Grw wc u) => len_is (PZ.out.later g).tm.t)
            have LST := Lib.hid (fun u (g : Grw wc u) => list_is (PZ.out.later g).tm.t)
            rw [hln] at LEN
            have LR := Lib.hid lr
            have LL : Hid (L'.length ≤ 1000000) := (by have h1 := PZ.out.tm.t.ok.len; have h2 := HL'.out; have h3 := HL.out; omega : L'.length ≤ 1000000)
            have HLN := Lib.hid hln
            have S2 : Hid (∀ u, Grw wc u → (u.cell? ⟨Y, 0, none⟩ = some (.int .i64 n1) ∧ u.cell? ⟨Y, 1, none⟩ = some (.int .i64 j1) ∧ u.cell? ⟨Y, 2, none⟩ = some (.int .u64 (u1 : Nat)) ∧ u.cell? ⟨Y2, 0, none⟩ = some (.int .i64 n1) ∧ u.cell? ⟨Y2, 1, none⟩ = some (.int .i64 j1) ∧ u.cell? ⟨Y2, 2, none⟩ = some (.int .u64 (u1 : Nat)) ∧ u.cell? ⟨Y2, 3, none⟩ = some (.bool b1) ∧ u.cell? ⟨Y3, 0, none⟩ = some (.int .i64 n2) ∧ u.cell? ⟨Y3, 3, none⟩ = some (.bool b2) ∧ u.cell? ⟨r, 0, none⟩ = some (.slice aor ln capr))) :=
              (fun u g => ⟨g.cell ZY.out.c0, g.cell ZY.out.c1, g.cell ZY.out.c2, g.cell z2.c0, g.cell z2.c1, g.cell z2.c2, g.cell z2.c3, g.cell z3.c0, g.cell z3.c3, g.cell cr⟩ : ∀ u, Grw wc u → (u.cell? ⟨Y, 0, none⟩ = some (.int .i64 n1) ∧ u.cell? ⟨Y, 1, none⟩ = some (.int .i64 j1) ∧ u.cell? ⟨Y, 2, none⟩ = some (.int .u64 (u1 : Nat)) ∧ u.cell? ⟨Y2, 0, none⟩ = some (.int .i64 n1) ∧ u.cell? ⟨Y2, 1, none⟩ = some (.int .i64 j1) ∧ u.cell? ⟨Y2, 2, none⟩ = some (.int .u64 (u1 : Nat)) ∧ u.cell? ⟨Y2, 3, none⟩ = some (.bool b1) ∧ u.cell? ⟨Y3, 0, none⟩ = some (.int .i64 n2) ∧ u.cell? ⟨Y3, 3, none⟩ = some (.bool b2) ∧ u.cell? ⟨r, 0, none⟩ = some (.slice aor ln capr)))
            have GR : Hid (∀ u ao' cap', Grw wc u → Lies u ao' (cg L') → Calls Try.prog 14 #[.slice ao' ln cap', .slice aor ln capr] u fun e w' => e = .returned (.bool true) ∧ Grw u w') := (fun u ao' cap' g l => by have := grants_yes u ao' aor cap' capr L' l (LR.out.later g) LL.out; rw [HLN.out] at this; exact this : ∀ u ao' cap', Grw wc u → Lies u ao' (cg L') → Calls Try.prog 14 #[.slice ao' ln cap', .slice aor ln capr] u fun e w' => e = .returned (.bool true) ∧ Grw u w')
            clear gz z2 z3 hln lr cr x1'
            have GD : Grw wc wc.drew := (Grw.rfl' wc).drew
            go_wp2_with fail
            go_region_held3 (fun u => u.cell? ⟨Y, 0, none⟩ = some (.int .i64 n1) ∧ u.cell? ⟨Y, 1, none⟩ = some (.int .i64 j1) ∧ u.cell? ⟨Y, 2, none⟩ = some (.int .u64 (u1 : Nat)) ∧ u.cell? ⟨Y2, 0, none⟩ = some (.int .i64 n1) ∧ u.cell? ⟨Y2, 1, none⟩ = some (.int .i64 j1) ∧ u.cell? ⟨Y2, 2, none⟩ = some (.int .u64 (u1 : Nat)) ∧ u.cell? ⟨Y2, 3, none⟩ = some (.bool b1) ∧ u.cell? ⟨Y3, 0, none⟩ = some (.int .i64 n2) ∧ u.cell? ⟨Y3, 3, none⟩ = some (.bool b2) ∧ u.cell? ⟨r, 0, none⟩ = some (.slice aor ln capr))
              ((refine S2.out _ ?_; (first | exact gy5 | exact gy4 | exact GD)))
              (first
                | (go_at_call 21; refine (LEN.out _ GD).mono ?_; rintro _ _ ⟨rfl, rfl⟩)
                | (go_at_call 22; refine (LST.out _ GD).mono ?_; rintro _ y5 ⟨v5, rfl, ⟨ao5, cap5, rfl, l5, _⟩, h5⟩; have gy4 : Grw wc y5 := GD.trans h5; rw [HLN.out]; have l5' := Lib.hid l5; clear l5 h5)
                | (go_at_call 14; refine (GR.out _ _ _ gy4 l5'.out).mono ?_; rintro _ y6 ⟨rfl, h6⟩; have gy5 : Grw wc y6 := gy4.trans h6; clear h6))
            have PE := Lib.hid (PZ.out.later gy5)
            clear gy4 gy5 l5'
            go_wp2_with fail
            go_roundw
            case rel => exact ⟨i + 1, last', _, L', by omega, by omega, HL'.out, by first | rfl | go_num, PE.out.tm, PE.out.rt, PE.out.sd⟩
            case measure => simp only [intOf]; omega
      · have d2 : decide ((i : Int) < 60) = false := by simp; omega
        go_wp2_with fail
        refine (WK.out _).mono ?_
        rintro _ w2 ⟨rfl, hw⟩
        have G2 := Lib.hid (T.out.g.trans hw)
        clear hw
        go_wp2_with fail
        go_ret
        exact ⟨rfl, G2.out⟩
    · have d1 : decide ((i : Int) < (n : Int)) = false := by simp; omega
      go_wp2_with fail
      refine (WK.out _).mono ?_
      rintro _ w2 ⟨rfl, hw⟩
      have G2 := Lib.hid (T.out.g.trans hw)
      clear hw
      go_wp2_with fail
      go_ret
      exact ⟨rfl, G2.out⟩
end Go.Proofs.Ytoejmopppkjaoaa
