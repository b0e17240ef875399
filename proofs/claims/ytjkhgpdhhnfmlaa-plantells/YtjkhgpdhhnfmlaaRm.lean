/- The document's Insert that does. -/
import Derived.Test.YtjkhgpdhhnfmlaaRk
import Derived.Test.YtjkhgpdhhnfmlaaSb
import Derived.RangeFuncBox
namespace Go.Proofs.Ytjkhgpdhhnfmlaa
open Go.RowKit
open RG (Du)
open PM
set_option linter.unusedSimpArgs false

theorem cd_num (l : List Du) : ∀ u ∈ cd l, ∃ k i, u = .int k i := by
  induction l with
  | nil => intro u h; cases h
  | cons d l ih =>
    intro u h
    simp only [cd, List.mem_cons] at h
    rcases h with h | h | h
    · exact ⟨_, _, h⟩
    · exact ⟨_, _, h⟩
    · exact ih u h
/-- what is no number may be stored over: the row lies as before. -/
theorem RowD.set {w : World} {v : Value} {l : List Du} (h : RowD w v l) (a : Addr) (c u : Value) (hc : w.cell? a = some c) (hn : ∀ k i, c ≠ .int k i) : RowD (w.setCell a u) v l := by
  obtain ⟨ao, cap, rfl, r⟩ := h
  refine ⟨ao, cap, rfl, ?_⟩
  rcases r with r | ⟨b, off, e, hb, r⟩
  · exact Or.inl r
  · refine Or.inr ⟨b, off, e, by simpa [go_sem] using hb, fun j x hj => ?_⟩
    have := r j x hj
    refine (World.cell?_setCell_other w a ⟨b, off + j, none⟩ u ?_).trans this
    intro e'
    rw [← e'] at this
    rw [hc] at this
    injection this with this
    obtain ⟨k, i, e2⟩ := cd_num l x (List.mem_of_getElem? hj)
    exact hn k i (this.trans e2)
theorem RowD.two {w : World} {v : Value} {l : List Du} (h : RowD w v l) {b : Nat} {ao : Option Addr} {n m : Nat} {q : Bool} (t : Two w b (.slice ao n m) (.bool q)) (x y : Value) : RowD ((w.setCell ⟨b, 0, none⟩ x).setCell ⟨b, 1, none⟩ y) v l :=
  (h.set _ _ x t.c0 (fun _ _ e => by cases e)).set _ (.bool q) y ((World.cell?_setCell_other w ⟨b, 0, none⟩ ⟨b, 1, none⟩ _ (fun e => by injection e with _ e; cases e)).trans t.c1) (fun _ _ e => by cases e)

set_option maxHeartbeats 4000000 in
set_option maxRecDepth 100000 in
theorem rinsert_yes (ao : Option Addr) (cap : Nat) (L : List Du) (n : Nat) (d : Du) (w : World) (hl : Lies w ao (cd L)) (hb : L.length < 100000) (hn : L.length = n) (hz : ao = none → n = 0 ∧ cap = 0) (hg : gdB L = true) (h : fx L d.id < 0) :
    Calls Try.prog 11 #[.slice ao n cap, dv d] w fun e w' => ∃ v, e = .returned (.agg #[v, .bool true]) ∧ RowD w' v (RG.sort (L ++ [d])) ∧ Grw w w' := by
  obtain ⟨di, dt⟩ := d
  obtain ⟨f, hf⟩ : ∃ f, fx L di = f := ⟨_, rfl⟩
  have LI := Lib.hid hl
  have A := Lib.hid (fun x (q : Grw w x) => rfind_is ao cap L n di f x (LI.out.later q) (by omega) hn hf)
  have B := Lib.hid (fun x (q : Grw w x) => rgood_is ao cap L n x (LI.out.later q) (by omega) hn)
  rw [hg] at B
  simp only [hf] at h
  obtain ⟨wa, hwa⟩ : ∃ x, w.alloc (.cells #[.int .i64 di, .int .u64 (dt : Nat)] 25) = x := ⟨_, rfl⟩
  have Ga : Grw w wa := by rw [← hwa]; exact (Grw.rfl' w).alloc _
  have WA := Lib.hid (And.intro hwa Ga)
  have G0 := Lib.hid (Ga.alloc (.cells #[.slice none 0 0, .bool false] 33))
  have T0 : Hid (Two (wa.alloc (.cells #[.slice none 0 0, .bool false] 33)) (w.heap.size + 1) (.slice none 0 0) (.bool false)) := (by
    have e : w.heap.size + 1 = wa.heap.size := by rw [← hwa, size_new]
    rw [e]; exact Two.new wa _ _ 33 : Two (wa.alloc (.cells #[.slice none 0 0, .bool false] 33)) (w.heap.size + 1) (.slice none 0 0) (.bool false))
  have D0 : Hid (Two (wa.alloc (.cells #[.slice none 0 0, .bool false] 33)) w.heap.size (.int .i64 di) (.int .u64 (dt : Nat))) := ((by rw [← hwa]; exact (Two.new w (.int .i64 di) (.int .u64 (dt : Nat)) 25).later ((Grw.rfl' _).alloc _) (by rw [size_new]; omega)) : Two (wa.alloc (.cells #[.slice none 0 0, .bool false] 33)) w.heap.size (.int .i64 di) (.int .u64 (dt : Nat)))
  rw [← hwa] at G0 T0 D0
  clear hl hf hg hwa Ga WA
  unfold dv
  have d0 : decide (0 ≤ f) = false := by simp; exact h
  have HN := Lib.hid (And.intro hn (And.intro hb hz))
  have hbs : L.length < 100000 := hb
  clear h hn hb hz
  go_enter Try.func11, Try.ntmps11
  go_wp2_with fail
  refine (B.out _ G0.out).mono ?_
  rintro _ w1 ⟨rfl, h1⟩
  have T1 := Lib.hid (T0.out.later h1 (by have := World.block_lt_of_cell? _ _ T0.out.c0; exact this))
  have G1 := Lib.hid (G0.out.trans h1)
  have D1 := Lib.hid (D0.out.later h1 (by have := World.block_lt_of_cell? _ _ D0.out.c0; exact this))
  have e0 := D1.out.c0
  have e1 := D1.out.c1
  have x0 := D1.out.f0
  have x1 := D1.out.f1
  clear h1
  go_wp2_with fail
  refine (A.out _ G1.out).mono ?_
  rintro _ w2 ⟨rfl, h2⟩
  have T2 := Lib.hid (T1.out.later h2 (by have := World.block_lt_of_cell? _ _ T1.out.c0; exact this))
  have G2 := Lib.hid (G1.out.trans h2)
  have D2 := Lib.hid (D1.out.later h2 (by have := World.block_lt_of_cell? _ _ D1.out.c0; exact this))
  have LI2 := LI.out.later G2.out
  clear h2 e0 e1 x0 x1
  go_upto_region 3 with fail
  have hn := HN.out.1
  have hb := HN.out.2.1
  have hz := HN.out.2.2
  have oldb : ∀ o o' : Obj, ((w2.drew.alloc o).alloc o').heap[w2.heap.size]? = some o := fun o o' => (((Grw.rfl' (w2.drew.alloc o)).alloc o').block (by rw [size_new]; exact Nat.lt_succ_self _)).trans (heap_alloc_new w2.drew o)
  have newb : ∀ o o' : Obj, ((w2.drew.alloc o).alloc o').heap[w2.heap.size + 1]? = some o' := fun o o' => by
    have := heap_alloc_new (w2.drew.alloc o) o'
    rw [size_new] at this
    exact this
  obtain ⟨v1, x1, v2, x2, r1, r2, g1, g2, o2⟩ := cp_three w2 (w2.drew.alloc (.cells #[] 25)) w2.heap.size cap n ao L ⟨di, dt⟩ (((Grw.rfl' w2).drew).alloc _) (Nat.le_refl _) (heap_alloc_new w2.drew _) LI2 hn hz (Nat.le_of_lt hb)
  obtain ⟨v3, x3, v4, x4, r3, r4, g3, g4, o4⟩ := cp_two w2 ((w2.drew.alloc (.cells #[] 25)).alloc (.cells #[.int .i64 di, .int .u64 (dt : Nat)] 25)) w2.heap.size (w2.heap.size + 1) cap n ao L ⟨di, dt⟩ ((((Grw.rfl' w2).drew).alloc _).alloc _) (Nat.le_refl _) (oldb _ _) LI2 hn hz (Nat.le_of_lt hb) (newb _ _) (by omega)
  obtain ⟨v5, x5, v6, x6, r5, r6, g5, g6, o6⟩ := cp_two w2 ((w2.drew.alloc (.cells #[.int .i64 di, .int .u64 (dt : Nat)] 25)).alloc (.cells #[] 25)) (w2.heap.size + 1) w2.heap.size cap n ao L ⟨di, dt⟩ ((((Grw.rfl' w2).drew).alloc _).alloc _) (by omega) (newb _ _) LI2 hn hz (Nat.le_of_lt hb) (oldb _ _) (by omega)
  obtain ⟨p2, q2, rfl⟩ := ownsRow_succ o2
  obtain ⟨p4, q4, rfl⟩ := ownsRow_succ o4
  obtain ⟨p6, q6, rfl⟩ := ownsRow_succ o6
  have LN : (L ++ [(⟨di, dt⟩ : Du)]).length = n + 1 := by simp [hn]
  have SRT : ∀ (p q : Nat) (y : World), y.ownsRow w2.heap.size 25 2 (.slice (some ⟨p, 0, none⟩) (n + 1) q) (n + 1) (cd (L ++ [⟨di, dt⟩])) → L.length < 100000 → Calls Try.prog 18 #[.slice (some ⟨p, 0, none⟩) (n + 1) q] y (fun e w' => ∃ v, e = .returned v ∧ RowD w' v (RG.sort (L ++ [⟨di, dt⟩])) ∧ Grw y w') := fun p q y o hl => by
    obtain ⟨ao', cap', e, l'⟩ := ownsRow_lies o
    injection e with e1 e2 e3
    subst e1
    have := rsort_any (some ⟨p, 0, none⟩) q (L ++ [⟨di, dt⟩]) y l' (by rw [LN]; omega)
    rw [LN] at this
    exact this
  have S2 := Lib.hid (SRT p2 q2 x2 o2 hbs)
  have S4 := Lib.hid (SRT p4 q4 x4 o4 hbs)
  have S6 := Lib.hid (SRT p6 q6 x6 o6 hbs)
  have DD : ∀ y, Grw w2 y → Two y w.heap.size (.int .i64 di) (.int .u64 (dt : Nat)) := fun y g => D2.out.later g (by have := World.block_lt_of_cell? _ _ D2.out.c0; exact this)
  have TT : Hid (∀ y, Grw w2 y → Two y (w.heap.size + 1) (.slice none 0 0) (.bool false)) := (fun y g => T2.out.later g (by have := World.block_lt_of_cell? _ _ T2.out.c0; exact this) : ∀ y, Grw w2 y → Two y (w.heap.size + 1) (.slice none 0 0) (.bool false))
  have GT := Lib.hid (And.intro g2 (And.intro g4 g6))
  have a0 := (DD _ (Grw.rfl' w2)).c0
  have a1 := (DD _ (Grw.rfl' w2)).c1
  have b0 := fun o => (DD _ ((Grw.rfl' w2).alloc o)).c0
  have b1 := fun o => (DD _ ((Grw.rfl' w2).alloc o)).c1
  have y0 := (DD _ g1).c0
  have y1 := (DD _ g1).c1
  replace r1 : (Builtin.append_ #[22, 22] 22 #[.slice (some ⟨w2.heap.size, 0, none⟩) 0 0, .slice ao n cap]).run Try.prog (w2.alloc (.cells #[] 25)).drew = .ok v1 x1 := r1
  replace r3 : (Builtin.append_ #[22, 22] 22 #[.slice (some ⟨w2.heap.size, 0, none⟩) 0 0, .slice ao n cap]).run Try.prog ((w2.alloc (.cells #[] 25)).alloc (.cells #[.int .i64 di, .int .u64 (dt : Nat)] 25)).drew = .ok v3 x3 := r3
  replace r5 : (Builtin.append_ #[22, 22] 22 #[.slice (some ⟨w2.heap.size + 1, 0, none⟩) 0 0, .slice ao n cap]).run Try.prog ((w2.alloc (.cells #[.int .i64 di, .int .u64 (dt : Nat)] 25)).alloc (.cells #[] 25)).drew = .ok v5 x5 := r5
  clear oldb newb o2 o4 o6 LI2 hz hn hb g1 g2 g3 g4 g5 g6 SRT DD LN
  go_region_law (first
    | (with_reducible refine step_append_run rfl (.tmp 16) (.tmp 17) 22 rfl _ _ (by simp [Act.eval, Act.put]) (by simp [Act.eval, Act.put]) r1 ?_)
    | (with_reducible refine step_append_run rfl (.tmp 16) (.tmp 17) 22 rfl _ _ (by simp [Act.eval, Act.put]) (by simp [Act.eval, Act.put]) r3 ?_)
    | (with_reducible refine step_append_run rfl (.tmp 16) (.tmp 17) 22 rfl _ _ (by simp [Act.eval, Act.put]) (by simp [Act.eval, Act.put]) r5 ?_)
    | (with_reducible refine step_append_run rfl (.tmp 18) (.tmp 20) 22 rfl _ _ (by simp [Act.eval, Act.put]) (by simp [Act.eval, Act.put]) r2 ?_)
    | (with_reducible refine step_append_run rfl (.tmp 18) (.tmp 20) 22 rfl _ _ (by simp [Act.eval, Act.put]) (by simp [Act.eval, Act.put]) r4 ?_)
    | (with_reducible refine step_append_run rfl (.tmp 18) (.tmp 20) 22 rfl _ _ (by simp [Act.eval, Act.put]) (by simp [Act.eval, Act.put]) r6 ?_)
    | (go_simp; go_at_call 18; (with_reducible refine (S2.out).mono ?_); rintro _ y ⟨v, rfl, hv, hy⟩; have TY := Lib.hid (TT.out y (GT.out.1.trans hy)); have GY := Lib.hid (And.intro (G2.out.trans (GT.out.1.trans hy)) (hv.two TY.out v (.bool true))); have f0 := TY.out.f0; have f1 := TY.out.f1; have c0 := TY.out.c0; have c1 := TY.out.c1; clear hy; obtain ⟨aq, cq, rfl, _⟩ := hv)
    | (go_simp; go_at_call 18; (with_reducible refine (S4.out).mono ?_); rintro _ y ⟨v, rfl, hv, hy⟩; have TY := Lib.hid (TT.out y (GT.out.2.1.trans hy)); have GY := Lib.hid (And.intro (G2.out.trans (GT.out.2.1.trans hy)) (hv.two TY.out v (.bool true))); have f0 := TY.out.f0; have f1 := TY.out.f1; have c0 := TY.out.c0; have c1 := TY.out.c1; clear hy; obtain ⟨aq, cq, rfl, _⟩ := hv)
    | (go_simp; go_at_call 18; (with_reducible refine (S6.out).mono ?_); rintro _ y ⟨v, rfl, hv, hy⟩; have TY := Lib.hid (TT.out y (GT.out.2.2.trans hy)); have GY := Lib.hid (And.intro (G2.out.trans (GT.out.2.2.trans hy)) (hv.two TY.out v (.bool true))); have f0 := TY.out.f0; have f1 := TY.out.f1; have c0 := TY.out.c0; have c1 := TY.out.c1; clear hy; obtain ⟨aq, cq, rfl, _⟩ := hv))
  all_goals
    go_wp2_with fail
    exact bodyPost_ret (v := .agg #[.slice aq (RG.sort (L ++ [⟨di, dt⟩])).length cq, .bool true]) (by simp [results, Try.results11, go_sem, c0, c1]) rfl ⟨_, rfl, GY.out.2, GY.out.1.set2 (Nat.le_succ _) _ _⟩
end Go.Proofs.Ytjkhgpdhhnfmlaa
