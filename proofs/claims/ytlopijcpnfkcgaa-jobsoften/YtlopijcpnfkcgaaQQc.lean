/- The line's Len, Pop and Push. -/
import Derived.Test.YtlopijcpnfkcgaaQQb
import Derived.Deep.RegionLaw
namespace Go.Proofs.Ytlopijcpnfkcgaa
namespace QQ
open Go.RowKit
set_option linter.unusedSimpArgs false

theorem Try.info69 : (Try.prog.info? 69).map (fun i => (i.zero, i.size, i.bytes)) = some (some (.agg #[.int .i64 0, .int .i64 0, .int .i64 0]), 3, 24) := by kernel_rfl
theorem info_parts {T : TypeId} {z : Value} {s b : Nat} (h : (Try.prog.info? T).map (fun i => (i.zero, i.size, i.bytes)) = some (some z, s, b)) : ∃ i, Try.prog.info? T = some i ∧ i.zero = some z ∧ i.size = s ∧ i.bytes = b := by
  match hi : Try.prog.info? T, h with
  | some i, h =>
    simp at h
    exact ⟨i, rfl, h.1, h.2.1, h.2.2⟩
theorem blk_cells {w : World} {g : Nat} {xs : List Value} {t : TypeId} (h : w.heap[g]? = some (.cells xs.toArray t (0, 0))) : ∀ j u, xs[j]? = some u → w.cell? ((⟨g, 0, none⟩ : Addr).add j) = some u := by
  intro j u hj
  rw [Addr.add_lit, Nat.zero_add]
  simp [World.cell?, h, hj]
theorem one_wt (w : World) (d : Wt) : ∀ (j : Nat) (u : Value), (cw [d])[j]? = some u → (w.alloc (.cells #[.int .i64 d.id, .int .i64 d.cl, .int .i64 d.ca] 69)).cell? ((⟨w.heap.size, 0, none⟩ : Addr).add j) = some u :=
  blk_cells (xs := cw [d]) (t := 69) (heap_alloc_new w _)
theorem step_append_run {P : Program} {ops : Array Oper} {o : Oper} {a : Act} {w : World} {K : Act → World → Prop} {Q : Exit → Act → World → Prop} {E : Prop} (hgd : o.guard = none) (s x : Operand) (t : TypeId)
    (ho : o.op = .call { callee := .builtin .append, args := #[s, x], argTypes := #[t, t] }) (vs vx : Value) (hs : a.eval s = vs) (hx : a.eval x = vx) {v' : Value} {w' : World}
    (hr : (Builtin.append_ #[t, t] o.type #[vs, vx]).run P w = .ok v' w') (h : K (a.put o.dst v') w') :
    if Region.wanted o (yielded ops a.tmps) = true then Oper.wp P o a w K Q else E := by
  have hw : Region.wanted o (yielded ops a.tmps) = true := by simp [Region.wanted, hgd]
  rw [if_pos hw]
  unfold Oper.wp
  simp [execOp, ho, resolve, invoke, builtin, hs, hx, hr, Result.andThen]
  exact h
/-- append(v, x) at a row of one's own, x just made. -/
theorem app_one (w : World) (v : Value) (l : List Wt) (x : Wt) (ho : w.ownsRow 0 69 3 v l.length (cw l)) (hb : l.length ≤ 1000000) :
    ∃ v' w', (Builtin.append_ #[55, 55] 55 #[v, .slice (some ⟨w.heap.size, 0, none⟩) 1 1]).run Try.prog (w.alloc (.cells #[.int .i64 x.id, .int .i64 x.cl, .int .i64 x.ca] 69)).drew = .ok v' w' ∧ w'.ownsRow 0 69 3 v' (l ++ [x]).length (cw (l ++ [x])) ∧
      Frm (fun k => v.ownBlock = some k) w w' ∧ (v'.ownBlock = v.ownBlock ∨ ∃ k, v'.ownBlock = some k ∧ w.heap.size ≤ k) := by
  obtain ⟨i0, hi, hz0, hz1, hz2⟩ := info_parts Try.info69
  rw [List.length_append, cw_app]
  have g : Grw w (w.alloc (.cells #[.int .i64 x.id, .int .i64 x.cl, .int .i64 x.ca] 69)).drew := ((Grw.rfl' w).alloc _).drew
  have ho' : ((w.alloc (.cells #[.int .i64 x.id, .int .i64 x.cl, .int .i64 x.ca] 69)).drew).ownsRow 0 69 3 v l.length (cw l) := ownsRow_frm ho (g.frm (fun _ => False)) (fun _ _ e => e)
  obtain ⟨v', w', h1, h2, h3, h4⟩ := run_append_mine (P := Try.prog) ((w.alloc (.cells #[.int .i64 x.id, .int .i64 x.cl, .int .i64 x.ca] 69)).drew) 55 55 69 i0 _ 3 24 Try.underlying55 hi hz0 hz1 hz2 rfl (by decide) v l.length (cw l) ho' ⟨w.heap.size, 0, none⟩ 1 1 (cw [x]) (cw_len [x]) (one_wt w x) (cw_one [x]) (by unfold maxLen; omega) (by omega)
  refine ⟨v', w', h1, h2, ?_, ?_⟩
  · have f := grownBy_frm h3
    exact (g.frm (fun k => v.ownBlock = some k)).trans f (fun k e => Or.inl e)
  · rcases h4 with h4 | h4
    · exact Or.inl h4
    · exact Or.inr ⟨_, h4, Below.size g⟩

/-- the line at (b, o), whatever its row. -/
structure LV (b o : Nat) (a : Int) (v : Value) (W : World) (l : List Wt) : Prop where
  c0 : W.cell? ⟨b, o, none⟩ = some (.int .i64 a)
  c1 : W.cell? ⟨b, o + 1, none⟩ = some v
  f1 : W.frozen? ⟨b, o + 1, none⟩ = false
  row : W.ownsRow 0 69 3 v l.length (cw l)
  ne : v.ownBlock ≠ some b
theorem LR.lv {b o : Nat} {a : Int} {g cap : Nat} {W : World} {l : List Wt} (h : LR b o a g cap W l) : LV b o a (.slice (some ⟨g, 0, none⟩) l.length cap) W l :=
  ⟨h.c0, h.c1, h.f1, h.row, fun e => h.ne (by injection e)⟩
theorem LV.lr {b o : Nat} {a : Int} {v : Value} {W : World} {l : List Wt} (h : LV b o a v W l) (hl : l ≠ []) : ∃ g cap, v = .slice (some ⟨g, 0, none⟩) l.length cap ∧ LR b o a g cap W l := by
  rcases h.row.2 with ⟨_, h2⟩ | ⟨g, cap, cur, h1, _⟩
  · exact absurd (List.eq_nil_of_length_eq_zero h2) hl
  · subst h1
    exact ⟨g, cap, rfl, h.c0, h.c1, h.f1, h.row, fun e => h.ne (by rw [e]; rfl)⟩
theorem frz_frm {F : Nat → Prop} {w x : World} (h : Frm F w x) {a : Addr} {v : Value} (hc : w.cell? a = some v) (hn : ¬ F a.block) (hf : w.frozen? a = false) : x.frozen? a = false := by
  have e := h.block a.block (World.block_lt_of_cell? _ _ hc) hn
  simp only [World.frozen?, e] at *
  exact hf
theorem LV.keep {b o : Nat} {a : Int} {v : Value} {W W' : World} {l : List Wt} (h : LV b o a v W l) {F : Nat → Prop} (k : Frm F W W') (hb : ¬ F b) (hg : ∀ g, v.ownBlock = some g → ¬ F g) : LV b o a v W' l :=
  ⟨k.cell h.c0 hb, k.cell h.c1 hb, frz_frm k h.c1 hb h.f1, ownsRow_frm h.row k hg, h.ne⟩
theorem own_slice {w : World} {v : Value} {n : Nat} {xs : List Value} (h : w.ownsRow 0 69 3 v n xs) : ∃ ao cap, v = .slice ao n cap := by
  rcases h.2 with ⟨h1, h2⟩ | ⟨g, cap, cur, h1, _⟩
  · subst h2; exact ⟨_, _, h1⟩
  · exact ⟨_, _, h1⟩
set_option maxHeartbeats 1000000 in
set_option maxRecDepth 100000 in
theorem line_len (b o : Nat) (ao : Option Addr) (n cap : Nat) (w : World) (h : w.cell? ⟨b, o + 1, none⟩ = some (.slice ao n cap)) :
    Calls Try.prog 37 #[.pointer (some ⟨b, o, none⟩)] w fun e w' => e = .returned (.int .i64 n) ∧ w = w' := by
  go_enter Try.func37, Try.ntmps37
  go_wp2_with fail
  go_ret
  exact ⟨rfl, rfl⟩
theorem LV.len {b o : Nat} {a : Int} {v : Value} {W : World} {l : List Wt} (h : LV b o a v W l) {n : Nat} (hn : l.length = n) :
    Calls Try.prog 37 #[.pointer (some ⟨b, o, none⟩)] W fun e w' => e = .returned (.int .i64 n) ∧ W = w' := by
  obtain ⟨ao, cap, hv⟩ := own_slice h.row
  have c := h.c1
  rw [hv, hn] at c
  exact line_len b o ao n cap W c
/-- the same row, cut before its last. -/
theorem own_cut {w : World} {g n cap : Nat} {l : List Wt} (h : w.ownsRow 0 69 3 (.slice (some ⟨g, 0, none⟩) l.length cap) l.length (cw l)) (hn : n ≤ l.length) : w.ownsRow 0 69 3 (.slice (some ⟨g, 0, none⟩) n cap) n (cw (l.take n)) := by
  refine ⟨by rw [cw_len, List.length_take, Nat.min_eq_left hn], Or.inr ?_⟩
  rcases h.2 with ⟨h1, _⟩ | ⟨g', cap', cur, h1, h2, h3, h4, h5, h6, h7⟩
  · cases h1
  · injection h1 with e1 e2 e3
    injection e1 with e1
    injection e1 with e1
    subst e1 e3
    refine ⟨g, cap, cur, rfl, h2, h3, by omega, h5, h6, ?_⟩
    rw [cw_take, ← h7, List.take_take, Nat.min_eq_left (by omega)]
/-- the other cells of a block are as they were. -/
def Rest (b j : Nat) (w x : World) : Prop := ∀ k, k ≠ j → x.cell? ⟨b, k, none⟩ = w.cell? ⟨b, k, none⟩ ∧ x.frozen? ⟨b, k, none⟩ = w.frozen? ⟨b, k, none⟩
theorem Rest.trans {b j : Nat} {w x y : World} (h : Rest b j w x) (g : Rest b j x y) : Rest b j w y := fun k hk => ⟨(g k hk).1.trans (h k hk).1, (g k hk).2.trans (h k hk).2⟩
theorem Rest.frm {b j : Nat} {w x : World} {F : Nat → Prop} (f : Frm F w x) (hb : b < w.heap.size) (hn : ¬ F b) : Rest b j w x := fun k _ => by
  have e := f.block b hb hn
  exact ⟨World.cell?_of_block e, by simp only [World.frozen?, e]⟩
theorem Rest.set (b j : Nat) (w : World) (v : Value) : Rest b j w (w.setCell ⟨b, j, none⟩ v) := fun k hk =>
  ⟨World.cell?_setCell_other w ⟨b, j, none⟩ ⟨b, k, none⟩ v (fun e => hk (by injection e with _ e; exact e.symm)), by simp⟩
/-- the line with another row put into it. -/
theorem lv_reput {b o : Nat} {a : Int} {u v : Value} {W : World} {l : List Wt} (c0 : W.cell? ⟨b, o, none⟩ = some (.int .i64 a)) (c1 : W.cell? ⟨b, o + 1, none⟩ = some u) (f1 : W.frozen? ⟨b, o + 1, none⟩ = false)
    (row : W.ownsRow 0 69 3 v l.length (cw l)) (ne : v.ownBlock ≠ some b) : LV b o a v (W.setCell ⟨b, o + 1, none⟩ v) l := by
  refine ⟨?_, ?_, ?_, ?_, ne⟩
  · simp [go_sem, c0]
  · simp [go_sem, c1]
  · simp [go_sem, f1]
  · exact ownsRow_frm row (frm_set (F := fun k => k = b) W ⟨b, o + 1, none⟩ v rfl) (fun k hk e => by subst e; exact ne hk)
set_option maxHeartbeats 1000000 in
set_option maxRecDepth 100000 in
theorem line_pop (b o : Nat) (a : Int) (g cap n : Nat) (l : List Wt) (w : World) (h : LR b o a g cap w l) (hn : l.length = n + 1) (hsz : n ≤ 1000000) :
    Calls Try.prog 89 #[.pointer (some ⟨b, o, none⟩)] w fun e w' => e = .returned (.iface 69 (wv (gt l n))) ∧ LR b o a g cap w' (l.take n) ∧ Frm (fun k => k = b) w w' ∧ Rest b (o + 1) w w' := by
  have hnl : n < l.length := by omega
  obtain ⟨x0, x1, x2⟩ := h.at hnl
  have H := Lib.hid h
  have c1 := h.c1
  have f1 := h.f1
  rw [hn] at c1
  obtain ⟨x, hx⟩ : ∃ x, l[n] = x := ⟨_, rfl⟩
  have HX : Hid (gt l n = x) := (by rw [gt_at hnl]; exact hx : gt l n = x)
  rw [hx] at x0 x1 x2
  obtain ⟨xi, xc, xm⟩ := x
  simp only at x0 x1 x2
  have HN := Lib.hid (And.intro hn hsz)
  have q1 : IntKind.i64.wrap (((n + 1 : Nat) : Int) - 1) = (n : Int) := by simp [IntKind.wrap_i64]; omega
  have d1 : n < n + 1 := by omega
  obtain ⟨m, hm⟩ : ∃ m, n + 1 = m := ⟨_, rfl⟩
  rw [hm] at c1 q1 d1
  have hnm : n ≤ m := by omega
  have hmc : m ≤ cap := by
    rcases h.row.2 with ⟨h1, _⟩ | ⟨g', cap', cur, h1, h2, h3, h4, h5, h6, h7⟩
    · cases h1
    · injection h1 with e1 e2 e3; omega
  have hnc : n ≤ cap := by omega
  have KE : Hid (∀ T, Frm (fun k => k = b) w ((w.alloc (.cells #[.int .i64 xi, .int .i64 xc, .int .i64 xm] T)).setCell ⟨b, o + 1, none⟩ (.slice (some ⟨g, 0, none⟩) n cap))) :=
    (fun T => (((Frm.rfl' (fun k => k = b) w).alloc _).set _ _ (Or.inl rfl)) : ∀ T, Frm (fun k => k = b) w ((w.alloc (.cells #[.int .i64 xi, .int .i64 xc, .int .i64 xm] T)).setCell ⟨b, o + 1, none⟩ (.slice (some ⟨g, 0, none⟩) n cap)))
  have RS : Hid (∀ T, Rest b (o + 1) w ((w.alloc (.cells #[.int .i64 xi, .int .i64 xc, .int .i64 xm] T)).setCell ⟨b, o + 1, none⟩ (.slice (some ⟨g, 0, none⟩) n cap))) :=
    (fun T => (Rest.frm (((Grw.rfl' w).alloc _).frm (fun _ => False)) (World.block_lt_of_cell? _ _ c1) (fun e => e)).trans (Rest.set _ _ _ _) : ∀ T, Rest b (o + 1) w ((w.alloc (.cells #[.int .i64 xi, .int .i64 xc, .int .i64 xm] T)).setCell ⟨b, o + 1, none⟩ (.slice (some ⟨g, 0, none⟩) n cap)))
  have ca : ∀ u, (w.alloc u).cell? ⟨b, o + 1, none⟩ = some (.slice (some ⟨g, 0, none⟩) m cap) := fun u => ((Grw.rfl' w).alloc u).cell c1
  have fa : ∀ u, (w.alloc u).frozen? ⟨b, o + 1, none⟩ = false := fun u => frz_frm (((Grw.rfl' w).alloc u).frm (fun _ => False)) c1 (fun e => e) f1
  have hs := World.block_lt_of_cell? _ _ c1
  have s1 : ¬ w.heap.size = b := by simp only at hs; omega
  have s2 : ¬ b = w.heap.size := by simp only at hs; omega
  clear hx h hn hnl hm hs
  go_enter Try.func89, Try.ntmps89
  go_wp2_with fail
  go_ret
  have g0 : Grw w (w.alloc (.cells #[.int .i64 xi, .int .i64 xc, .int .i64 xm] 69)) := (Grw.rfl' w).alloc _
  have hl : (l.take n).length = n := by rw [List.length_take]; have := HN.out.1; omega
  have R := lv_reput (l := l.take n) (v := .slice (some ⟨g, 0, none⟩) n cap) (g0.cell H.out.c0) (ca _) (fa _) (by rw [hl]; exact ownsRow_frm (own_cut H.out.row (by have := HN.out.1; omega)) (g0.frm (fun _ => False)) (fun _ _ e => e)) (fun e => H.out.ne (by injection e))
  refine ⟨by rw [HX.out]; rfl, ⟨R.c0, by rw [hl]; exact R.c1, R.f1, ?_, H.out.ne⟩, KE.out 69, RS.out 69⟩
  have := R.row
  rw [hl] at this ⊢
  exact this
end QQ
end Go.Proofs.Ytlopijcpnfkcgaa
