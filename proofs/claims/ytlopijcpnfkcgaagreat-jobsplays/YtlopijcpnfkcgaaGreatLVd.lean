/- remontoirkeep.Grants; the document's Drop. -/
import Derived.Test.YtlopijcpnfkcgaaGreatLVb
import Derived.RangeFuncBox
import Derived.OwnWalk
namespace Go.Proofs.YtlopijcpnfkcgaaGreat
namespace LE
open Go.RowKit
set_option linter.unusedSimpArgs false
variable {X : Nat → Value → Prop}

theorem one_gr (w : World) (d : Gr) : ∀ (j : Nat) (u : Value), (cg [d])[j]? = some u → (w.alloc (.cells #[.int .i64 d.n, .int .i64 d.j, .int .u64 (d.u : Nat)] 91)).cell? ((⟨w.heap.size, 0, none⟩ : Addr).add j) = some u :=
  blk_cells (xs := cg [d]) (t := 91) (heap_alloc_new w _)
theorem RT.row2 {w x : World} {r last : Nat} {v v' : Value} {L L' : List Gr} (h : RT X w r last v L) (g : Grw w x) (o : x.ownsRow w.heap.size 91 3 v' L'.length (cg L')) (hl : L'.length ≤ 10000) :
    RT X (x.setCell ⟨r, 4, none⟩ v') r last v' L' ∧ Frm (fun k => k = r) w (x.setCell ⟨r, 4, none⟩ v') := by
  have f : Frm (fun k => k = r) x (x.setCell ⟨r, 4, none⟩ v') := frm_set x ⟨r, 4, none⟩ _ rfl
  have hr := World.block_lt_of_cell? _ _ h.c0
  have hk := h.later g
  have ne : v'.ownBlock ≠ some r := fun e => by have := (o.lt r e).1; simp only at hr; omega
  refine ⟨⟨World.cell?_setCell_same (u := _) _ _ _ hk.c0, ?_, by simp [hk.f0], by simp [hk.f1], ?_, ne, hl, fun j u hx => ⟨(hk.ex j u hx).1, (World.cell?_setCell_other x ⟨r, 4, none⟩ ⟨r, j, none⟩ _ (fun e => by injection e with _ e; exact (hk.ex j u hx).1.1 e.symm)).trans (hk.ex j u hx).2.1, by simp [(hk.ex j u hx).2.2]⟩⟩, (g.frm _).trans f (fun _ e => Or.inl e)⟩
  · exact (World.cell?_setCell_other x ⟨r, 4, none⟩ ⟨r, 5, none⟩ _ (fun e => by injection e with _ e; cases e)).trans hk.c1
  · have := ownsRow_frm o f (fun k hk e => ne (by rw [hk, e]))
    refine ⟨this.1, ?_⟩
    rcases this.2 with h1 | ⟨b, cap, cur, h1, h2, h3⟩
    · exact Or.inl h1
    · exact Or.inr ⟨b, cap, cur, h1, Nat.zero_le _, h3⟩
/-- all but those of the number. -/
def dr (x : Int) (L : List Gr) : List Gr := L.filter (fun g => decide (g.n ≠ x))
theorem own_base {w : World} {B B' n : Nat} {v : Value} {xs : List Value} (o : w.ownsRow B 91 3 v n xs) (h : B' ≤ B) : w.ownsRow B' 91 3 v n xs := by
  refine ⟨o.1, ?_⟩
  rcases o.2 with h1 | ⟨b, cap, cur, h1, h2, h3⟩
  · exact Or.inl h1
  · exact Or.inr ⟨b, cap, cur, h1, Nat.le_trans h h2, h3⟩
theorem own_len {w : World} {B n : Nat} {v : Value} {xs : List Value} (o : w.ownsRow B 91 3 v n xs) : ∃ ao cap, v = .slice ao n cap := by
  rcases o.2 with ⟨h, h0⟩ | ⟨g, cap, cur, h, _⟩
  · exact ⟨none, 0, by rw [h, h0]⟩
  · exact ⟨_, _, h⟩
set_option maxHeartbeats 4000000 in
set_option maxRecDepth 100000 in
theorem rdrop_is {w : World} {r last : Nat} {v : Value} {L : List Gr} (h : RT X w r last v L) (x : Int) :
    Calls Tryz.prog 39 #[.pointer (some ⟨r, 4, none⟩), .int .i64 x] w fun e w' => e = .returned (fv (byN L x)) ∧ ∃ v', RT X w' r last v' (dr x L) ∧ Frm (fun k => k = r) w w' ∧ (∀ k, v'.ownBlock = some k → w.heap.size ≤ k) := by
  obtain ⟨i0, hi, hz0, hz1, hz2⟩ := info_parts Tryz.info91
  have zero41 : (w.alloc (.cells #[.int .i64 0, .int .i64 0, .int .u64 0, .bool false] 93)) = (w.alloc (.cells #[.int .i64 0, .int .i64 0, .int .u64 0, .bool false] 93)) := rfl
  obtain ⟨W0, hW0⟩ : ∃ W0, w.alloc (.cells #[.int .i64 0, .int .i64 0, .int .u64 0, .bool false] 93) = W0 := ⟨_, rfl⟩
  have g0' : Grw w W0 := by rw [← hW0]; exact (Grw.rfl' w).alloc _
  have ws : W0.heap.size = w.heap.size + 1 := by rw [← hW0, size_new]
  have C := Lib.hid (rlook_is (h.later g0') x)
  obtain ⟨ao, cap, hv, hl⟩ := ownsRow_lies h.row
  subst hv
  have H := Lib.hid h
  have LI := Lib.hid hl
  have hb := h.len
  obtain ⟨n, hn⟩ : ∃ n, L.length = n := ⟨_, rfl⟩
  have HN := Lib.hid hn
  obtain ⟨fo, hfo⟩ : ∃ f, byN L x = f := ⟨_, rfl⟩
  rw [hfo] at C ⊢
  have G0 := Lib.hid g0'
  have z0 : W0.cell? ⟨w.heap.size, 0, none⟩ = some (.int .i64 0) := by rw [← hW0]; simp [go_sem]
  have z1 : W0.cell? ⟨w.heap.size, 1, none⟩ = some (.int .i64 0) := by rw [← hW0]; simp [go_sem]
  have z2 : W0.cell? ⟨w.heap.size, 2, none⟩ = some (.int .u64 0) := by rw [← hW0]; simp [go_sem]
  have z3 : W0.cell? ⟨w.heap.size, 3, none⟩ = some (.bool false) := by rw [← hW0]; simp [go_sem]
  have zf : ∀ i, W0.frozen? ⟨w.heap.size, i, none⟩ = false := fun i => by rw [← hW0]; simp [go_sem]
  obtain ⟨y0, hy0⟩ : ∃ y, (fo.getD g0).n = y := ⟨_, rfl⟩
  obtain ⟨y1, hy1⟩ : ∃ y, (fo.getD g0).j = y := ⟨_, rfl⟩
  obtain ⟨y2, hy2⟩ : ∃ y, (fo.getD g0).u = y := ⟨_, rfl⟩
  obtain ⟨y3, hy3⟩ : ∃ y, fo.isSome = y := ⟨_, rfl⟩
  have FV : fv fo = .agg #[.int .i64 y0, .int .i64 y1, .int .u64 (y2 : Nat), .bool y3] := by unfold fv; rw [hy0, hy1, hy2, hy3]
  rw [FV] at C ⊢
  rw [hn] at hb
  clear h hl hn hfo hy0 hy1 hy2 hy3 FV g0' zero41
  go_enter Tryz.func39, Tryz.ntmps39
  go_wp2_with fail
  clear hW0
  refine C.out.mono ?_
  rintro _ w1 ⟨rfl, g1⟩
  obtain ⟨w2, hw2⟩ : ∃ w2, w1.alloc (.cells #[.int .i64 y0, .int .i64 y1, .int .u64 (y2 : Nat), .bool y3] 93) = w2 := ⟨_, rfl⟩
  have x0 : w2.cell? ⟨w1.heap.size, 0, none⟩ = some (.int .i64 y0) := by rw [← hw2]; simp [go_sem]
  have x1 : w2.cell? ⟨w1.heap.size, 1, none⟩ = some (.int .i64 y1) := by rw [← hw2]; simp [go_sem]
  have x2 : w2.cell? ⟨w1.heap.size, 2, none⟩ = some (.int .u64 (y2 : Nat)) := by rw [← hw2]; simp [go_sem]
  have x3 : w2.cell? ⟨w1.heap.size, 3, none⟩ = some (.bool y3) := by rw [← hw2]; simp [go_sem]
  have g2 : Grw W0 w2 := by rw [← hw2]; exact g1.alloc _
  have SZ : Hid (w.heap.size < w1.heap.size ∧ w1.heap.size < w2.heap.size) := (⟨by have := Below.size g1; omega, by rw [← hw2, size_new]; omega⟩ : w.heap.size < w1.heap.size ∧ w1.heap.size < w2.heap.size)
  have G2 := Lib.hid (G0.out.trans g2)
  have zl : w.heap.size < W0.heap.size := by omega
  have ZZ : Hid (∀ u, Grw w2 u → (u.cell? ⟨r, 4, none⟩ = some (.slice ao n cap) ∧ u.frozen? ⟨r, 4, none⟩ = false) ∧ (u.cell? ⟨w.heap.size, 0, none⟩ = some (.int .i64 0) ∧ u.cell? ⟨w.heap.size, 1, none⟩ = some (.int .i64 0) ∧ u.cell? ⟨w.heap.size, 2, none⟩ = some (.int .u64 0) ∧ u.cell? ⟨w.heap.size, 3, none⟩ = some (.bool false)) ∧ (u.frozen? ⟨w.heap.size, 0, none⟩ = false ∧ u.frozen? ⟨w.heap.size, 1, none⟩ = false ∧ u.frozen? ⟨w.heap.size, 2, none⟩ = false ∧ u.frozen? ⟨w.heap.size, 3, none⟩ = false) ∧ (u.cell? ⟨w1.heap.size, 0, none⟩ = some (.int .i64 y0) ∧ u.cell? ⟨w1.heap.size, 1, none⟩ = some (.int .i64 y1) ∧ u.cell? ⟨w1.heap.size, 2, none⟩ = some (.int .u64 (y2 : Nat)) ∧ u.cell? ⟨w1.heap.size, 3, none⟩ = some (.bool y3))) :=
    (fun u g => ⟨⟨by rw [← HN.out]; exact (G2.out.trans g).cell H.out.c0, frz_frm ((G2.out.trans g).frm (fun _ => False)) H.out.c0 (fun e => e) H.out.f0⟩, ⟨(g2.trans g).cell z0, (g2.trans g).cell z1, (g2.trans g).cell z2, (g2.trans g).cell z3⟩, ⟨by rw [Below.frozen (g2.trans g) zl]; exact zf 0, by rw [Below.frozen (g2.trans g) zl]; exact zf 1, by rw [Below.frozen (g2.trans g) zl]; exact zf 2, by rw [Below.frozen (g2.trans g) zl]; exact zf 3⟩, ⟨g.cell x0, g.cell x1, g.cell x2, g.cell x3⟩⟩ : ∀ u, Grw w2 u → (u.cell? ⟨r, 4, none⟩ = some (.slice ao n cap) ∧ u.frozen? ⟨r, 4, none⟩ = false) ∧ (u.cell? ⟨w.heap.size, 0, none⟩ = some (.int .i64 0) ∧ u.cell? ⟨w.heap.size, 1, none⟩ = some (.int .i64 0) ∧ u.cell? ⟨w.heap.size, 2, none⟩ = some (.int .u64 0) ∧ u.cell? ⟨w.heap.size, 3, none⟩ = some (.bool false)) ∧ (u.frozen? ⟨w.heap.size, 0, none⟩ = false ∧ u.frozen? ⟨w.heap.size, 1, none⟩ = false ∧ u.frozen? ⟨w.heap.size, 2, none⟩ = false ∧ u.frozen? ⟨w.heap.size, 3, none⟩ = false) ∧ (u.cell? ⟨w1.heap.size, 0, none⟩ = some (.int .i64 y0) ∧ u.cell? ⟨w1.heap.size, 1, none⟩ = some (.int .i64 y1) ∧ u.cell? ⟨w1.heap.size, 2, none⟩ = some (.int .u64 (y2 : Nat)) ∧ u.cell? ⟨w1.heap.size, 3, none⟩ = some (.bool y3)))
  clear z0 z1 z2 z3 zf zl x0 x1 x2 x3 g1 g2
  go_wp2_with fail
  clear hw2
  go_loopw [6, 7] (fun u6 u7 wr => ∃ (k : Nat) (M : List Gr), k ≤ n ∧ u7 = .int .i64 k ∧ M = (L.take k).filter (fun g => decide (g.n ≠ x)) ∧ wr.ownsRow w2.heap.size 91 3 u6 M.length (cg M) ∧ Grw w2 wr) (fun _ u7 _ => n - (intOf u7).toNat)
  case atStart => exact ⟨0, [], Nat.zero_le _, rfl, rfl, World.ownsRow_nil _ _ _ _, Grw.rfl' _⟩
  case round =>
    obtain ⟨k, M, hk, rfl, hM, hrow, hg⟩ := hrel
    have G := Lib.hid hg
    have RO := Lib.hid hrow
    have MM := Lib.hid hM
    obtain ⟨⟨cr, fr⟩, ⟨z0, z1, z2, z3⟩, ⟨f0, f1, f2, f3⟩, ⟨x0, x1, x2, x3⟩⟩ := ZZ.out _ hg
    clear hg hrow hM
    by_cases ck : k < n
    · have d1 : decide (k < n) = true := by simp [ck]
      have d2 : (k : Int) < (n : Int) := by omega
      have hkl : k < L.length := by rw [HN.out]; exact ck
      obtain ⟨b, o, rfl, e0, e1, e2⟩ := glies_at (LI.out.later (G2.out.trans G.out)) hkl
      obtain ⟨y, hy⟩ : ∃ y, L[k] = y := ⟨_, rfl⟩
      have hstep : (L.take (k + 1)).filter (fun g => decide (g.n ≠ x)) = M ++ [y].filter (fun g => decide (g.n ≠ x)) := by
        rw [← List.take_append_getElem hkl, List.filter_append, hy, MM.out]
      have HS := Lib.hid hstep
      have hml : M.length ≤ k := by rw [MM.out]; exact Nat.le_trans (List.length_filter_le _ _) (by rw [List.length_take]; omega)
      rw [hy] at e0 e1 e2
      obtain ⟨yn, yj, yu⟩ := y
      simp only at e0 e1 e2
      have q7 : IntKind.i64.wrap ((k : Int) + 1) = ((k + 1 : Nat) : Int) := by simp [IntKind.wrap_i64]; omega
      clear hy hkl hstep
      by_cases hx : yn = x
      · have t1 : (yn != x) = false := by simp [hx]
        have HX : Hid (M ++ [(⟨yn, yj, yu⟩ : Gr)].filter (fun g => decide (g.n ≠ x)) = M) := (by simp [hx] : M ++ [(⟨yn, yj, yu⟩ : Gr)].filter (fun g => decide (g.n ≠ x)) = M)
        clear hx
        go_wp2_with fail
        go_roundw
        case rel => exact ⟨k + 1, M, ck, rfl, by rw [HS.out, HX.out], RO.out, G.out⟩
        case measure => simp only [intOf]; omega
      · have t1 : (yn != x) = true := by simp [hx]
        have HX : Hid (M ++ [(⟨yn, yj, yu⟩ : Gr)].filter (fun g => decide (g.n ≠ x)) = M ++ [⟨yn, yj, yu⟩]) := (by simp [hx] : M ++ [(⟨yn, yj, yu⟩ : Gr)].filter (fun g => decide (g.n ≠ x)) = M ++ [⟨yn, yj, yu⟩])
        have O3 := Lib.hid (RO.out.alloc (.cells #[.int .i64 yn, .int .i64 yj, .int .u64 (yu : Nat)] 91))
        have D1 := Lib.hid (one_gr wr ⟨yn, yj, yu⟩)
        have D2 := Lib.hid (cg_one [⟨yn, yj, yu⟩])
        have GB := Lib.hid (Below.size G.out)
        clear hx
        go_wp2_with (at_builtin; refine wpList_append_own _ rfl _ _ 65 rfl w2.heap.size 91 i0 _ 3 24 Tryz.underlying65 hi hz0 hz1 hz2 rfl (by decide) _ _ _ rfl O3.out ⟨wr.heap.size, 0, none⟩ 1 1 (cg [⟨yn, yj, yu⟩]) rfl rfl D1.out D2.out (by unfold maxLen; omega) (by omega) (by have := GB.out; simp only [size_new]; omega) ?_)
        intro v4 w4 hrow4 hg4 _
        have G4 : Hid (Grw w2 w4) := (Grw.row (G.out.alloc _) hg4 O3.out : Grw w2 w4)
        go_wp2_with fail
        go_roundw
        case rel => exact ⟨k + 1, M ++ [⟨yn, yj, yu⟩], ck, rfl, by rw [HS.out, HX.out], by rw [cg_app]; simpa using hrow4, G4.out⟩
        case measure => simp only [intOf]; omega
    · have d1 : decide (k < n) = false := by simp [ck]
      have d2 : ¬ (k : Int) < (n : Int) := by omega
      obtain ⟨ao', cap', rfl⟩ := own_len RO.out
      have hfin : M = dr x L := by rw [MM.out, List.take_of_length_le (by rw [HN.out]; omega)]; rfl
      have ob := own_base RO.out (Below.size G2.out)
      have hr := World.block_lt_of_cell? _ _ H.out.c0
      simp only at hr
      have nb : ∀ q, (Value.slice ao' M.length cap').ownBlock = some q → w.heap.size ≤ q := fun q e => (ob.lt q e).1
      obtain ⟨R5, F5⟩ := H.out.row2 (G2.out.trans G.out) ob (by have := HN.out; rw [hfin]; unfold dr; exact Nat.le_trans (List.length_filter_le _ _) (by omega))
      obtain ⟨w5, hw5⟩ : ∃ w5, wr.setCell ⟨r, 4, none⟩ (.slice ao' M.length cap') = w5 := ⟨_, rfl⟩
      rw [hw5] at R5 F5
      have f5 : Frm (fun q => q = r) wr w5 := by rw [← hw5]; exact frm_set wr ⟨r, 4, none⟩ _ rfl
      have n1 : ¬ w.heap.size = r := by omega
      have s1 := Below.size (Grw.trans G0.out (Grw.rfl' W0))
      have n2 : ¬ w1.heap.size = r := by have := SZ.out; omega
      have a0 := f5.cell z0 n1
      have a1 := f5.cell z1 n1
      have a2 := f5.cell z2 n1
      have a3 := f5.cell z3 n1
      have b0 := frz_frm f5 z0 n1 f0
      have b1 := frz_frm f5 z1 n1 f1
      have b2 := frz_frm f5 z2 n1 f2
      have b3 := frz_frm f5 z3 n1 f3
      have c0 := f5.cell x0 n2
      have c1 := f5.cell x1 n2
      have c2 := f5.cell x2 n2
      have c3 := f5.cell x3 n2
      have FIN : Hid (∀ y : World, Frm (fun q => q = w.heap.size) w5 y → RT X y r last (.slice ao' M.length cap') (dr x L) ∧ Frm (fun k => k = r) w y ∧ ∀ k, (Value.slice ao' M.length cap').ownBlock = some k → w.heap.size ≤ k) := by
        refine (?_ : ∀ y : World, Frm (fun q => q = w.heap.size) w5 y → RT X y r last (.slice ao' M.length cap') (dr x L) ∧ Frm (fun k => k = r) w y ∧ ∀ k, (Value.slice ao' M.length cap').ownBlock = some k → w.heap.size ≤ k)
        intro y fy
        rw [← hfin]
        refine ⟨R5.keep fy ?_, F5.trans fy (fun q e => Or.inr (by rw [e]; exact Nat.le_refl _)), nb⟩
        rintro q (e | e) e'
        · omega
        · have := (RO.out.lt q e).1
          have := SZ.out
          have := Below.size (G2.out)
          omega
      clear RO ob nb R5 F5 f5 n1 n2 s1 hfin f0 f1 f2 f3
      go_wp2_with fail
      refine bodyPost_ret (v := .agg #[.int .i64 y0, .int .i64 y1, .int .u64 (y2 : Nat), .bool y3]) (by simp [results, Tryz.results39, go_sem, a0, a1, a2, a3]) rfl ⟨rfl, .slice ao' M.length cap', ?_⟩
      refine FIN.out _ ?_
      repeat (first | with_reducible exact Frm.rfl' _ _ | with_reducible refine Frm.set ?_ _ _ (Or.inl rfl))
end LE
end Go.Proofs.YtlopijcpnfkcgaaGreat
