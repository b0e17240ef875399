/- The document's queue: Take. -/
import Derived.Test.YtlopijcpnfkcgaaGreatQDf
import Derived.Test.YtlopijcpnfkcgaaGreatQDb
import Derived.Test.YtlopijcpnfkcgaaGreatQSk
namespace Go.Proofs.YtlopijcpnfkcgaaGreat
namespace QQ
open Go.RowKit
set_option linter.unusedSimpArgs false
variable {X : Nat → Value → Prop}

theorem RQ.bump {w : World} {r : Nat} {a room count : Int} {v : Value} {L : List Wt} (h : RQ X w r a room count v L) (c : Int) : RQ X (w.setCell ⟨r, 2, none⟩ (.int .i64 c)) r a room c v L := by
  have f : Frm (fun k => k = r) w (w.setCell ⟨r, 2, none⟩ (.int .i64 c)) := frm_set w ⟨r, 2, none⟩ _ rfl
  refine ⟨?_, ?_, World.cell?_setCell_same (u := _) _ _ _ h.c2, ?_, by simp [h.f2], by simp [h.f3], ownsRow_frm h.row f (fun k hk e => h.ne (by rw [hk, e])), h.ne, h.len, fun j u hx => ⟨(h.ex j u hx).1, (World.cell?_setCell_other w ⟨r, 2, none⟩ ⟨r, j, none⟩ _ (fun e => by injection e with _ e; exact (h.ex j u hx).1.1 e.symm)).trans (h.ex j u hx).2.1, by simp [(h.ex j u hx).2.2]⟩⟩
  · exact (World.cell?_setCell_other w ⟨r, 2, none⟩ ⟨r, 0, none⟩ _ (fun e => by injection e with _ e; cases e)).trans h.c0
  · exact (World.cell?_setCell_other w ⟨r, 2, none⟩ ⟨r, 1, none⟩ _ (fun e => by injection e with _ e; cases e)).trans h.c1
  · exact (World.cell?_setCell_other w ⟨r, 2, none⟩ ⟨r, 3, none⟩ _ (fun e => by injection e with _ e; cases e)).trans h.c3
/-- three cells of one's own. -/
structure F3 (w : World) (b : Nat) (c0 c1 c2 : Value) : Prop where
  c0 : w.cell? ⟨b, 0, none⟩ = some c0
  c1 : w.cell? ⟨b, 1, none⟩ = some c1
  c2 : w.cell? ⟨b, 2, none⟩ = some c2
  f0 : w.frozen? ⟨b, 0, none⟩ = false
  f1 : w.frozen? ⟨b, 1, none⟩ = false
  f2 : w.frozen? ⟨b, 2, none⟩ = false
theorem F3.one (w : World) (b : Nat) (hb : w.heap.size = b) (c0 c1 c2 : Value) (T : TypeId) : F3 (w.alloc (.cells #[c0, c1, c2] T)) b c0 c1 c2 := by
  subst hb
  exact ⟨by simp [go_sem], by simp [go_sem], by simp [go_sem], by simp [go_sem], by simp [go_sem], by simp [go_sem]⟩
theorem F3.frm {F : Nat → Prop} {w x : World} {b : Nat} {c0 c1 c2 : Value} (h : F3 w b c0 c1 c2) (f : Frm F w x) (hn : ¬ F b) : F3 x b c0 c1 c2 := by
  have hb := World.block_lt_of_cell? _ _ h.c0
  simp only at hb
  exact ⟨f.cell h.c0 hn, f.cell h.c1 hn, f.cell h.c2 hn, frz_frm f h.c0 hn h.f0, frz_frm f h.c1 hn h.f1, frz_frm f h.c2 hn h.f2⟩
theorem F3.lat {w x : World} {b : Nat} {c0 c1 c2 : Value} (h : F3 w b c0 c1 c2) (g : Grw w x) : F3 x b c0 c1 c2 := h.frm (g.frm (fun _ => False)) (fun e => e)
set_option maxHeartbeats 4000000 in
set_option maxRecDepth 100000 in
theorem rtake_none {r : Nat} {a room count : Int} {v : Value} {w : World} (h : RQ X w r a room count v []) :
    Calls Tryz.prog 34 #[.pointer (some ⟨r, 0, none⟩)] w fun e w' => e = .returned (.tuple #[wv ⟨0, 0, 0⟩, .int .i64 12]) ∧ Grw w w' := by
  obtain ⟨ao, cap, hv, hl⟩ := ownsRow_lies h.row
  subst hv
  have LI := Lib.hid hl
  have G0 := Lib.hid ((Grw.rfl' w).alloc (.cells #[.int .i64 0, .int .i64 0, .int .i64 0] 77))
  have C := Lib.hid (fun x (g : Grw w x) => rfirst_is a ao cap [] 0 (-1) x (LI.out.later g) (by simp) rfl rfl)
  have H := Lib.hid h
  have c0 := h.c0
  have c3 := h.c3
  obtain ⟨Z, hZ⟩ : ∃ Z, w.heap.size = Z := ⟨_, rfl⟩
  have F0 := Lib.hid (F3.one w Z hZ (.int .i64 0) (.int .i64 0) (.int .i64 0) 77)
  have m0' := (Grw.rfl' w).alloc (.cells #[.int .i64 0, .int .i64 0, .int .i64 0] 77)
  have e0 := m0'.cell c0
  have e3 := m0'.cell c3
  clear h hl c0 c3 m0'
  go_enter Tryz.func34, Tryz.ntmps34
  go_wp2_with fail
  have m0 := gw_cell e0
  have m1 := gw_cell e3
  refine wp_region_grown (by kernel_rfl) (by kernel_rfl) ?_
  repeat (go_big_quiet_step (first | (go_at_call 57; with_reducible exact calls_grown (C.out _ (G0.out.trans (GW.h _))))))
  refine wpQuiet_nil ?_
  rintro _ ⟨q, rfl⟩
  have F1 := Lib.hid (F0.out.lat q.h)
  have G1 := Lib.hid (G0.out.trans q.h)
  have hz := Lib.hid hZ
  have f0 := F1.out.c0
  have f1 := F1.out.c1
  have f2 := F1.out.c2
  have f3 := F1.out.f0
  have f4 := F1.out.f1
  have f5 := F1.out.f2
  clear m0 m1 e0 e3
  go_wp2_with fail
  exact bodyPost_ret (v := .tuple #[.agg #[.int .i64 0, .int .i64 0, .int .i64 0], .int .i64 12]) (by simp [results, Tryz.results34, go_sem, f0, f1, f2]) rfl ⟨rfl, by repeat (first | exact G1.out | (with_reducible refine Grw.set ?_ ?_ _; rotate_left; exact Nat.le_of_eq hz.out))⟩
set_option maxHeartbeats 8000000 in
set_option maxRecDepth 100000 in
theorem rtake_some {r : Nat} {a room count : Int} {v : Value} {L : List Wt} {w : World} (h : RQ X w r a room count v L) {k : Nat} (hf : Fst a L k) (hids : (L.map Wt.id).Nodup) (h0 : 0 ≤ count) (h1 : count ≤ 4611686018427387904) :
    Calls Tryz.prog 34 #[.pointer (some ⟨r, 0, none⟩)] w fun e w' => e = .returned (.tuple #[wv (gt L k), .int .i64 0]) ∧ ∃ v', RQ X w' r a room (count + 1) v' (rem L k) ∧ Frm (fun k => k = r) w w' ∧ (∀ k, v'.ownBlock = some k → w.heap.size ≤ k) := by
  obtain ⟨ao, cap, hv, hl⟩ := ownsRow_lies h.row
  subst hv
  have LI := Lib.hid hl
  obtain ⟨n, hn⟩ : ∃ n, L.length = n := ⟨_, rfl⟩
  have HN := Lib.hid hn
  have hkn : k < n := by rw [← hn]; exact hf.lt
  have G0 := Lib.hid ((Grw.rfl' w).alloc (.cells #[.int .i64 0, .int .i64 0, .int .i64 0] 77))
  have C := Lib.hid (fun x (g : Grw w x) => rfirst_is a ao cap L n k x (LI.out.later g) (by have := h.len; omega) hn (frs_of hf))
  have H := Lib.hid h
  have hr := World.block_lt_of_cell? _ _ h.c0
  simp only at hr
  have HR := Lib.hid hr
  obtain ⟨x, hx⟩ : ∃ x, gt L k = x := ⟨_, rfl⟩
  have HX := Lib.hid hx
  have DR := Lib.hid (fun y (q : RQ X y r a room count (.slice ao L.length cap) L) => rdrop_yes q x.id k hf.lt (by rw [hx]) (fun j hj e => by
    exact ids_inj hids hj hf.lt (by rw [e, hx])))
  have q1 : IntKind.i64.wrap (count + 1) = count + 1 := by simp [IntKind.wrap_i64]; omega
  have ck : decide ((k : Int) < 0) = false := by simp
  have c0 := h.c0
  have c3 := h.c3
  rw [hn] at c3
  obtain ⟨Z, hZ⟩ : ∃ Z, w.heap.size = Z := ⟨_, rfl⟩
  have F0 := Lib.hid (F3.one w Z hZ (.int .i64 0) (.int .i64 0) (.int .i64 0) 77)
  have m0' := (Grw.rfl' w).alloc (.cells #[.int .i64 0, .int .i64 0, .int .i64 0] 77)
  have e0 := m0'.cell c0
  have e3 := m0'.cell c3
  have HF := Lib.hid hf.lt
  clear h hl c0 c3 m0' hr hids hf hn
  go_enter Tryz.func34, Tryz.ntmps34
  go_wp2_with fail
  have m0 := gw_cell e0
  have m1 := gw_cell e3
  refine wp_region_grown (by kernel_rfl) (by kernel_rfl) ?_
  repeat (go_big_quiet_step (first | (go_at_call 57; with_reducible exact calls_grown (C.out _ (G0.out.trans (GW.h _))))))
  refine wpQuiet_nil ?_
  rintro _ ⟨q, rfl⟩
  obtain ⟨w1, hw1⟩ : ∃ w1, q.x = w1 := ⟨_, rfl⟩
  have F1 := Lib.hid (F0.out.lat q.h)
  have G1 := Lib.hid (G0.out.trans q.h)
  have ZZ := Lib.hid (show Z < q.x.heap.size by have := Below.size q.h; rw [size_new, hZ] at this; omega)
  rw [hw1] at F1 G1 ZZ ⊢
  have H1 := Lib.hid (H.out.later G1.out)
  obtain ⟨b, o, rfl, y0, y1, y2⟩ := wlies_at (LI.out.later G1.out) HF.out
  rw [← gt_at HF.out, HX.out] at y0 y1 y2
  have e3' := H1.out.c3
  rw [HN.out] at e3'
  have hki : (k : Int) < (n : Int) := by omega
  obtain ⟨xi, xc, xm⟩ := x
  simp only at y0 y1 y2
  obtain ⟨d, hd⟩ : ∃ d, w1.heap.size = d := ⟨_, rfl⟩
  have FD := Lib.hid (F3.one w1 d hd (.int .i64 xi) (.int .i64 xc) (.int .i64 xm) 77)
  have H2 := Lib.hid (H1.out.later ((Grw.rfl' w1).alloc (.cells #[.int .i64 xi, .int .i64 xc, .int .i64 xm] 77)))
  have F2 := Lib.hid (F1.out.lat ((Grw.rfl' w1).alloc (.cells #[.int .i64 xi, .int .i64 xc, .int .i64 xm] 77)))
  have HD := Lib.hid (And.intro hd hZ)
  have DD := Lib.hid (DR.out _ H2.out)
  clear m0 m1 e0 e3 hw1 hZ hkn
  go_wp2_with fail
  refine DD.out.mono ?_
  rintro _ w3 ⟨rfl, v', rq, fr, hv⟩
  have dr : d ≠ r := by have := HR.out; have := Below.size G1.out; have := HD.out.1; omega
  have Zr : Z ≠ r := by have := HR.out; have := HD.out.2; omega
  have FD3 := FD.out.frm fr dr
  have F3' := F2.out.frm fr Zr
  have R3 := Lib.hid rq
  have FR := Lib.hid fr
  have HV := Lib.hid hv
  have FF := Lib.hid F3'
  have c2 := rq.c2
  have f2 := rq.f2
  have u0 := FD3.c0
  have u1 := FD3.c1
  have u2 := FD3.c2
  have z0 := F3'.c0
  have z1 := F3'.c1
  have z2 := F3'.c2
  have z3 := F3'.f0
  have z4 := F3'.f1
  have z5 := F3'.f2
  have fz := frm_set (F := fun k => k = r) w3 ⟨r, 2, none⟩ (.int .i64 (count + 1)) rfl
  have t0 := fz.cell u0 dr
  have t1 := fz.cell u1 dr
  have t2 := fz.cell u2 dr
  have s0 := fz.cell z0 Zr
  have s1 := fz.cell z1 Zr
  have s2 := fz.cell z2 Zr
  clear hd y0 y1 y2 e3' rq fr hv FD3 F3' fz
  go_wp2_with fail
  have fZ : Frm (fun q => q = Z) (w3.setCell ⟨r, 2, none⟩ (.int .i64 (count + 1))) ((((w3.setCell ⟨r, 2, none⟩ (.int .i64 (count + 1))).setCell ⟨Z, 0, none⟩ (.int .i64 xi)).setCell ⟨Z, 1, none⟩ (.int .i64 xc)).setCell ⟨Z, 2, none⟩ (.int .i64 xm)) :=
    ((frm_set (F := fun q => q = Z) _ ⟨Z, 0, none⟩ (.int .i64 xi) rfl).set ⟨Z, 1, none⟩ (.int .i64 xc) (Or.inl rfl)).set ⟨Z, 2, none⟩ (.int .i64 xm) (Or.inl rfl)
  have fR : Frm (fun q => q = r) w (w3.setCell ⟨r, 2, none⟩ (.int .i64 (count + 1))) :=
    (((G1.out.alloc (.cells #[.int .i64 xi, .int .i64 xc, .int .i64 xm] 77)).frm (fun q => q = r)).trans FR.out (fun _ e => Or.inl e)).trans (frm_set (F := fun q => q = r) w3 ⟨r, 2, none⟩ (.int .i64 (count + 1)) rfl) (fun _ e => Or.inl e)
  have vz : ∀ q, v'.ownBlock = some q → Z < q := fun q e => by have := HV.out q e; have := ZZ.out; simp only [size_new] at *; omega
  refine bodyPost_ret (v := .tuple #[.agg #[.int .i64 xi, .int .i64 xc, .int .i64 xm], .int .i64 0]) (by simp [results, Tryz.results34, go_sem, s0, s1, s2]) rfl ⟨by rw [HX.out]; rfl, v', (R3.out.bump (count + 1)).keep fZ ?_, fR.trans fZ (fun q e => Or.inr (by rw [e]; exact Nat.le_of_eq HD.out.2)), fun q e => ?_⟩
  · rintro q (rfl | e) c
    · exact Zr c.symm
    · have := vz q e; omega
  · have := vz q e; have := HD.out.2; omega
end QQ
end Go.Proofs.YtlopijcpnfkcgaaGreat
