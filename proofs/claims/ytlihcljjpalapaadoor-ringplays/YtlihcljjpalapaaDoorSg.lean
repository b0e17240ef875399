/- The contract of the document's Drop at this program. -/
import Derived.Test.YtlihcljjpalapaaDoorSf
namespace Go.Proofs.YtlihcljjpalapaaDoor
open Go.RowKit MK
open RG (Du La listR putB putR dropR dropO takeR hasId inSlot)
set_option linter.unusedSimpArgs false

theorem empty3 (w : World) : ((w.alloc (.cells #[] 62)).drew).ownsRow w.heap.size 62 3 (.slice (some ⟨w.heap.size, 0, none⟩) 0 0) 0 [] :=
  World.ownsRow_lit w #[] 0 (Nat.le_refl _) (by unfold maxLen; omega) rfl
/-- the two appends that leave element k out. -/
theorem drop_appends (w : World) (a : Addr) (cap : Nat) (R : List La) (k : Nat) (hk : k < R.length) (hl : Lies w (some a) (cl R)) (hb : R.length ≤ 1000) (ad : Addr) (c : Nat) (had : R.length = k + 1 ∨ ad = a.add ((k + 1) * 3)) :
    ∃ v1 y1 v2 y2, (Builtin.append_ #[26, 26] 26 #[.slice (some ⟨w.heap.size, 0, none⟩) 0 0, .slice (some a) k cap]).run Tryd.prog ((w.alloc (.cells #[] 62)).drew) = .ok v1 y1 ∧
      (Builtin.append_ #[26, 26] 26 #[v1, .slice (some ad) (R.length - (k + 1)) c]).run Tryd.prog y1 = .ok v2 y2 ∧ y2.ownsRow w.heap.size 62 3 v2 (R.take k ++ R.drop (k + 1)).length (cl (R.take k ++ R.drop (k + 1))) ∧ Grw w y1 ∧ Grw w y2 := by
  obtain ⟨i0, hi, hz0, hz1, hz2⟩ := info_parts Tryd.info62
  have g1 : Grw w ((w.alloc (.cells #[] 62)).drew) := ((Grw.rfl' w).alloc _).drew
  obtain ⟨b, off, e, _, hc⟩ : ∃ b off, a = ⟨b, off, none⟩ ∧ b < w.heap.size ∧ ∀ j u, (cl R)[j]? = some u → w.cell? ⟨b, off + j, none⟩ = some u := by
    rcases hl with h | ⟨b, off, e, hb', hc⟩
    · have := cl_len R
      rw [h] at this
      simp at this
      omega
    · injection e with e
      exact ⟨b, off, e, hb', hc⟩
  subst e
  obtain ⟨v1, y1, hr1, ho1, hgr1, _⟩ := run_append_own (P := Tryd.prog) ((w.alloc (.cells #[] 62)).drew) w.heap.size 26 26 62 i0 _ 3 24 Tryd.underlying26 hi hz0 hz1 hz2 rfl (by decide) _ 0 [] (empty3 w) ⟨b, off, none⟩ k cap ((cl R).take (k * 3)) (by rw [List.length_take, cl_len]; omega)
    (fun j u hj => by
      rw [Addr.add_lit]
      rw [List.getElem?_take] at hj
      split at hj
      · exact g1.cell (hc j u hj)
      · cases hj) (fun u hu => cl_one R u (List.mem_of_mem_take hu)) (by unfold maxLen; omega) (by omega) (Below.size g1)
  have gy1 : Grw w y1 := Below.grown g1 hgr1 (Below.size g1) (fun q e => by injection e with e; rw [← e]; exact Nat.le_refl _)
  obtain ⟨v2, y2, hr2, ho2, hgr2, _⟩ := run_append_own (P := Tryd.prog) y1 w.heap.size 26 26 62 i0 _ 3 24 Tryd.underlying26 hi hz0 hz1 hz2 rfl (by decide) _ (0 + k) ([] ++ (cl R).take (k * 3)) ho1 ad (R.length - (k + 1)) c ((cl R).drop ((k + 1) * 3)) (by rw [List.length_drop, cl_len]; omega)
    (fun j u hj => by
      rcases had with h | h
      · rw [List.drop_eq_nil_of_le (by rw [cl_len]; omega)] at hj; cases hj
      · subst h
        rw [List.getElem?_drop] at hj
        rw [Addr.add_lit, Addr.add_lit, Nat.add_assoc]
        exact gy1.cell (hc _ u hj)) (fun u hu => cl_one R u (List.mem_of_mem_drop hu)) (by unfold maxLen; omega) (by omega) (Below.size gy1)
  refine ⟨v1, y1, v2, y2, hr1, hr2, ?_, gy1, Below.grown gy1 hgr2 (Below.size gy1) (fun q e => (ho1.lt q e).1)⟩
  rw [cl_app, cl_take, cl_drop, show (R.take k ++ R.drop (k + 1)).length = 0 + k + (R.length - (k + 1)) by simp; omega]
  exact ho2
/-- the document's slice is given another row; two cells of a block of the call's own are written behind it. -/
theorem ref_set2 {w wk x : World} {q D : Nat} {v v' : Value} {R R' : List La} (h : RefL w q v R) (gk : Grw w wk) (hD : w.heap.size ≤ D) (hDk : D < wk.heap.size) (g : Grw wk x) (ho : x.ownsRow wk.heap.size 62 3 v' R'.length (cl R')) (few : R'.length ≤ 1000) (a b : Value) :
    RefQ q v w R' (((x.setCell ⟨q, 0, none⟩ v').setCell ⟨D, 0, none⟩ a).setCell ⟨D, 1, none⟩ b) := by
  have hq := h.lt
  have gw := gk.trans g
  have hqx : x.heap[q]? = some (.cells #[v] 28 (0, 0)) := by rw [gw.block hq]; exact h.blk
  have hnb : v'.ownBlock ≠ some q := fun e => by have := (ho.lt q e).1; have := Below.size gk; omega
  have hnD : v'.ownBlock ≠ some D := fun e => by have := (ho.lt D e).1; omega
  have hset : Frm (fun k => k = q) x (x.setCell ⟨q, 0, none⟩ v') := frm_set x ⟨q, 0, none⟩ v' rfl
  have r1 : RefL (x.setCell ⟨q, 0, none⟩ v') q v' R' := ⟨by simp [World.setCell, Array.getElem?_modify, hqx], ownsRow_frm (own0 ho) hset (fun k e c => hnb (by rw [e, c])), hnb, few⟩
  have s2 : Frm (fun k => k = D) (x.setCell ⟨q, 0, none⟩ v') (((x.setCell ⟨q, 0, none⟩ v').setCell ⟨D, 0, none⟩ a).setCell ⟨D, 1, none⟩ b) := (frm_set (F := fun k => k = D) _ ⟨D, 0, none⟩ a rfl).trans (frm_set (F := fun k => k = D) _ ⟨D, 1, none⟩ b rfl) (fun _ e => Or.inl e)
  refine ⟨v', r1.frm s2 (fun k hk c => ?_), ((gw.frm (rfoot q v)).trans hset (fun k e => Or.inl (Or.inl e))).trans s2 (fun k e => Or.inr (by rw [e]; exact hD)), fun k hk => ?_⟩
  · rcases hk with rfl | hk
    · omega
    · exact hnD (by rw [hk, c])
  · rcases hk with rfl | hk
    · exact Or.inl (Or.inl rfl)
    · right
      have := (ho.lt k hk).1
      have := Below.size gk
      omega
theorem kp_set {x : World} {D q : Nat} {a b : Value} (k : Kp x D a b) (h : D ≠ q) (v : Value) : Kp (x.setCell ⟨q, 0, none⟩ v) D a b := by
  have hf := frm_set (F := fun k => k = q) x ⟨q, 0, none⟩ v rfl
  refine ⟨⟨hf.cell k.t.c0 h, hf.cell k.t.c1 h, ?_, ?_⟩, Nat.lt_of_lt_of_le k.lt hf.size⟩
  · rw [World.frozen?_of_block (hf.block D k.lt h)]; exact k.t.f0
  · rw [World.frozen?_of_block (hf.block D k.lt h)]; exact k.t.f1
def RdropQ (q : Nat) (v : Value) (R : List La) (id : Int) (w : World) (e : Ending) (w' : World) : Prop := e = .returned (.agg #[.int .i64 (ov (dropO R id)), .bool (dropO R id).isSome]) ∧ RefQ q v w (dropR R id) w'
set_option maxHeartbeats 8000000 in
set_option maxRecDepth 100000 in
theorem rdrop_R (q : Nat) (v : Value) (R : List La) (id : Int) (w : World) (h : RefL w q v R) (g : RG.Good R) : Calls Tryd.prog 11 #[.pointer (some ⟨q, 0, none⟩), .int .i64 id] w (RdropQ q v R id w) := by
  have RR := Lib.hid h
  have hf := h.few
  have g1 : Grw w (w.alloc (.cells #[.int .i64 0, .bool false] 39)) := (Grw.rfl' w).alloc _
  have FI := Lib.hid (rfind_any q v R id _ (h.later g1))
  have GD := Lib.hid g
  have K := Kp.new w (.int .i64 0) (.bool false) 39
  obtain ⟨wk, hwk⟩ : ∃ wk, w.alloc (.cells #[.int .i64 0, .bool false] 39) = wk := ⟨_, rfl⟩
  have hws : w.heap.size < wk.heap.size := by rw [← hwk, size_new]; omega
  rw [hwk] at g1 FI K
  have HW := Lib.hid hwk
  clear h g
  go_enter Tryd.func11, Tryd.ntmps11
  go_wp2_with fail
  clear hwk
  refine FI.out.mono ?_
  rintro _ w1 ⟨p, rfl, hp, rfl⟩
  rcases hp with ⟨k, hk, rfl, he, hfirst⟩ | ⟨rfl, hno⟩
  · have DO := Lib.hid (show dropO R id = some (R[k]).s by rw [← he]; exact RG.dropO_at hk (fun j hj => by rw [he]; exact hfirst j (by omega) hj))
    have DR := Lib.hid (show dropR R id = R.take k ++ R.drop (k + 1) by rw [← he]; exact RG.dropR_at GD.out hk)
    obtain ⟨ao, cap, hv, hl⟩ := (RR.out.later g1).row
    obtain ⟨b, off, rfl, c0, _, _⟩ := lies3 hl hk
    obtain ⟨xs, hxs⟩ : ∃ xs, (R[k]).s = xs := ⟨_, rfl⟩
    rw [hxs] at c0 DO
    clear hxs he hfirst
    have hnc : R.length ≤ cap := by
      rcases (RR.out.later g1).own.2 with ⟨h1, h2⟩ | ⟨_, _, _, h1, _, _, h3, _⟩
      · rw [hv] at h1; cases h1
      · rw [hv] at h1; injection h1 with _ _ h4; rw [h4]; exact h3
    have hc63 : cap ≤ 9223372036854775807 := by
      rcases (RR.out.later g1).own.2 with ⟨h1, h2⟩ | ⟨_, _, _, h1, _, _, _, h3, _⟩
      · rw [hv] at h1; cases h1
      · rw [hv] at h1; injection h1 with _ _ h4; rw [h4]; unfold maxLen at h3; omega
    by_cases hck : cap = k + 1
    · skip
      obtain ⟨v1, y1, v2, y2, hr1, hr2, ho2, gy1, gy2⟩ := drop_appends wk ⟨b, off, none⟩ cap R k hk hl hf ⟨b, off, none⟩ 0 (Or.inl (by omega))
      have U := Lib.hid (fun a' b' => ref_set2 (D := w.heap.size) (R' := R.take k ++ R.drop (k + 1)) RR.out g1 (Nat.le_refl _) hws gy2 ho2 (by simp; omega) a' b')
      obtain ⟨ao2, cap2, hv2, _⟩ := ownsRow_lies ho2
      have KY := kp_set (K.later gy2) (show w.heap.size ≠ q by have := RR.out.lt; omega) v2
      have z0 := KY.t.c0
      have z1 := KY.t.c1
      have z2 := KY.t.f0
      have z3 := KY.t.f1
      obtain ⟨m2, hm2⟩ : ∃ m2, (R.take k ++ R.drop (k + 1)).length = m2 := ⟨_, rfl⟩
      rw [hm2] at hv2
      subst hv2
      have hcq := (RR.out.later g1).cell
      have hcq1 := ((RR.out.later g1).later (((Grw.rfl' wk).alloc (.cells #[] 62)).drew)).cell
      have hcq2 := ((RR.out.later g1).later gy1).cell
      have hcq3 := ((RR.out.later g1).later gy2).cell
      have hfq3 := ((RR.out.later g1).later gy2).free
      obtain ⟨n, hn⟩ : ∃ n, R.length = n := ⟨_, rfl⟩
      subst hv
      rw [hn] at hcq hcq1 hcq2 hcq3 hr2
      have hkn : k < n := by omega
      have hkni : (k : Int) < (n : Int) := by omega
      have hkc : k ≤ cap := by omega
      have hk1 : (k : Int) + 1 ≤ (n : Int) := by omega
      have hw1 : IntKind.i64.wrap ((k : Int) + 1) = (k : Int) + 1 := by rw [IntKind.wrap_i64]; omega
      have hb1 : (0 : Int) ≤ (k : Int) + 1 := by omega
      have htn : ((k : Int) + 1).toNat = k + 1 := by omega
      have hneg : ¬ (k : Int) < 0 := by omega
      have hki1 : (k : Int) ≤ (k : Int) + 1 := by omega
      have hnk : n = k + 1 := by omega
      rw [hnk, Nat.sub_self] at hr2
      subst hnk
      subst hck
      have DOX := Lib.hid (show ov (dropO R id) = xs ∧ (dropO R id).isSome = true by rw [DO.out]; exact ⟨rfl, rfl⟩)
      clear ho2 gy1 gy2 hl K KY hf
      go_wp2_with fail
      go_region_law (first | (refine step_append_run rfl (.tmp 22) (.tmp 28) 26 rfl _ _ (by simp [Act.eval, Act.put]) (by simp [Act.eval, Act.put]) hr1 ?_) | (refine step_append_run rfl (.tmp 29) (.tmp 36) 26 rfl _ _ (by simp [Act.eval, Act.put]) (by simp [Act.eval, Act.put]) hr2 ?_))
      all_goals (clear hr1 hr2; go_wp2_with fail; exact bodyPost_ret (v := .agg #[.int .i64 xs, .bool true]) (by simp [results, Tryd.results11, go_sem, z0, z1]) rfl ⟨by rw [DOX.out.1, DOX.out.2], by rw [DR.out]; exact U.out _ _⟩)
    · skip
      obtain ⟨v1, y1, v2, y2, hr1, hr2, ho2, gy1, gy2⟩ := drop_appends wk ⟨b, off, none⟩ cap R k hk hl hf ⟨b, off + (k + 1) * 3, none⟩ (cap - (k + 1)) (Or.inr (by rw [Addr.add_lit]))
      have U := Lib.hid (fun a' b' => ref_set2 (D := w.heap.size) (R' := R.take k ++ R.drop (k + 1)) RR.out g1 (Nat.le_refl _) hws gy2 ho2 (by simp; omega) a' b')
      obtain ⟨ao2, cap2, hv2, _⟩ := ownsRow_lies ho2
      have KY := kp_set (K.later gy2) (show w.heap.size ≠ q by have := RR.out.lt; omega) v2
      have z0 := KY.t.c0
      have z1 := KY.t.c1
      have z2 := KY.t.f0
      have z3 := KY.t.f1
      obtain ⟨m2, hm2⟩ : ∃ m2, (R.take k ++ R.drop (k + 1)).length = m2 := ⟨_, rfl⟩
      rw [hm2] at hv2
      subst hv2
      have hcq := (RR.out.later g1).cell
      have hcq1 := ((RR.out.later g1).later (((Grw.rfl' wk).alloc (.cells #[] 62)).drew)).cell
      have hcq2 := ((RR.out.later g1).later gy1).cell
      have hcq3 := ((RR.out.later g1).later gy2).cell
      have hfq3 := ((RR.out.later g1).later gy2).free
      obtain ⟨n, hn⟩ : ∃ n, R.length = n := ⟨_, rfl⟩
      subst hv
      rw [hn] at hcq hcq1 hcq2 hcq3 hr2
      have hkn : k < n := by omega
      have hkni : (k : Int) < (n : Int) := by omega
      have hkc : k ≤ cap := by omega
      have hk1 : (k : Int) + 1 ≤ (n : Int) := by omega
      have hw1 : IntKind.i64.wrap ((k : Int) + 1) = (k : Int) + 1 := by rw [IntKind.wrap_i64]; omega
      have hb1 : (0 : Int) ≤ (k : Int) + 1 := by omega
      have htn : ((k : Int) + 1).toNat = k + 1 := by omega
      have hneg : ¬ (k : Int) < 0 := by omega
      have hcap1 : ¬ cap = k + 1 := hck
      have DOX := Lib.hid (show ov (dropO R id) = xs ∧ (dropO R id).isSome = true by rw [DO.out]; exact ⟨rfl, rfl⟩)
      clear ho2 gy1 gy2 hl K KY hf
      go_wp2_with fail
      go_region_law (first | (refine step_append_run rfl (.tmp 22) (.tmp 28) 26 rfl _ _ (by simp [Act.eval, Act.put]) (by simp [Act.eval, Act.put]) hr1 ?_) | (refine step_append_run rfl (.tmp 29) (.tmp 36) 26 rfl _ _ (by simp [Act.eval, Act.put]) (by simp [Act.eval, Act.put]) hr2 ?_))
      all_goals (clear hr1 hr2; go_wp2_with fail; exact bodyPost_ret (v := .agg #[.int .i64 xs, .bool true]) (by simp [results, Tryd.results11, go_sem, z0, z1]) rfl ⟨by rw [DOX.out.1, DOX.out.2], by rw [DR.out]; exact U.out _ _⟩)
  · have hh := RG.hasId_no hno
    have DO := Lib.hid (RG.dropO_no hh)
    have DR := Lib.hid (RG.dropR_no hh)
    have c0 := K.t.c0
    have c1 := K.t.c1
    have f0 := K.t.f0
    have f1 := K.t.f1
    clear hno hh K
    have hq := RR.out.lt
    go_wp2_with fail
    exact bodyPost_ret (v := .agg #[.int .i64 0, .bool false]) (by simp [results, Tryd.results11, go_sem, c0, c1]) rfl ⟨by rw [DO.out]; rfl, by rw [DR.out]; exact refQ_same RR.out (g1.set2 (Nat.le_refl _) _ _)⟩
end Go.Proofs.YtlihcljjpalapaaDoor
