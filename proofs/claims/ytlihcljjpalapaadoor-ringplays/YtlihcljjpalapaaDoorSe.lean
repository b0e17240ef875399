/- The contracts of the document's Put and Take at this program. -/
import Derived.Test.YtlihcljjpalapaaDoorSd
import Derived.Deep.RegionLaw
namespace Go.Proofs.YtlihcljjpalapaaDoor
open Go.RowKit MK
open RG (Du La listR putB putR dropR dropO takeR hasId inSlot)
set_option linter.unusedSimpArgs false

theorem Tryd.info62 : (Tryd.prog.info? 62).map (fun i => (i.zero, i.size, i.bytes)) = some (some (.agg #[.int .i64 0, .int .i64 0, .int .u64 0]), 3, 24) := by kernel_rfl
def RefQ (q : Nat) (v : Value) (w : World) (R : List La) (w' : World) : Prop := ∃ v', RefL w' q v' R ∧ Frm (rfoot q v) w w' ∧ ∀ g, rfoot q v' g → rfoot q v g ∨ w.heap.size ≤ g
theorem refQ_same {q : Nat} {v : Value} {w w' : World} {R : List La} (h : RefL w q v R) (g : Grw w w') : RefQ q v w R w' := ⟨v, h.later g, g.frm _, fun _ e => Or.inl e⟩
theorem refQ_set {w u x : World} {q : Nat} {v v' : Value} {R R' : List La} (h : RefL w q v R) (gu : Grw w u) (g : Frm (fun k => v.ownBlock = some k) u x) (ho : x.ownsRow 0 62 3 v' R'.length (cl R'))
    (hb : v'.ownBlock = v.ownBlock ∨ v'.ownBlock = none ∨ ∃ k, v'.ownBlock = some k ∧ w.heap.size ≤ k) (few : R'.length ≤ 1000) : RefQ q v w R' (x.setCell ⟨q, 0, none⟩ v') := by
  have gx : Frm (fun k => v.ownBlock = some k) w x := (gu.frm _).trans g (fun _ e => Or.inl e)
  have hqx : x.heap[q]? = some (.cells #[v] 28 (0, 0)) := by rw [gx.block q h.lt h.ne]; exact h.blk
  have hnb : v'.ownBlock ≠ some q := by
    rcases hb with e | e | ⟨k, e, hk⟩
    · rw [e]; exact h.ne
    · rw [e]; intro c; cases c
    · rw [e]
      intro c
      injection c with c
      have := h.lt
      omega
  have hset : Frm (fun k => k = q) x (x.setCell ⟨q, 0, none⟩ v') := frm_set x ⟨q, 0, none⟩ v' rfl
  refine ⟨v', ⟨?_, ownsRow_frm ho hset (fun k e c => hnb (by rw [e, c])), hnb, few⟩, (gx.mono (fun k e => Or.inr e)).trans hset (fun k e => Or.inl (Or.inl e)), fun k hk => ?_⟩
  · simp [World.setCell, Array.getElem?_modify, hqx]
  · rcases hk with rfl | hk
    · exact Or.inl (Or.inl rfl)
    · rcases hb with e | e | ⟨k', e, hk'⟩
      · exact Or.inl (Or.inr (by rw [← e]; exact hk))
      · rw [e] at hk; cases hk
      · rw [e] at hk
        injection hk with hk
        right; omega
theorem rf_has {R : List La} {id p : Int} (h : RfQ R id p) : (0 ≤ p ∧ hasId R id = true) ∨ (p = -1 ∧ hasId R id = false) := by
  rcases h with ⟨k, hk, rfl, e, _⟩ | ⟨rfl, hno⟩
  · left
    refine ⟨by omega, ?_⟩
    rw [← e]; exact RG.hasId_at hk
  · exact Or.inr ⟨rfl, RG.hasId_no hno⟩
def RputQ (q : Nat) (v : Value) (R : List La) (s : Int) (d : Du) (w : World) (e : Ending) (w' : World) : Prop := e = .returned (.bool (putB R s d)) ∧ RefQ q v w (putR R s d) w'
theorem putB_out {R : List La} {s : Int} {d : Du} (h : ¬ (0 ≤ s ∧ s < 64)) : putB R s d = false ∧ putR R s d = R := by
  have hb : putB R s d = false := by unfold RG.putB RG.slotB; simp [h]
  exact ⟨hb, by unfold RG.putR; rw [if_neg (by rw [hb]; decide)]⟩
theorem putB_has {R : List La} {s : Int} {d : Du} (h : hasId R d.id = true) : putB R s d = false ∧ putR R s d = R := by
  have hb : putB R s d = false := by unfold RG.putB; rw [h]; simp
  exact ⟨hb, by unfold RG.putR; rw [if_neg (by rw [hb]; decide)]⟩
theorem putB_new {R : List La} {s : Int} {d : Du} (hs : 0 ≤ s ∧ s < 64) (h : hasId R d.id = false) : putB R s d = true ∧ putR R s d = R ++ [⟨s, d⟩] := by
  have hb : putB R s d = true := by unfold RG.putB RG.slotB; rw [h]; simp [hs]
  exact ⟨hb, by unfold RG.putR; rw [if_pos hb]⟩
set_option maxHeartbeats 4000000 in
set_option maxRecDepth 100000 in
theorem rput_R (q : Nat) (v : Value) (R : List La) (s : Int) (d : Du) (w : World) (h : RefL w q v R) (hf : R.length < 1000) : Calls Tryd.prog 9 #[.pointer (some ⟨q, 0, none⟩), .int .i64 s, dv d] w (RputQ q v R s d w) := by
  obtain ⟨i0, hi, hz0, hz1, hz2⟩ := info_parts Tryd.info62
  have RR := Lib.hid h
  obtain ⟨di, dt⟩ := d
  have FI := Lib.hid (fun u (g : Grw w u) => rfind_any q v R di u (h.later g))
  clear h
  unfold dv
  simp only
  by_cases h0 : 0 ≤ s
  · have n0 : ¬ s < 0 := by omega
    by_cases h6 : s < 64
    · have n6 : ¬ 64 ≤ s := by omega
      go_enter Tryd.func9, Tryd.ntmps9
      go_wp2_with fail
      refine (FI.out _ ((Grw.rfl' _).alloc _)).mono ?_
      rintro _ w1 ⟨p, rfl, hp, rfl⟩
      rcases rf_has hp with ⟨hp0, hh⟩ | ⟨rfl, hh⟩
      · have P := Lib.hid (putB_has (s := s) (d := ⟨di, dt⟩) hh)
        clear hp hh
        go_wp2_with fail
        go_ret
        exact ⟨by rw [P.out.1]; rfl, by rw [P.out.2]; exact refQ_same RR.out ((Grw.rfl' _).alloc _)⟩
      · have P := Lib.hid (putB_new (d := ⟨di, dt⟩) ⟨h0, h6⟩ hh)
        clear hp hh
        have g1 : Grw w (w.alloc (.cells #[.int .i64 di, .int .u64 dt] 31)) := (Grw.rfl' w).alloc _
        have g2 : Grw (w.alloc (.cells #[.int .i64 di, .int .u64 dt] 31)) (((w.alloc (.cells #[.int .i64 di, .int .u64 dt] 31)).alloc (.cells #[.int .i64 s, .int .i64 di, .int .u64 dt] 62)).drew) := ((Grw.rfl' _).alloc _).drew
        obtain ⟨wk, hwk⟩ : ∃ wk, w.alloc (.cells #[.int .i64 di, .int .u64 dt] 31) = wk := ⟨_, rfl⟩
        have K := Kp.new w (.int .i64 di) (.int .u64 dt) 31
        rw [hwk] at g1 g2 K ⊢
        have hlit : ((wk.alloc (.cells #[.int .i64 s, .int .i64 di, .int .u64 dt] 62)).drew).heap[wk.heap.size]? = some (.cells (cl [(⟨s, ⟨di, dt⟩⟩ : La)]).toArray 62 (0, 0)) := heap_alloc_new wk _
        obtain ⟨v', y, hr, ho, hgb, hblk⟩ := run_append_mine (P := Tryd.prog) ((wk.alloc (.cells #[.int .i64 s, .int .i64 di, .int .u64 dt] 62)).drew) 26 26 62 i0 _ 3 24 Tryd.underlying26 hi hz0 hz1 hz2 rfl (by decide) v R.length (cl R) (((RR.out.later g1).later g2).own)
          ⟨wk.heap.size, 0, none⟩ 1 1 (cl [(⟨s, ⟨di, dt⟩⟩ : La)]) rfl (blk_cells hlit) (cl_one _) (by unfold maxLen; omega) (by omega)
        have hcy : y.cell? ⟨q, 0, none⟩ = some v := by
          have := ((RR.out.later g1).later g2).cell
          exact (World.cell?_of_block (hgb.block q ((RR.out.later g1).later g2).lt (fun e => RR.out.ne e.symm))).trans this
        have hfy : y.frozen? ⟨q, 0, none⟩ = false := by
          have := ((RR.out.later g1).later g2).free
          exact (World.frozen?_of_block (hgb.block q ((RR.out.later g1).later g2).lt (fun e => RR.out.ne e.symm))).trans this
        have ho' : y.ownsRow 0 62 3 v' (R ++ [(⟨s, ⟨di, dt⟩⟩ : La)]).length (cl (R ++ [(⟨s, ⟨di, dt⟩⟩ : La)])) := by
          rw [List.length_append, cl_app]; exact ho
        have U := Lib.hid (refQ_set (R' := R ++ [(⟨s, ⟨di, dt⟩⟩ : La)]) RR.out (g1.trans g2) (grownBy_frm hgb) ho' (by
          rcases hblk with e | e
          · exact Or.inl e
          · refine Or.inr (Or.inr ⟨_, e, Below.size (g1.trans g2)⟩)) (by rw [List.length_append]; exact hf))
        obtain ⟨ao', cap', hv', _⟩ := ownsRow_lies ho
        obtain ⟨ao, cap, hv, _⟩ := RR.out.row
        have hcq := (RR.out.later g1).cell
        have hcq2 := ((RR.out.later g1).later g2).cell
        have c0 := K.t.c0
        have c1 := K.t.c1
        subst hv'
        subst hv
        obtain ⟨n, hn⟩ : ∃ n, R.length = n := ⟨_, rfl⟩
        rw [hn] at hcq hr hcy hcq2 U
        have HN := Lib.hid hn
        have GW := Lib.hid g2
        have hwl : w.heap.size < wk.heap.size := by rw [← hwk, size_new]; omega
        clear ho ho' hgb hblk hlit g1 g2 K hwk hn
        go_wp2_with fail
        go_region_law (first | (refine step_append_run rfl (.tmp 24) (.tmp 28) 26 rfl _ _ (by simp [Act.eval, Act.put]) (by simp [Act.eval, Act.put]) hr ?_))
        all_goals (clear hr; go_wp2_with fail; go_ret; exact ⟨by rw [P.out.1]; rfl, by rw [P.out.2, HN.out]; exact U.out⟩)
    · have n6 : 64 ≤ s := by omega
      have P := Lib.hid (putB_out (R := R) (d := ⟨di, dt⟩) (s := s) (by omega))
      go_enter Tryd.func9, Tryd.ntmps9
      go_wp2_with fail
      go_ret
      exact ⟨by rw [P.out.1]; rfl, by rw [P.out.2]; exact refQ_same RR.out ((Grw.rfl' _).alloc _)⟩
  · have n0 : s < 0 := by omega
    have P := Lib.hid (putB_out (R := R) (d := ⟨di, dt⟩) (s := s) (by omega))
    go_enter Tryd.func9, Tryd.ntmps9
    go_wp2_with fail
    go_ret
    exact ⟨by rw [P.out.1]; rfl, by rw [P.out.2]; exact refQ_same RR.out ((Grw.rfl' _).alloc _)⟩
end Go.Proofs.YtlihcljjpalapaaDoor
