/- The contract of the document's Sort at this program. -/
import Derived.Test.YtjkhgpdhhnfmlaaDoorSa
import Derived.Deep.RegionHeld3
namespace Go.Proofs.YtjkhgpdhhnfmlaaDoor
open Go.RowKit MK
open RG (Du)
set_option linter.unusedSimpArgs false

theorem less_is (a b : Du) (r : Bool) (h : RG.less a b = r) (w : World) : Calls Tryd.prog 55 #[dv a, dv b] w fun e w' => e = .returned (.bool r) ∧ Grw w w' := by rw [← h]; exact less_any a b w
theorem place_yes {d : Du} {l : List Du} {k : Nat} (h : k < l.length) (g : RG.less d l[k] = true) : RG.place d l (k + 1) = RG.place d l k := by
  show (if RG.less d (l.getD k d) then _ else _) = _
  rw [RG.getD_at l d h, if_pos g]
theorem place_no {d : Du} {l : List Du} {k : Nat} (h : k < l.length) (g : RG.less d l[k] = false) : RG.place d l (k + 1) = k + 1 := by
  show (if RG.less d (l.getD k d) then _ else _) = _
  rw [RG.getD_at l d h, if_neg (by rw [g]; decide)]
theorem sort_step {l : List Du} {i : Nat} (h : i < l.length) {o : List Du} (ho : RG.sort (l.take i) = o) {p : Nat} (hp : RG.place l[i] o o.length = p) : RG.sort (l.take (i + 1)) = o.take p ++ l[i] :: o.drop p := by
  rw [List.take_succ_eq_append_getElem h, RG.sort_snoc, ho]
  unfold RG.put
  rw [hp]
/-- a slice, cut: where its end lies. -/
theorem lies_drop {w : World} {b off : Nat} {xs : List Value} (h : Lies w (some ⟨b, off, none⟩) xs) (k : Nat) : ∀ j u, (xs.drop k)[j]? = some u → w.cell? ((⟨b, off + k, none⟩ : Addr).add j) = some u := by
  intro j u hj
  rw [List.getElem?_drop] at hj
  rcases h with h | ⟨b', off', e, _, hc⟩
  · rw [h] at hj; cases hj
  · injection e with e
    injection e with e1 e2
    subst e1; subst e2
    rw [Addr.add_lit, Nat.add_assoc]
    exact hc _ u hj
theorem lies_take {w : World} {ao : Option Addr} {xs : List Value} (h : Lies w ao xs) (k : Nat) : Lies w ao (xs.take k) := by
  rcases h with h | ⟨b, off, e, hb, hc⟩
  · left; rw [h]; simp
  · refine Or.inr ⟨b, off, e, hb, fun j u hj => hc j u ?_⟩
    rw [List.getElem?_take] at hj
    split at hj
    · exact hj
    · cases hj
def SortQ (l : List Du) (w : World) (e : Ending) (w' : World) : Prop := ∃ v, e = .returned v ∧ RowD w' v l ∧ Grw w w'
/-- what lies in out: nil at first. -/
def Out (w : World) (v : Value) (l : List Du) : Prop := (l = [] ∧ v = .slice none 0 0) ∨ (0 < l.length ∧ ∃ b off cap, v = .slice (some ⟨b, off, none⟩) l.length cap ∧ l.length ≤ cap ∧ cap ≤ 9223372036854775807 ∧ Lies w (some ⟨b, off, none⟩) (cd l))
theorem Out.row {w : World} {v : Value} {l : List Du} (h : Out w v l) : RowD w v l := by
  rcases h with ⟨rfl, rfl⟩ | ⟨_, b, off, cap, rfl, _, _, r⟩
  · exact ⟨none, 0, rfl, Or.inl rfl⟩
  · exact ⟨_, cap, rfl, r⟩
theorem Out.later {w x : World} {v : Value} {l : List Du} (h : Out w v l) (g : Grw w x) : Out x v l := by
  rcases h with h | ⟨h, b, off, cap, e, h1, h2, r⟩
  · exact Or.inl h
  · exact Or.inr ⟨h, b, off, cap, e, h1, h2, r.later g⟩
theorem own_out {w : World} {B : Nat} {v : Value} {l : List Du} (h : w.ownsRow B 42 2 v l.length (cd l)) (hl : 0 < l.length) : Out w v l := by
  rcases h.2 with ⟨_, h2⟩ | ⟨g, cap, cur, h1, _, h3, h4, h5, _⟩
  · omega
  · obtain ⟨ao, c, e, r⟩ := ownsRow_lies h
    rw [h1] at e
    injection e with e1 _ e3
    subst e1; subst h1
    exact Or.inr ⟨hl, g, 0, cap, rfl, h4, by unfold maxLen at h5; omega, r⟩
theorem lit_row (w : World) (x : Du) : ((w.alloc (.cells #[.int .i64 x.id, .int .u64 (x.t : Nat)] 42)).drew).ownsRow w.heap.size 42 2 (.slice (some ⟨w.heap.size, 0, none⟩) 1 1) 1 (cd [x]) :=
  World.ownsRow_lit w #[.int .i64 x.id, .int .u64 (x.t : Nat)] 1 (Nat.le_refl _) (by unfold maxLen; omega) rfl
theorem cd_put (o : List Du) (x : Du) (k : Nat) : cd (o.take k ++ x :: o.drop k) = (cd o).take (k * 2) ++ (cd [x] ++ (cd o).drop (k * 2)) := by
  rw [cd_app, cd_take, show x :: o.drop k = [x] ++ o.drop k from rfl, cd_app, cd_drop]
set_option maxRecDepth 100000 in
theorem sort_appends (w : World) (ob ooff ocap : Nat) (o : List Du) (x : Du) (k : Nat) (hk : k ≤ o.length) (hoc : o.length ≤ ocap) (hol : Lies w (some ⟨ob, ooff, none⟩) (cd o)) (hb : o.length ≤ 100000)
    (ad : Addr) (c : Nat) (had : if ocap = k then ad = ⟨ob, ooff, none⟩ else ad = ⟨ob, ooff + k * 2, none⟩) :
    ∃ v1 y1 v2 y2, (∀ ty, (Builtin.append_ #[27, 27] ty #[.slice (some ⟨w.heap.size, 0, none⟩) 1 1, .slice (some ad) (o.length - k) c]).run Tryd.prog ((w.alloc (.cells #[.int .i64 x.id, .int .u64 (x.t : Nat)] 42)).drew) = .ok v1 y1) ∧
      (∀ ty, (Builtin.append_ #[27, 27] ty #[.slice (some ⟨ob, ooff, none⟩) k k, v1]).run Tryd.prog y1 = .ok v2 y2) ∧ Out y2 v2 (o.take k ++ x :: o.drop k) ∧ Grw w y2 := by
  obtain ⟨i0, hi, hz0, hz1, hz2⟩ := info_parts Tryd.info42
  have g1 : Grw w ((w.alloc (.cells #[.int .i64 x.id, .int .u64 (x.t : Nat)] 42)).drew) := ((Grw.rfl' w).alloc _).drew
  have hol1 := hol.later g1
  have hnews : ∀ j u, ((cd o).drop (k * 2))[j]? = some u → ((w.alloc (.cells #[.int .i64 x.id, .int .u64 (x.t : Nat)] 42)).drew).cell? (ad.add j) = some u := by
    intro j u hj
    by_cases hck : ocap = k
    · rw [List.drop_eq_nil_of_le (by rw [cd_len]; omega)] at hj
      cases hj
    · rw [if_neg hck] at had
      subst had
      exact lies_drop hol1 (k * 2) j u hj
  obtain ⟨v1, y1, hr1, ho1, hgr1, _⟩ := run_append_own (P := Tryd.prog) _ w.heap.size 27 27 42 i0 _ 2 16 Tryd.underlying27 hi hz0 hz1 hz2 rfl (by decide) _ 1 (cd [x]) (lit_row w x) ad (o.length - k) c ((cd o).drop (k * 2)) (by rw [List.length_drop, cd_len]; omega) hnews
    (fun u hu => cd_one o u (List.mem_of_mem_drop hu)) (by unfold maxLen; omega) (by omega) (Below.size g1)
  have gy1 : Grw w y1 := Below.grown g1 hgr1 (Below.size g1) (fun q e => by injection e with e; rw [← e]; exact Nat.le_refl _)
  obtain ⟨ao1, cap1, hv1, hl1⟩ := ownsRow_lies ho1
  have hne : ao1 ≠ none := by
    intro e
    subst e
    rcases ho1.2 with ⟨_, h2⟩ | ⟨_, _, _, h1, _⟩
    · omega
    · rw [hv1] at h1; cases h1
  obtain ⟨a1, rfl⟩ := Option.ne_none_iff_exists'.1 hne
  subst hv1
  have hn1 : ∀ j u, (cd [x] ++ (cd o).drop (k * 2))[j]? = some u → y1.cell? (a1.add j) = some u := by
    intro j u hj
    rcases hl1 with h | ⟨b, off, e, _, hc⟩
    · rw [h] at hj; cases hj
    · injection e with e
      subst e
      rw [Addr.add_lit]
      exact hc j u hj
  obtain ⟨v2, y2, hr2, ho2, gy2⟩ := append_fresh (P := Tryd.prog) 27 42 _ 2 16 Tryd.underlying27 Tryd.info42 rfl y1 27 (some ⟨ob, ooff, none⟩) k (fun e => by cases e) ((cd o).take (k * 2)) (by rw [List.length_take, cd_len]; omega) (lies_take (hol.later gy1) _) a1 (1 + (o.length - k)) cap1 _
    (by rw [List.length_append, List.length_drop, cd_len o, cd_len]; simp; omega) hn1 (by omega) (by omega) (by omega)
  refine ⟨_, y1, v2, y2, fun ty => hr1, fun ty => hr2, ?_, gy1.trans gy2⟩
  refine own_out (B := y1.heap.size) ?_ (by simp; omega)
  rw [cd_put, show (o.take k ++ x :: o.drop k).length = k + (1 + (o.length - k)) by simp; omega]
  exact ho2
theorem sort_first (w : World) (x : Du) :
    ∃ v2 y2, (∀ ty, (Builtin.append_ #[27, 27] ty #[.slice (some ⟨w.heap.size, 0, none⟩) 1 1, .slice none 0 0]).run Tryd.prog ((w.alloc (.cells #[.int .i64 x.id, .int .u64 (x.t : Nat)] 42)).drew) = .ok (.slice (some ⟨w.heap.size, 0, none⟩) 1 1) ((w.alloc (.cells #[.int .i64 x.id, .int .u64 (x.t : Nat)] 42)).drew)) ∧
      (∀ ty, (Builtin.append_ #[27, 27] ty #[.slice none 0 0, .slice (some ⟨w.heap.size, 0, none⟩) 1 1]).run Tryd.prog ((w.alloc (.cells #[.int .i64 x.id, .int .u64 (x.t : Nat)] 42)).drew) = .ok v2 y2) ∧ Out y2 v2 [x] ∧ Grw w y2 := by
  obtain ⟨i0, hi, hz0, hz1, hz2⟩ := info_parts Tryd.info42
  have g1 : Grw w ((w.alloc (.cells #[.int .i64 x.id, .int .u64 (x.t : Nat)] 42)).drew) := ((Grw.rfl' w).alloc _).drew
  obtain ⟨v2, y2, hr2, ho2, gy2⟩ := append_fresh (P := Tryd.prog) 27 42 _ 2 16 Tryd.underlying27 Tryd.info42 rfl _ 27 none 0 (fun _ => rfl) [] rfl (Or.inl rfl) ⟨w.heap.size, 0, none⟩ 1 1 (cd [x]) rfl ((lit_row w x).cells (g := w.heap.size) rfl) (by omega) (by omega) (by omega)
  refine ⟨v2, y2, fun ty => ?_, fun ty => hr2, own_out ho2 (by simp), g1.trans gy2⟩
  simp [Builtin.append_, run_underlying Tryd.underlying27, sizeOf, typeInfo, hi, Builtin.lenOf, Builtin.firstCells, loadCells, loadCellsFrom, storeCells]
set_option maxHeartbeats 4000000 in
set_option maxRecDepth 100000 in
theorem rsort_any (ao : Option Addr) (cap : Nat) (l : List Du) (w : World) (hl : Lies w ao (cd l)) (hb : l.length ≤ 100000) :
    Calls Tryd.prog 35 #[.slice ao l.length cap] w (SortQ (RG.sort l) w) := by
  have LI := Lib.hid hl
  obtain ⟨n, hn⟩ : ∃ n, l.length = n := ⟨_, rfl⟩
  rw [hn] at hb ⊢
  have HN := Lib.hid hn
  clear hl hn
  go_enter Tryd.func35, Tryd.ntmps35
  go_wp2_with fail
  go_loopw [3, 4] (fun u v wr => ∃ i : Nat, i ≤ n ∧ v = .int .i64 i ∧ Out wr u (RG.sort (l.take i)) ∧ Grw w wr) (fun _ v _ => n - (intOf v).toNat)
  case atStart => exact ⟨0, Nat.zero_le _, rfl, Or.inl ⟨rfl, rfl⟩, Grw.rfl' _⟩
  case round =>
    obtain ⟨i, hi, rfl, hout, hg⟩ := hrel
    have G := Lib.hid hg
    clear hg
    by_cases hi' : i < n
    · have hii : (i : Int) < (n : Int) := by omega
      have hil : i < l.length := by rw [HN.out]; exact hi'
      have hlen : (RG.sort (l.take i)).length = i := by rw [RG.sort_len, List.length_take]; omega
      obtain ⟨o, ho⟩ : ∃ o, RG.sort (l.take i) = o := ⟨_, rfl⟩
      rw [ho] at hout hlen
      have SS := Lib.hid (fun p (hp : RG.place l[i] o o.length = p) => sort_step hil ho hp)
      obtain ⟨x, hx⟩ : ∃ x, l[i] = x := ⟨_, rfl⟩
      have HX := Lib.hid hx
      rw [hx] at SS
      clear ho
      rcases hout with ⟨rfl, rfl⟩ | ⟨hpos, ob, ooff, ocap, rfl, hoc, hoc2, hol⟩
      · obtain rfl : i = 0 := hlen.symm
        have hw0 := SS.out 0 rfl
        obtain ⟨lb, loff, rfl, c0, c1⟩ := lies_at (LI.out.later G.out) hil
        rw [hx] at c0 c1
        obtain ⟨xi, xt⟩ := x
        simp only [Nat.zero_mul, Nat.add_zero] at c0 c1
        go_wp2_with fail
        refine wp_loop_rounds 1 ?_
        rw [rounds_succ]
        go_wp2_with fail
        have m0 := gw_cell c0
        have m1 := gw_cell c1
        refine wp_region_grown (by kernel_rfl) (by kernel_rfl) ?_
        repeat (go_big_quiet_step (fail))
        refine wpQuiet_nil ?_
        rintro _ ⟨q', rfl⟩
        have d0 := q'.h.cell c0
        have d1 := q'.h.cell c1
        have GQ := Lib.hid (G.out.trans q'.h)
        obtain ⟨wq, hwq⟩ : ∃ wq, q'.x = wq := ⟨_, rfl⟩
        rw [hwq] at d0 d1 GQ ⊢
        clear m0 m1 c0 c1 hwq
        obtain ⟨v2, y2, hr1, hr2, ho2, hg2⟩ := sort_first wq ⟨xi, xt⟩
        have U := Lib.hid (And.intro ho2 (GQ.out.trans hg2))
        simp only at hr1 hr2
        clear ho2 hg2
        go_wp2_with fail
        go_region_law (first | (refine step_append_run rfl (.tmp 38) (.tmp 41) 27 rfl _ _ (by simp [Act.eval, Act.put]) (by simp [Act.eval, Act.put]) (hr1 _) ?_) | (refine step_append_run rfl (.tmp 33) (.tmp 42) 27 rfl _ _ (by simp [Act.eval, Act.put]) (by simp [Act.eval, Act.put]) (hr2 _) ?_))
        clear hr1 hr2
        go_wp2_with fail
        go_roundw
        case rel => exact ⟨1, by omega, by go_num, by rw [hw0]; exact U.out.1, U.out.2⟩
        case measure => simp [intOf]; omega
      · have OL := Lib.hid hol
        clear hol
        rw [hlen] at hoc hpos ⊢
        have HLN := Lib.hid hlen
        go_wp2_with fail
        go_loopw [5] (fun v wi => ∃ k : Nat, k ≤ i ∧ v = .int .i64 k ∧ Grw wr wi ∧ RG.place x o i = RG.place x o k) (fun v _ => (intOf v).toNat)
        case atStart => exact ⟨i, Nat.le_refl _, rfl, Grw.rfl' _, rfl⟩
        case round =>
          obtain ⟨k, hk, rfl, hgi, hpl⟩ := hrel
          obtain ⟨lb, loff, rfl, c0, c1⟩ := lies_at ((LI.out.later G.out).later hgi) hil
          rw [hx] at c0 c1
          obtain ⟨xi, xt⟩ := x
          simp only at c0 c1
          have m0 := gw_cell c0
          have m1 := gw_cell c1
          have GI := Lib.hid hgi
          have PL := Lib.hid hpl
          clear hgi hpl
          by_cases hk0 : 0 < k
          · obtain ⟨q, hq⟩ : ∃ q, k = q + 1 := ⟨k - 1, by omega⟩
            have hql : q < o.length := by rw [HLN.out]; omega
            obtain ⟨b2, off2, e2, e0, e1⟩ := lies_at (OL.out.later GI.out) hql
            injection e2 with e2
            injection e2 with e2 e3
            subst e2; subst e3
            obtain ⟨y, hy⟩ : ∃ y, o[q] = y := ⟨_, rfl⟩
            rw [hy] at e0 e1
            obtain ⟨r, hr⟩ : ∃ r, RG.less ⟨xi, xt⟩ y = r := ⟨_, rfl⟩
            have HR := Lib.hid hr
            have HY := Lib.hid hy
            have C := Lib.hid (fun w => less_is ⟨xi, xt⟩ y r hr w)
            obtain ⟨yi, yt⟩ := y
            unfold dv at C
            simp only at C e0 e1
            have n0 := gw_cell e0
            have n1 := gw_cell e1
            have hqo : q < i := by omega
            have hqi : (q : Int) < (i : Int) := by omega
            have hpos' : decide (0 < (k : Int)) = true := by simp; omega
            have hq1 : IntKind.i64.wrap ((k : Int) - 1) = (q : Int) := by rw [IntKind.wrap_i64]; omega
            have HQ := Lib.hid hq
            clear e0 e1 hr hy hq
            cases r with
            | true =>
              go_wp2_with fail
              refine wp_region_grown (by kernel_rfl) (by kernel_rfl) ?_
              repeat (go_big_quiet_step (first | (go_at_call 55; exact calls_grown (C.out _))))
              refine wpQuiet_nil ?_
              rintro _ ⟨q', rfl⟩
              have GQ := Lib.hid (GI.out.trans q'.h)
              clear m0 m1 n0 n1
              go_wp2_with fail
              go_roundw
              case rel => exact ⟨q, by omega, by have := HQ.out; go_num, GQ.out, by rw [PL.out, HQ.out]; exact place_yes hql (by rw [HY.out]; exact HR.out)⟩
              case measure =>
                have := HQ.out
                simp [intOf]; omega
            | false =>
              go_wp2_with fail
              refine wp_region_grown (by kernel_rfl) (by kernel_rfl) ?_
              repeat (go_big_quiet_step (first | (go_at_call 55; exact calls_grown (C.out _))))
              refine wpQuiet_nil ?_
              rintro _ ⟨q', rfl⟩
              have d0 := q'.h.cell c0
              have d1 := q'.h.cell c1
              have GQ := Lib.hid ((G.out.trans GI.out).trans q'.h)
              have OQ := Lib.hid ((OL.out.later GI.out).later q'.h)
              obtain ⟨wq, hwq⟩ : ∃ wq, q'.x = wq := ⟨_, rfl⟩
              rw [hwq] at d0 d1 GQ OQ ⊢
              clear m0 m1 n0 n1 c0 c1 hwq hq1
              have NS := SS.out k (by rw [HLN.out, PL.out]; rw [HQ.out]; exact place_no hql (by rw [HY.out]; exact HR.out))
              by_cases hck : ocap = k
              · skip
                have hki : k = i := by omega
                subst hki
                subst hck
                obtain ⟨v1, y1, v2, y2, hr1, hr2, ho2, hg2⟩ := sort_appends wq ob ooff ocap o ⟨xi, xt⟩ ocap (by rw [HLN.out]; omega) (by rw [HLN.out]; exact hoc) OQ.out (by rw [HLN.out]; omega) ⟨ob, ooff, none⟩ 0 (by rw [if_pos rfl])
                rw [HLN.out, Nat.sub_self] at hr1
                have U := Lib.hid (And.intro ho2 (GQ.out.trans hg2))
                have NN := Lib.hid NS
                simp only at hr1 hr2
                clear ho2 hg2 NS
                go_wp2_with fail
                go_region_law (first | (refine step_append_run rfl (.tmp 38) (.tmp 41) 27 rfl _ _ (by simp [Act.eval, Act.put]) (by simp [Act.eval, Act.put]) (hr1 _) ?_) | (refine step_append_run rfl (.tmp 33) (.tmp 42) 27 rfl _ _ (by simp [Act.eval, Act.put]) (by simp [Act.eval, Act.put]) (hr2 _) ?_))
                clear hr1 hr2
                go_wp2_with fail
                refine ⟨⟨ocap + 1, by omega, by go_num, by rw [NN.out]; exact U.out.1, U.out.2⟩, by simp [intOf]; omega⟩
              · skip
                obtain ⟨v1, y1, v2, y2, hr1, hr2, ho2, hg2⟩ := sort_appends wq ob ooff ocap o ⟨xi, xt⟩ k (by rw [HLN.out]; omega) (by rw [HLN.out]; exact hoc) OQ.out (by rw [HLN.out]; omega) ⟨ob, ooff + k * 2, none⟩ (ocap - k) (by rw [if_neg hck])
                rw [HLN.out] at hr1
                have U := Lib.hid (And.intro ho2 (GQ.out.trans hg2))
                have NN := Lib.hid NS
                have hk2 : k ≤ ocap := by omega
                have hk3 : ¬ ocap = k := hck
                simp only [Nat.zero_mul, Nat.add_zero, Nat.sub_zero] at hr1 hr2
                clear ho2 hg2 NS hck
                go_wp2_with fail
                go_region_law (first | (refine step_append_run rfl (.tmp 38) (.tmp 41) 27 rfl _ _ (by simp [Act.eval, Act.put]) (by simp [Act.eval, Act.put]) (hr1 _) ?_) | (refine step_append_run rfl (.tmp 33) (.tmp 42) 27 rfl _ _ (by simp [Act.eval, Act.put]) (by simp [Act.eval, Act.put]) (hr2 _) ?_))
                clear hr1 hr2
                go_wp2_with fail
                refine ⟨⟨i + 1, by omega, by go_num, by rw [NN.out]; exact U.out.1, U.out.2⟩, by simp [intOf]; omega⟩
          · obtain rfl : k = 0 := by omega
            have hck : ¬ ocap = 0 := by omega
            go_wp2_with fail
            refine wp_region_grown (by kernel_rfl) (by kernel_rfl) ?_
            repeat (go_big_quiet_step (fail))
            refine wpQuiet_nil ?_
            rintro _ ⟨q', rfl⟩
            have d0 := q'.h.cell c0
            have d1 := q'.h.cell c1
            have GQ := Lib.hid ((G.out.trans GI.out).trans q'.h)
            have OQ := Lib.hid ((OL.out.later GI.out).later q'.h)
            obtain ⟨wq, hwq⟩ : ∃ wq, q'.x = wq := ⟨_, rfl⟩
            rw [hwq] at d0 d1 GQ OQ ⊢
            clear m0 m1 c0 c1 hwq
            have NS := SS.out 0 (by rw [HLN.out, PL.out]; rfl)
            obtain ⟨v1, y1, v2, y2, hr1, hr2, ho2, hg2⟩ := sort_appends wq ob ooff ocap o ⟨xi, xt⟩ 0 (by rw [HLN.out]; omega) (by rw [HLN.out]; exact hoc) OQ.out (by rw [HLN.out]; omega) ⟨ob, ooff + 0 * 2, none⟩ (ocap - 0) (by rw [if_neg hck])
            rw [HLN.out] at hr1
            have U := Lib.hid (And.intro ho2 (GQ.out.trans hg2))
            have NN := Lib.hid NS
            have hk2 : 0 ≤ ocap := by omega
            have hk3 : ¬ ocap = 0 := hck
            simp only [Nat.zero_mul, Nat.add_zero, Nat.sub_zero] at hr1 hr2
            clear ho2 hg2 NS hck
            go_wp2_with fail
            go_region_law (first | (refine step_append_run rfl (.tmp 38) (.tmp 41) 27 rfl _ _ (by simp [Act.eval, Act.put]) (by simp [Act.eval, Act.put]) (hr1 _) ?_) | (refine step_append_run rfl (.tmp 33) (.tmp 42) 27 rfl _ _ (by simp [Act.eval, Act.put]) (by simp [Act.eval, Act.put]) (hr2 _) ?_))
            clear hr1 hr2
            go_wp2_with fail
            refine ⟨⟨i + 1, by omega, by go_num, by rw [NN.out]; exact U.out.1, U.out.2⟩, by simp [intOf]; omega⟩
    · have hii : ¬ (i : Int) < (n : Int) := by omega
      obtain rfl : i = n := by omega
      have U := Lib.hid hout
      clear hout
      go_wp2_with fail
      go_ret
      have e : l.take i = l := List.take_of_length_le (by rw [HN.out]; exact Nat.le_refl _)
      refine ⟨_, rfl, ?_, G.out⟩
      have := U.out.row
      rwa [e] at this
end Go.Proofs.YtjkhgpdhhnfmlaaDoor

/- The document's Sort: the row that it hands back is a new one. -/
namespace Go.Proofs.YtjkhgpdhhnfmlaaDoor
namespace SF
open Go.RowKit MK
open RG (Du)
set_option linter.unusedSimpArgs false

/-- what lies in out: nil at first; a row made since the world of B blocks. -/
def Out (B : Nat) (w : World) (v : Value) (l : List Du) : Prop := (l = [] ∧ v = .slice none 0 0) ∨ (0 < l.length ∧ ∃ b off cap, v = .slice (some ⟨b, off, none⟩) l.length cap ∧ l.length ≤ cap ∧ cap ≤ 9223372036854775807 ∧ B ≤ b ∧ Lies w (some ⟨b, off, none⟩) (cd l))
theorem Out.row {B : Nat} {w : World} {v : Value} {l : List Du} (h : Out B w v l) : RowD w v l := by
  rcases h with ⟨rfl, rfl⟩ | ⟨_, b, off, cap, rfl, _, _, _, r⟩
  · exact ⟨none, 0, rfl, Or.inl rfl⟩
  · exact ⟨_, cap, rfl, r⟩
theorem Out.later {B : Nat} {w x : World} {v : Value} {l : List Du} (h : Out B w v l) (g : Grw w x) : Out B x v l := by
  rcases h with h | ⟨h, b, off, cap, e, h1, h2, h3, r⟩
  · exact Or.inl h
  · exact Or.inr ⟨h, b, off, cap, e, h1, h2, h3, r.later g⟩
theorem Out.mono {B C : Nat} {w : World} {v : Value} {l : List Du} (h : Out B w v l) (g : C ≤ B) : Out C w v l := by
  rcases h with h | ⟨h, b, off, cap, e, h1, h2, h3, r⟩
  · exact Or.inl h
  · exact Or.inr ⟨h, b, off, cap, e, h1, h2, Nat.le_trans g h3, r⟩
theorem own_out {w : World} {B C : Nat} {v : Value} {l : List Du} (h : w.ownsRow B 42 2 v l.length (cd l)) (hl : 0 < l.length) (hB : C ≤ B) : Out C w v l := by
  rcases h.2 with ⟨_, h2⟩ | ⟨g, cap, cur, h1, h2, h3, h4, h5, _⟩
  · omega
  · obtain ⟨ao, c, e, r⟩ := ownsRow_lies h
    rw [h1] at e
    injection e with e1 _ e3
    subst e1; subst h1
    exact Or.inr ⟨hl, g, 0, cap, rfl, h4, by unfold maxLen at h5; omega, by omega, r⟩
set_option maxRecDepth 100000 in
theorem sort_appends (w : World) (ob ooff ocap : Nat) (o : List Du) (x : Du) (k : Nat) (hk : k ≤ o.length) (hoc : o.length ≤ ocap) (hol : Lies w (some ⟨ob, ooff, none⟩) (cd o)) (hb : o.length ≤ 100000)
    (ad : Addr) (c : Nat) (had : if ocap = k then ad = ⟨ob, ooff, none⟩ else ad = ⟨ob, ooff + k * 2, none⟩) :
    ∃ v1 y1 v2 y2, (∀ ty, (Builtin.append_ #[27, 27] ty #[.slice (some ⟨w.heap.size, 0, none⟩) 1 1, .slice (some ad) (o.length - k) c]).run Tryd.prog ((w.alloc (.cells #[.int .i64 x.id, .int .u64 (x.t : Nat)] 42)).drew) = .ok v1 y1) ∧
      (∀ ty, (Builtin.append_ #[27, 27] ty #[.slice (some ⟨ob, ooff, none⟩) k k, v1]).run Tryd.prog y1 = .ok v2 y2) ∧ Out w.heap.size y2 v2 (o.take k ++ x :: o.drop k) ∧ Grw w y2 := by
  obtain ⟨i0, hi, hz0, hz1, hz2⟩ := info_parts Tryd.info42
  have g1 : Grw w ((w.alloc (.cells #[.int .i64 x.id, .int .u64 (x.t : Nat)] 42)).drew) := ((Grw.rfl' w).alloc _).drew
  have hol1 := hol.later g1
  have hnews : ∀ j u, ((cd o).drop (k * 2))[j]? = some u → ((w.alloc (.cells #[.int .i64 x.id, .int .u64 (x.t : Nat)] 42)).drew).cell? (ad.add j) = some u := by
    intro j u hj
    by_cases hck : ocap = k
    · rw [List.drop_eq_nil_of_le (by rw [cd_len]; omega)] at hj
      cases hj
    · rw [if_neg hck] at had
      subst had
      exact lies_drop hol1 (k * 2) j u hj
  obtain ⟨v1, y1, hr1, ho1, hgr1, _⟩ := run_append_own (P := Tryd.prog) _ w.heap.size 27 27 42 i0 _ 2 16 Tryd.underlying27 hi hz0 hz1 hz2 rfl (by decide) _ 1 (cd [x]) (lit_row w x) ad (o.length - k) c ((cd o).drop (k * 2)) (by rw [List.length_drop, cd_len]; omega) hnews
    (fun u hu => cd_one o u (List.mem_of_mem_drop hu)) (by unfold maxLen; omega) (by omega) (Below.size g1)
  have gy1 : Grw w y1 := Below.grown g1 hgr1 (Below.size g1) (fun q e => by injection e with e; rw [← e]; exact Nat.le_refl _)
  obtain ⟨ao1, cap1, hv1, hl1⟩ := ownsRow_lies ho1
  have hne : ao1 ≠ none := by
    intro e
    subst e
    rcases ho1.2 with ⟨_, h2⟩ | ⟨_, _, _, h1, _⟩
    · omega
    · rw [hv1] at h1; cases h1
  obtain ⟨a1, rfl⟩ := Option.ne_none_iff_exists'.1 hne
  subst hv1
  have hn1 : ∀ j u, (cd [x] ++ (cd o).drop (k * 2))[j]? = some u → y1.cell? (a1.add j) = some u := by
    intro j u hj
    rcases hl1 with h | ⟨b, off, e, _, hc⟩
    · rw [h] at hj; cases hj
    · injection e with e
      subst e
      rw [Addr.add_lit]
      exact hc j u hj
  obtain ⟨v2, y2, hr2, ho2, gy2⟩ := append_fresh (P := Tryd.prog) 27 42 _ 2 16 Tryd.underlying27 Tryd.info42 rfl y1 27 (some ⟨ob, ooff, none⟩) k (fun e => by cases e) ((cd o).take (k * 2)) (by rw [List.length_take, cd_len]; omega) (lies_take (hol.later gy1) _) a1 (1 + (o.length - k)) cap1 _
    (by rw [List.length_append, List.length_drop, cd_len o, cd_len]; simp; omega) hn1 (by omega) (by omega) (by omega)
  refine ⟨_, y1, v2, y2, fun ty => hr1, fun ty => hr2, ?_, gy1.trans gy2⟩
  refine own_out (B := y1.heap.size) ?_ (by simp; omega) (Below.size gy1)
  rw [cd_put, show (o.take k ++ x :: o.drop k).length = k + (1 + (o.length - k)) by simp; omega]
  exact ho2
theorem sort_first (w : World) (x : Du) :
    ∃ v2 y2, (∀ ty, (Builtin.append_ #[27, 27] ty #[.slice (some ⟨w.heap.size, 0, none⟩) 1 1, .slice none 0 0]).run Tryd.prog ((w.alloc (.cells #[.int .i64 x.id, .int .u64 (x.t : Nat)] 42)).drew) = .ok (.slice (some ⟨w.heap.size, 0, none⟩) 1 1) ((w.alloc (.cells #[.int .i64 x.id, .int .u64 (x.t : Nat)] 42)).drew)) ∧
      (∀ ty, (Builtin.append_ #[27, 27] ty #[.slice none 0 0, .slice (some ⟨w.heap.size, 0, none⟩) 1 1]).run Tryd.prog ((w.alloc (.cells #[.int .i64 x.id, .int .u64 (x.t : Nat)] 42)).drew) = .ok v2 y2) ∧ Out w.heap.size y2 v2 [x] ∧ Grw w y2 := by
  obtain ⟨i0, hi, hz0, hz1, hz2⟩ := info_parts Tryd.info42
  have g1 : Grw w ((w.alloc (.cells #[.int .i64 x.id, .int .u64 (x.t : Nat)] 42)).drew) := ((Grw.rfl' w).alloc _).drew
  obtain ⟨v2, y2, hr2, ho2, gy2⟩ := append_fresh (P := Tryd.prog) 27 42 _ 2 16 Tryd.underlying27 Tryd.info42 rfl _ 27 none 0 (fun _ => rfl) [] rfl (Or.inl rfl) ⟨w.heap.size, 0, none⟩ 1 1 (cd [x]) rfl ((lit_row w x).cells (g := w.heap.size) rfl) (by omega) (by omega) (by omega)
  refine ⟨v2, y2, fun ty => ?_, fun ty => hr2, own_out ho2 (by simp) (Below.size g1), g1.trans gy2⟩
  simp [Builtin.append_, run_underlying Tryd.underlying27, sizeOf, typeInfo, hi, Builtin.lenOf, Builtin.firstCells, loadCells, loadCellsFrom, storeCells]
set_option maxHeartbeats 4000000 in
set_option maxRecDepth 100000 in
theorem rsort_new (ao : Option Addr) (cap : Nat) (l : List Du) (w : World) (hl : Lies w ao (cd l)) (hb : l.length ≤ 100000) :
    Calls Tryd.prog 35 #[.slice ao l.length cap] w fun e w' => ∃ v, e = .returned v ∧ Out w.heap.size w' v (RG.sort l) ∧ Grw w w' := by
  have LI := Lib.hid hl
  obtain ⟨n, hn⟩ : ∃ n, l.length = n := ⟨_, rfl⟩
  rw [hn] at hb ⊢
  have HN := Lib.hid hn
  clear hl hn
  go_enter Tryd.func35, Tryd.ntmps35
  go_wp2_with fail
  go_loopw [3, 4] (fun u v wr => ∃ i : Nat, i ≤ n ∧ v = .int .i64 i ∧ Out w.heap.size wr u (RG.sort (l.take i)) ∧ Grw w wr) (fun _ v _ => n - (intOf v).toNat)
  case atStart => exact ⟨0, Nat.zero_le _, rfl, Or.inl ⟨rfl, rfl⟩, Grw.rfl' _⟩
  case round =>
    obtain ⟨i, hi, rfl, hout, hg⟩ := hrel
    have G := Lib.hid hg
    clear hg
    by_cases hi' : i < n
    · have hii : (i : Int) < (n : Int) := by omega
      have hil : i < l.length := by rw [HN.out]; exact hi'
      have hlen : (RG.sort (l.take i)).length = i := by rw [RG.sort_len, List.length_take]; omega
      obtain ⟨o, ho⟩ : ∃ o, RG.sort (l.take i) = o := ⟨_, rfl⟩
      rw [ho] at hout hlen
      have SS := Lib.hid (fun p (hp : RG.place l[i] o o.length = p) => sort_step hil ho hp)
      obtain ⟨x, hx⟩ : ∃ x, l[i] = x := ⟨_, rfl⟩
      have HX := Lib.hid hx
      rw [hx] at SS
      clear ho
      rcases hout with ⟨rfl, rfl⟩ | ⟨hpos, ob, ooff, ocap, rfl, hoc, hoc2, _, hol⟩
      · obtain rfl : i = 0 := hlen.symm
        have hw0 := SS.out 0 rfl
        obtain ⟨lb, loff, rfl, c0, c1⟩ := lies_at (LI.out.later G.out) hil
        rw [hx] at c0 c1
        obtain ⟨xi, xt⟩ := x
        simp only [Nat.zero_mul, Nat.add_zero] at c0 c1
        go_wp2_with fail
        refine wp_loop_rounds 1 ?_
        rw [rounds_succ]
        go_wp2_with fail
        have m0 := gw_cell c0
        have m1 := gw_cell c1
        refine wp_region_grown (by kernel_rfl) (by kernel_rfl) ?_
        repeat (go_big_quiet_step (fail))
        refine wpQuiet_nil ?_
        rintro _ ⟨q', rfl⟩
        have d0 := q'.h.cell c0
        have d1 := q'.h.cell c1
        have GQ := Lib.hid (G.out.trans q'.h)
        obtain ⟨wq, hwq⟩ : ∃ wq, q'.x = wq := ⟨_, rfl⟩
        rw [hwq] at d0 d1 GQ ⊢
        clear m0 m1 c0 c1 hwq
        obtain ⟨v2, y2, hr1, hr2, ho2, hg2⟩ := sort_first wq ⟨xi, xt⟩
        have U := Lib.hid (And.intro (ho2.mono (Below.size GQ.out)) (GQ.out.trans hg2))
        simp only at hr1 hr2
        clear ho2 hg2
        go_wp2_with fail
        go_region_law (first | (refine step_append_run rfl (.tmp 38) (.tmp 41) 27 rfl _ _ (by simp [Act.eval, Act.put]) (by simp [Act.eval, Act.put]) (hr1 _) ?_) | (refine step_append_run rfl (.tmp 33) (.tmp 42) 27 rfl _ _ (by simp [Act.eval, Act.put]) (by simp [Act.eval, Act.put]) (hr2 _) ?_))
        clear hr1 hr2
        go_wp2_with fail
        go_roundw
        case rel => exact ⟨1, by omega, by go_num, by rw [hw0]; exact U.out.1, U.out.2⟩
        case measure => simp [intOf]; omega
      · have OL := Lib.hid hol
        clear hol
        rw [hlen] at hoc hpos ⊢
        have HLN := Lib.hid hlen
        go_wp2_with fail
        go_loopw [5] (fun v wi => ∃ k : Nat, k ≤ i ∧ v = .int .i64 k ∧ Grw wr wi ∧ RG.place x o i = RG.place x o k) (fun v _ => (intOf v).toNat)
        case atStart => exact ⟨i, Nat.le_refl _, rfl, Grw.rfl' _, rfl⟩
        case round =>
          obtain ⟨k, hk, rfl, hgi, hpl⟩ := hrel
          obtain ⟨lb, loff, rfl, c0, c1⟩ := lies_at ((LI.out.later G.out).later hgi) hil
          rw [hx] at c0 c1
          obtain ⟨xi, xt⟩ := x
          simp only at c0 c1
          have m0 := gw_cell c0
          have m1 := gw_cell c1
          have GI := Lib.hid hgi
          have PL := Lib.hid hpl
          clear hgi hpl
          by_cases hk0 : 0 < k
          · obtain ⟨q, hq⟩ : ∃ q, k = q + 1 := ⟨k - 1, by omega⟩
            have hql : q < o.length := by rw [HLN.out]; omega
            obtain ⟨b2, off2, e2, e0, e1⟩ := lies_at (OL.out.later GI.out) hql
            injection e2 with e2
            injection e2 with e2 e3
            subst e2; subst e3
            obtain ⟨y, hy⟩ : ∃ y, o[q] = y := ⟨_, rfl⟩
            rw [hy] at e0 e1
            obtain ⟨r, hr⟩ : ∃ r, RG.less ⟨xi, xt⟩ y = r := ⟨_, rfl⟩
            have HR := Lib.hid hr
            have HY := Lib.hid hy
            have C := Lib.hid (fun w => less_is ⟨xi, xt⟩ y r hr w)
            obtain ⟨yi, yt⟩ := y
            unfold dv at C
            simp only at C e0 e1
            have n0 := gw_cell e0
            have n1 := gw_cell e1
            have hqo : q < i := by omega
            have hqi : (q : Int) < (i : Int) := by omega
            have hpos' : decide (0 < (k : Int)) = true := by simp; omega
            have hq1 : IntKind.i64.wrap ((k : Int) - 1) = (q : Int) := by rw [IntKind.wrap_i64]; omega
            have HQ := Lib.hid hq
            clear e0 e1 hr hy hq
            cases r with
            | true =>
              go_wp2_with fail
              refine wp_region_grown (by kernel_rfl) (by kernel_rfl) ?_
              repeat (go_big_quiet_step (first | (go_at_call 55; exact calls_grown (C.out _))))
              refine wpQuiet_nil ?_
              rintro _ ⟨q', rfl⟩
              have GQ := Lib.hid (GI.out.trans q'.h)
              clear m0 m1 n0 n1
              go_wp2_with fail
              go_roundw
              case rel => exact ⟨q, by omega, by have := HQ.out; go_num, GQ.out, by rw [PL.out, HQ.out]; exact place_yes hql (by rw [HY.out]; exact HR.out)⟩
              case measure =>
                have := HQ.out
                simp [intOf]; omega
            | false =>
              go_wp2_with fail
              refine wp_region_grown (by kernel_rfl) (by kernel_rfl) ?_
              repeat (go_big_quiet_step (first | (go_at_call 55; exact calls_grown (C.out _))))
              refine wpQuiet_nil ?_
              rintro _ ⟨q', rfl⟩
              have d0 := q'.h.cell c0
              have d1 := q'.h.cell c1
              have GQ := Lib.hid ((G.out.trans GI.out).trans q'.h)
              have OQ := Lib.hid ((OL.out.later GI.out).later q'.h)
              obtain ⟨wq, hwq⟩ : ∃ wq, q'.x = wq := ⟨_, rfl⟩
              rw [hwq] at d0 d1 GQ OQ ⊢
              clear m0 m1 n0 n1 c0 c1 hwq hq1
              have NS := SS.out k (by rw [HLN.out, PL.out]; rw [HQ.out]; exact place_no hql (by rw [HY.out]; exact HR.out))
              by_cases hck : ocap = k
              · skip
                have hki : k = i := by omega
                subst hki
                subst hck
                obtain ⟨v1, y1, v2, y2, hr1, hr2, ho2, hg2⟩ := sort_appends wq ob ooff ocap o ⟨xi, xt⟩ ocap (by rw [HLN.out]; omega) (by rw [HLN.out]; exact hoc) OQ.out (by rw [HLN.out]; omega) ⟨ob, ooff, none⟩ 0 (by rw [if_pos rfl])
                rw [HLN.out, Nat.sub_self] at hr1
                have U := Lib.hid (And.intro (ho2.mono (Below.size GQ.out)) (GQ.out.trans hg2))
                have NN := Lib.hid NS
                simp only at hr1 hr2
                clear ho2 hg2 NS
                go_wp2_with fail
                go_region_law (first | (refine step_append_run rfl (.tmp 38) (.tmp 41) 27 rfl _ _ (by simp [Act.eval, Act.put]) (by simp [Act.eval, Act.put]) (hr1 _) ?_) | (refine step_append_run rfl (.tmp 33) (.tmp 42) 27 rfl _ _ (by simp [Act.eval, Act.put]) (by simp [Act.eval, Act.put]) (hr2 _) ?_))
                clear hr1 hr2
                go_wp2_with fail
                refine ⟨⟨ocap + 1, by omega, by go_num, by rw [NN.out]; exact U.out.1, U.out.2⟩, by simp [intOf]; omega⟩
              · skip
                obtain ⟨v1, y1, v2, y2, hr1, hr2, ho2, hg2⟩ := sort_appends wq ob ooff ocap o ⟨xi, xt⟩ k (by rw [HLN.out]; omega) (by rw [HLN.out]; exact hoc) OQ.out (by rw [HLN.out]; omega) ⟨ob, ooff + k * 2, none⟩ (ocap - k) (by rw [if_neg hck])
                rw [HLN.out] at hr1
                have U := Lib.hid (And.intro (ho2.mono (Below.size GQ.out)) (GQ.out.trans hg2))
                have NN := Lib.hid NS
                have hk2 : k ≤ ocap := by omega
                have hk3 : ¬ ocap = k := hck
                simp only [Nat.zero_mul, Nat.add_zero, Nat.sub_zero] at hr1 hr2
                clear ho2 hg2 NS hck
                go_wp2_with fail
                go_region_law (first | (refine step_append_run rfl (.tmp 38) (.tmp 41) 27 rfl _ _ (by simp [Act.eval, Act.put]) (by simp [Act.eval, Act.put]) (hr1 _) ?_) | (refine step_append_run rfl (.tmp 33) (.tmp 42) 27 rfl _ _ (by simp [Act.eval, Act.put]) (by simp [Act.eval, Act.put]) (hr2 _) ?_))
                clear hr1 hr2
                go_wp2_with fail
                refine ⟨⟨i + 1, by omega, by go_num, by rw [NN.out]; exact U.out.1, U.out.2⟩, by simp [intOf]; omega⟩
          · obtain rfl : k = 0 := by omega
            have hck : ¬ ocap = 0 := by omega
            go_wp2_with fail
            refine wp_region_grown (by kernel_rfl) (by kernel_rfl) ?_
            repeat (go_big_quiet_step (fail))
            refine wpQuiet_nil ?_
            rintro _ ⟨q', rfl⟩
            have d0 := q'.h.cell c0
            have d1 := q'.h.cell c1
            have GQ := Lib.hid ((G.out.trans GI.out).trans q'.h)
            have OQ := Lib.hid ((OL.out.later GI.out).later q'.h)
            obtain ⟨wq, hwq⟩ : ∃ wq, q'.x = wq := ⟨_, rfl⟩
            rw [hwq] at d0 d1 GQ OQ ⊢
            clear m0 m1 c0 c1 hwq
            have NS := SS.out 0 (by rw [HLN.out, PL.out]; rfl)
            obtain ⟨v1, y1, v2, y2, hr1, hr2, ho2, hg2⟩ := sort_appends wq ob ooff ocap o ⟨xi, xt⟩ 0 (by rw [HLN.out]; omega) (by rw [HLN.out]; exact hoc) OQ.out (by rw [HLN.out]; omega) ⟨ob, ooff + 0 * 2, none⟩ (ocap - 0) (by rw [if_neg hck])
            rw [HLN.out] at hr1
            have U := Lib.hid (And.intro (ho2.mono (Below.size GQ.out)) (GQ.out.trans hg2))
            have NN := Lib.hid NS
            have hk2 : 0 ≤ ocap := by omega
            have hk3 : ¬ ocap = 0 := hck
            simp only [Nat.zero_mul, Nat.add_zero, Nat.sub_zero] at hr1 hr2
            clear ho2 hg2 NS hck
            go_wp2_with fail
            go_region_law (first | (refine step_append_run rfl (.tmp 38) (.tmp 41) 27 rfl _ _ (by simp [Act.eval, Act.put]) (by simp [Act.eval, Act.put]) (hr1 _) ?_) | (refine step_append_run rfl (.tmp 33) (.tmp 42) 27 rfl _ _ (by simp [Act.eval, Act.put]) (by simp [Act.eval, Act.put]) (hr2 _) ?_))
            clear hr1 hr2
            go_wp2_with fail
            refine ⟨⟨i + 1, by omega, by go_num, by rw [NN.out]; exact U.out.1, U.out.2⟩, by simp [intOf]; omega⟩
    · have hii : ¬ (i : Int) < (n : Int) := by omega
      obtain rfl : i = n := by omega
      have U := Lib.hid hout
      clear hout
      go_wp2_with fail
      go_ret
      have e : l.take i = l := List.take_of_length_le (by rw [HN.out]; exact Nat.le_refl _)
      refine ⟨_, rfl, ?_, G.out⟩
      have := U.out
      rwa [e] at this
end SF
end Go.Proofs.YtjkhgpdhhnfmlaaDoor
