/- The law PlanSorts, walked. -/
import Derived.Test.YtjkhgpdhhnfmlaaPt
namespace Go.Proofs.Ytjkhgpdhhnfmlaa
open Go.RowKit
open RG (Du)
open PM
set_option linter.unusedSimpArgs false

/-- how many are d. -/
def eqD (x y : Du) : Bool := decide (x.id = y.id) && decide (x.t = y.t)
set_option maxHeartbeats 1000000 in
theorem eq25 (a c : Int) (b d : Nat) (w : World) : (Op.equalIn 10000 25 (.agg #[.int .i64 a, .int .u64 (b : Nat)]) (.agg #[.int .i64 c, .int .u64 (d : Nat)])).run Try.prog w = .ok (eqD ⟨a, b⟩ ⟨c, d⟩) w := by
  have u3 := Try.underlying3
  have a3 := Try.isAgg3
  have z3 := Try.sizeOf3
  have u23 := Try.underlying23
  unfold eqD
  by_cases h1 : a = c
  · subst h1
    by_cases h2 : b = d
    · subst h2
      rw [show (10000 : Nat) = 9999 + 1 from rfl, Op.equalIn]
      simp only [Sem.run_bind, run_underlying Try.underlying25, Result.andThen_ok]
      go_simp
    · have h3 : ((b : Int) == (d : Int)) = false := by simp; omega
      have h4 : ¬ (b : Int) = (d : Int) := by omega
      rw [show (10000 : Nat) = 9999 + 1 from rfl, Op.equalIn]
      simp only [Sem.run_bind, run_underlying Try.underlying25, Result.andThen_ok]
      go_simp
  · have h3 : (a == c) = false := by simp [h1]
    rw [show (10000 : Nat) = 9999 + 1 from rfl, Op.equalIn]
    simp only [Sem.run_bind, run_underlying Try.underlying25, Result.andThen_ok]
    go_simp
def cnt (d : Du) (l : List Du) : Nat := l.countP (fun x => eqD x d)
theorem cnt_le (d : Du) (l : List Du) : cnt d l ≤ l.length := List.countP_le_length
theorem cnt_take {d : Du} {l : List Du} {k : Nat} (h : k < l.length) : cnt d (l.take (k + 1)) = if eqD l[k] d = true then cnt d (l.take k) + 1 else cnt d (l.take k) := by
  rw [List.take_succ_eq_append_getElem h]
  unfold cnt
  rw [List.countP_append, List.countP_singleton]
  split <;> rfl
theorem cnt_perm {d : Du} {l k : List Du} (h : l.Perm k) : cnt d l = cnt d k := h.countP_eq _
/-- is a number there twice: i against those below k. -/
def twI (l : List Du) (i : Nat) : Nat → Bool
  | 0 => false
  | k + 1 => twI l i k || (decide (k ≠ i) && decide ((l.getD k default).id = (l.getD i default).id))
def tw (l : List Du) : Nat → Bool
  | 0 => false
  | i + 1 => tw l i || twI l i l.length
theorem gd_at {l : List Du} {k : Nat} (h : k < l.length) : l.getD k default = l[k] := by simp [List.getD, h]
theorem twI_t (l : List Du) (i k : Nat) : twI l i k = true ↔ ∃ q, q < k ∧ q ≠ i ∧ (l.getD q default).id = (l.getD i default).id := by
  induction k with
  | zero => simp [twI]
  | succ k ih =>
    simp only [twI, Bool.or_eq_true, ih, Bool.and_eq_true, decide_eq_true_eq]
    constructor
    · rintro (⟨q, h1, h2⟩ | ⟨h1, h2⟩)
      · exact ⟨q, by omega, h2⟩
      · exact ⟨k, by omega, h1, h2⟩
    · rintro ⟨q, h1, h2, h3⟩
      rcases (by omega : q < k ∨ q = k) with e | e
      · exact Or.inl ⟨q, e, h2, h3⟩
      · subst e; exact Or.inr ⟨h2, h3⟩
theorem tw_t (l : List Du) (i : Nat) : tw l i = true ↔ ∃ j, j < i ∧ twI l j l.length = true := by
  induction i with
  | zero => simp [tw]
  | succ k ih =>
    simp only [tw, Bool.or_eq_true, ih]
    constructor
    · rintro (⟨q, h1, h2⟩ | h1)
      · exact ⟨q, by omega, h2⟩
      · exact ⟨k, by omega, h1⟩
    · rintro ⟨q, h1, h2⟩
      rcases (by omega : q < k ∨ q = k) with e | e
      · exact Or.inl ⟨q, e, h2⟩
      · subst e; exact Or.inr h2
theorem tw_nodup (l : List Du) : tw l l.length = true ↔ ¬ (ids l).Nodup := by
  rw [tw_t]
  constructor
  · rintro ⟨j, hj, h⟩ hn
    obtain ⟨q, hq, hne, e⟩ := (twI_t l j l.length).1 h
    rw [gd_at hq, gd_at hj] at e
    exact hne (nodup_at hn hq hj e)
  · intro hn
    cases hb : tw l l.length with
    | true => exact (tw_t l l.length).1 hb
    | false =>
      refine absurd ?_ hn
      unfold ids
      refine List.pairwise_iff_getElem.2 fun i j hi hj hij e => ?_
      simp only [List.length_map] at hi hj
      simp only [List.getElem_map] at e
      have : tw l l.length = true := (tw_t l l.length).2 ⟨j, hj, (twI_t l j l.length).2 ⟨i, hi, by omega, by rw [gd_at hi, gd_at hj]; exact e⟩⟩
      rw [this] at hb
      cases hb
theorem gd_tw (l : List Du) : gdB (RG.sort l) = !tw l l.length := by
  cases h : tw l l.length with
  | true => exact gdB_f (fun g => (tw_nodup l).1 h ((gd_sort l).1 g))
  | false =>
    refine gdB_t ((gd_sort l).2 ?_)
    refine Classical.byContradiction fun g => ?_
    rw [(tw_nodup l).2 g] at h
    cases h
theorem sort_sort (l : List Du) : RG.sort (RG.sort l) = RG.sort l := RG.sort_is (RG.sort_srt l) (List.Perm.refl _)
theorem wis_sort {l : List Du} (h : Wis l) : Wis (RG.sort l) := fun d hd => h d ((RG.sort_perm l).mem_iff.1 hd)
set_option maxHeartbeats 4000000 in
set_option maxRecDepth 100000 in
theorem sorts_walk (v0 : Value) (l : List Du) (w : World) (hA : Are w v0 l) (hw : Wis l) :
    Calls Try.prog 6 #[v0] w fun e w' => e = .returned (.bool true) ∧ Grw w w' := by
  obtain ⟨ao, cap, rfl, hl⟩ := hA.row
  have WK := Lib.hid wakes_any
  have LI := Lib.hid hl
  have WI := Lib.hid hw
  obtain ⟨n, hn⟩ : ∃ n, l.length = n := ⟨_, rfl⟩
  have HN := Lib.hid hn
  have AR := Lib.hid hA
  rw [hn] at AR ⊢
  clear hn hl hw hA
  by_cases hbig : 40 < n
  · have hb1 : decide ((40 : Int) < (n : Int)) = true := by simp; omega
    have hb2 : decide (40 < n) = true := by simp; omega
    go_enter Try.func6, Try.ntmps6
    go_wp2_with fail
    refine (WK.out _).mono ?_
    rintro _ w1 ⟨rfl, hw⟩
    have G := Lib.hid hw
    clear hw
    go_wp2_with fail
    go_ret
    exact ⟨rfl, G.out⟩
  · have hb1 : decide ((40 : Int) < (n : Int)) = false := by simp; omega
    have hb2 : decide (40 < n) = false := by simp; omega
    have hlen : l.length ≤ 1000000 := by rw [HN.out]; omega
    have P1 := Lib.hid (psort_is _ l w AR.out hlen)
    obtain ⟨S, hS⟩ : ∃ S, RG.sort l = S := ⟨_, rfl⟩
    have hSn : S.length = n := by rw [← hS, RG.sort_len, HN.out]
    have HS := Lib.hid hS
    have HSN := Lib.hid hSn
    unfold PsQ at P1
    rw [hS] at P1
    have d1 : ((n : Int) != (n : Int)) = false := by simp
    have d2 : (n != n) = false := by simp
    clear hS hSn
    go_enter Try.func6, Try.ntmps6
    go_wp2_with fail
    refine P1.out.mono ?_
    rintro _ w1 ⟨v, rfl, hAre, hg⟩
    obtain ⟨vo, vc, rfl, hlv⟩ := hAre.row
    have P2 := Lib.hid (psort_is _ S w1 hAre (by rw [HSN.out]; omega))
    unfold PsQ at P2
    rw [show RG.sort S = S by rw [← HS.out]; exact sort_sort l] at P2
    rw [HSN.out] at P2 hAre ⊢
    have LV := Lib.hid hlv
    have G1 := Lib.hid hg
    clear hlv hg hAre
    go_wp2_with fail
    refine P2.out.mono ?_
    rintro _ w2 ⟨v2, rfl, hAre2, hg⟩
    have D := Lib.hid (dues_same v2 (.slice vo n vc) S w2 (by rw [HSN.out]; omega) hAre2.row ⟨vo, vc, by rw [HSN.out], LV.out.later hg⟩)
    have LV2 := Lib.hid (LV.out.later hg)
    have G2 := Lib.hid (G1.out.trans hg)
    clear hAre2 hg
    go_wp2_with fail
    refine D.out.mono ?_
    rintro _ w3 ⟨rfl, hg⟩
    have LV3 := Lib.hid (LV2.out.later hg)
    have G3 := Lib.hid (G2.out.trans hg)
    clear hg
    go_wp2_with fail
    go_loopw [4, 5] (fun u4 u5 wr => ∃ i : Nat, i ≤ n ∧ u4 = .bool (tw l i) ∧ u5 = .int .i64 i ∧ Grw w3 wr) (fun _ u5 _ => n - (intOf u5).toNat)
    case atStart => exact ⟨0, Nat.zero_le _, rfl, rfl, Grw.rfl' _⟩
    case round =>
      obtain ⟨i, hi, rfl, rfl, hg⟩ := hrel
      by_cases hi' : i < n
      · have hii : (i : Int) < (n : Int) := by omega
        have hil : i < l.length := by rw [HN.out]; exact hi'
        have hisl : i < S.length := by rw [HSN.out]; exact hi'
        have hlw := LI.out.later (G3.out.trans hg)
        have hlv := LV3.out.later hg
        obtain ⟨b, off, rfl, c0, c1⟩ := lies_at hlw hil
        obtain ⟨b2, off2, rfl, e0, e1⟩ := lies_at hlv hisl
        obtain ⟨x, hx⟩ : ∃ x, l[i] = x := ⟨_, rfl⟩
        rw [hx] at c0 c1
        have HX := Lib.hid hx
        have G := Lib.hid hg
        have LW := Lib.hid hlw
        have LVW := Lib.hid hlv
        obtain ⟨t0, ht0⟩ : ∃ t, tw l i = t := ⟨_, rfl⟩
        have HT := Lib.hid ht0
        rw [ht0]
        obtain ⟨xi, xt⟩ := x
        simp only at c0 c1
        clear hx hg hlw hlv ht0 e0 e1
        go_wp2_with fail
        go_loopw [4, 6, 7, 8] (fun u4 u6 u7 u8 wk => ∃ k : Nat, k ≤ n ∧ u4 = .bool (t0 || twI l i k) ∧ u6 = .int .i64 (cnt ⟨xi, xt⟩ (l.take k) : Nat) ∧ u7 = .int .i64 (cnt ⟨xi, xt⟩ (S.take k) : Nat) ∧ u8 = .int .i64 k ∧ Grw wr wk) (fun _ _ _ u8 _ => n - (intOf u8).toNat)
        case atStart => exact ⟨0, Nat.zero_le _, by simp [twI], rfl, rfl, rfl, Grw.rfl' _⟩
        case round =>
          obtain ⟨k, hk, rfl, rfl, rfl, rfl, hg⟩ := hrel
          by_cases hk' : k < n
          · have hki : (k : Int) < (n : Int) := by omega
            have hkl : k < l.length := by rw [HN.out]; exact hk'
            have hks : k < S.length := by rw [HSN.out]; exact hk'
            obtain ⟨b', off', e', f0, f1⟩ := lies_at (LW.out.later hg) hkl
            injection e' with e'
            injection e' with e1 e2
            subst e1 e2
            obtain ⟨b', off', e', h0, h1⟩ := lies_at (LVW.out.later hg) hks
            injection e' with e'
            injection e' with e1 e2
            subst e1 e2
            have g0 := hg.cell c0
            have g1 := hg.cell c1
            obtain ⟨y, hy⟩ : ∃ y, l[k] = y := ⟨_, rfl⟩
            obtain ⟨z, hz⟩ : ∃ z, S[k] = z := ⟨_, rfl⟩
            rw [hy] at f0 f1
            rw [hz] at h0 h1
            obtain ⟨yi, yt⟩ := y
            obtain ⟨zi, zt⟩ := z
            simp only at f0 f1 h0 h1
            have CN1 := cnt_take (d := ⟨xi, xt⟩) hkl
            have CN2 := cnt_take (d := ⟨xi, xt⟩) hks
            rw [hy] at CN1
            rw [hz] at CN2
            have TW : (t0 || twI l i (k + 1)) = ((t0 || twI l i k) || (decide ((k : Nat) ≠ i) && decide (yi = xi))) := by
              simp only [twI]
              rw [gd_at hkl, gd_at hil, hy, HX.out, Bool.or_assoc]
            obtain ⟨r1, hr1⟩ : ∃ r, eqD ⟨yi, yt⟩ ⟨xi, xt⟩ = r := ⟨_, rfl⟩
            obtain ⟨r2, hr2⟩ : ∃ r, eqD ⟨zi, zt⟩ ⟨xi, xt⟩ = r := ⟨_, rfl⟩
            obtain ⟨c1', hc1⟩ : ∃ c, cnt ⟨xi, xt⟩ (l.take k) = c := ⟨_, rfl⟩
            obtain ⟨c2', hc2⟩ : ∃ c, cnt ⟨xi, xt⟩ (S.take k) = c := ⟨_, rfl⟩
            obtain ⟨t, ht⟩ : ∃ t, (t0 || twI l i k) = t := ⟨_, rfl⟩
            obtain ⟨ne, hne⟩ : ∃ b, decide ((k : Nat) ≠ i) = b := ⟨_, rfl⟩
            obtain ⟨eq, heq⟩ : ∃ b, decide (yi = xi) = b := ⟨_, rfl⟩
            rw [hr1, hc1] at CN1
            rw [hr2, hc2] at CN2
            rw [ht, hne, heq] at TW
            rw [ht, hc1, hc2]
            have hb1' : c1' ≤ 1000000 := by rw [← hc1]; exact Nat.le_trans (cnt_le _ _) (by simp; omega)
            have hb2' : c2' ≤ 1000000 := by rw [← hc2]; exact Nat.le_trans (cnt_le _ _) (by simp; omega)
            have hne1 : ((k : Int) != (i : Int)) = ne := by
              rw [← hne]
              by_cases h : k = i
              · subst h; simp
              · have h' : ((k : Int) == (i : Int)) = false := by simp; omega
                simp [bne, h', h]
            have heq1 : (yi == xi) = eq := by rw [← heq]; by_cases h : yi = xi <;> simp [h]
            have K1 := Lib.hid CN1
            have K2 := Lib.hid CN2
            have KT := Lib.hid TW
            have GK := Lib.hid hg
            have CL := Lib.hid (And.intro (And.intro f0 f1) (And.intro (And.intro g0 g1) (And.intro h0 h1)))
            have EQ := eq25
            clear hy hz CN1 CN2 TW ht hc1 hc2 hne heq hg f0 f1 g0 g1 h0 h1 c0 c1
            as_aux_lemma =>
            cases r1 <;> cases r2 <;> cases t <;> cases ne <;> cases eq
            all_goals
              have m0 := gw_cell CL.out.1.1
              have m1 := gw_cell CL.out.1.2
              have m2 := gw_cell CL.out.2.1.1
              have m3 := gw_cell CL.out.2.1.2
              go_wp2_with fail
              refine wp_region_grown (by kernel_rfl) (by kernel_rfl) ?_
              repeat (go_big_quiet_step (fail))
              refine wpQuiet_nil ?_
              rintro _ ⟨q, rfl⟩
              clear m0 m1 m2 m3
              obtain ⟨w5, hw5⟩ : ∃ w5, q.x = w5 := ⟨_, rfl⟩
              have Q5 := Lib.hid q.h
              rw [hw5] at Q5 ⊢
              clear hw5
              have m0 := gw_cell (Q5.out.cell CL.out.2.2.1)
              have m1 := gw_cell (Q5.out.cell CL.out.2.2.2)
              have m2 := gw_cell (Q5.out.cell CL.out.2.1.1)
              have m3 := gw_cell (Q5.out.cell CL.out.2.1.2)
              go_wp2_with fail
              refine wp_region_grown (by kernel_rfl) (by kernel_rfl) ?_
              repeat (go_big_quiet_step (fail))
              refine wpQuiet_nil ?_
              rintro _ ⟨q2, rfl⟩
              clear m0 m1 m2 m3
              obtain ⟨w6, hw6⟩ : ∃ w6, q2.x = w6 := ⟨_, rfl⟩
              have Q6 := Lib.hid (Q5.out.trans q2.h)
              rw [hw6] at Q6 ⊢
              clear hw6
              have m0 := gw_cell (Q6.out.cell CL.out.1.1)
              have m2 := gw_cell (Q6.out.cell CL.out.2.1.1)
              go_wp2_with fail
              refine wp_region_grown (by kernel_rfl) (by kernel_rfl) ?_
              repeat (go_big_quiet_step (fail))
              refine wpQuiet_nil ?_
              rintro _ ⟨q3, rfl⟩
              have Q7 := Lib.hid ((GK.out.trans Q6.out).trans q3.h)
              clear m0 m2
              go_wp2_with fail
              go_roundw
              case rel => exact ⟨k + 1, by omega, by rw [KT.out]; rfl, by rw [K1.out]; first | rfl | (simp; done), by rw [K2.out]; first | rfl | (simp; done), by go_num, Q7.out⟩
              case measure => simp [intOf]; omega
          · have hki : ¬ (k : Int) < (n : Int) := by omega
            obtain rfl : n = k := by omega
            have e1 : l.take n = l := List.take_of_length_le (by rw [HN.out]; exact Nat.le_refl _)
            have e2 : S.take n = S := List.take_of_length_le (by rw [HSN.out]; exact Nat.le_refl _)
            rw [e1, e2]
            have e3 : cnt ⟨xi, xt⟩ S = cnt ⟨xi, xt⟩ l := cnt_perm (by rw [← HS.out]; exact RG.sort_perm l)
            rw [e3]
            obtain ⟨m, hm⟩ : ∃ m, cnt ⟨xi, xt⟩ l = m := ⟨_, rfl⟩
            rw [hm]
            have x1 : ((m : Int) != (m : Int)) = false := by simp
            obtain ⟨t, ht⟩ : ∃ t, (t0 || twI l i n) = t := ⟨_, rfl⟩
            have KT : Hid (tw l (i + 1) = t) := (by show (tw l i || twI l i l.length) = t; rw [HN.out, HT.out]; exact ht : tw l (i + 1) = t)
            rw [ht]
            have GK := Lib.hid (G.out.trans hg)
            have LVK := Lib.hid (LVW.out.later hg)
            clear e1 e2 e3 hm ht hg c0 c1
            as_aux_lemma =>
            rcases Nat.eq_zero_or_pos i with h0 | h0
            · have y1 : decide ((0 : Int) < (i : Int)) = false := by simp; omega
              have y2 : decide (0 < i) = false := by simp; omega
              go_wp2_with fail
              refine wp_region_grown (by kernel_rfl) (by kernel_rfl) ?_
              repeat (go_big_quiet_step (fail))
              refine wpQuiet_nil ?_
              rintro _ ⟨q, rfl⟩
              have Q7 := Lib.hid (GK.out.trans q.h)
              go_wp2_with fail
              go_roundw
              case rel => exact ⟨i + 1, by omega, by rw [KT.out], by go_num, Q7.out⟩
              case measure => simp [intOf]; omega
            · obtain ⟨i', hi1⟩ : ∃ i', i = i' + 1 := ⟨i - 1, by omega⟩
              have his : i < S.length := by rw [HSN.out]; exact hi'
              have his' : i' < S.length := by omega
              obtain ⟨b', off', e', h0', h1'⟩ := lies_at LVK.out his
              injection e' with e'
              injection e' with e1 e2
              subst e1 e2
              obtain ⟨b', off', e', k0', k1'⟩ := lies_at LVK.out his'
              injection e' with e'
              injection e' with e1 e2
              subst e1 e2
              have hle : RG.less S[i] S[i'] = false := by
                have hs := RG.sort_srt l
                rw [HS.out] at hs
                exact List.pairwise_iff_getElem.1 hs i' i his' his (by omega)
              obtain ⟨y, hy⟩ : ∃ y, S[i] = y := ⟨_, rfl⟩
              obtain ⟨z, hz⟩ : ∃ z, S[i'] = z := ⟨_, rfl⟩
              rw [hy] at h0' h1' hle
              rw [hz] at k0' k1' hle
              have C := Lib.hid (fun w => less_any y z w)
              rw [hle] at C
              obtain ⟨yi, yt⟩ := y
              obtain ⟨zi, zt⟩ := z
              unfold dv at C
              simp only at h0' h1' k0' k1' C
              have y1 : decide ((0 : Int) < (i : Int)) = true := by simp; omega
              have y2 : decide (0 < i) = true := by simp; omega
              have y3 : IntKind.i64.wrap ((i : Int) - 1) = (i' : Int) := by simp [IntKind.wrap_i64]; omega
              have y4 : (i : Int) - 1 = (i' : Int) := by omega
              have y5 : i' < n := by omega
              have m0 := gw_cell h0'
              have m1 := gw_cell h1'
              have m2 := gw_cell k0'
              have m3 := gw_cell k1'
              clear hy hz hle h0' h1' k0' k1' hi1 h0
              go_wp2_with fail
              refine wp_region_grown (by kernel_rfl) (by kernel_rfl) ?_
              repeat (go_big_quiet_step (first | (go_at_call 19; with_reducible exact calls_grown (C.out _))))
              refine wpQuiet_nil ?_
              rintro _ ⟨q, rfl⟩
              have Q7 := Lib.hid (GK.out.trans q.h)
              clear m0 m1 m2 m3 y4
              go_wp2_with fail
              go_roundw
              case rel => exact ⟨i + 1, by omega, by rw [KT.out], by go_num, Q7.out⟩
              case measure => simp [intOf]; omega
      · have hii : ¬ (i : Int) < (n : Int) := by omega
        obtain rfl : n = i := by omega
        have ho : gdB S = !tw l n := by rw [← HS.out, gd_tw, HN.out]
        obtain ⟨t, ht⟩ : ∃ t, tw l n = t := ⟨_, rfl⟩
        rw [ht] at ho ⊢
        have GD := Lib.hid (good_is vo vc S n (!t) wr (LV3.out.later hg) (by rw [HSN.out]; omega) (by rw [← HS.out]; exact wis_sort WI.out) HSN.out ho)
        have G := Lib.hid (G3.out.trans hg)
        clear hg ho ht
        cases t with
        | true =>
          go_wp2_with fail
          refine GD.out.mono ?_
          rintro _ w5 ⟨rfl, hg⟩
          have G5 := Lib.hid (G.out.trans hg)
          clear hg
          go_wp2_with fail
          refine (WK.out _).mono ?_
          rintro _ w6 ⟨rfl, hg⟩
          have G6 := Lib.hid (G5.out.trans hg)
          clear hg
          go_wp2_with fail
          go_ret
          exact ⟨rfl, G6.out⟩
        | false =>
          go_wp2_with fail
          refine GD.out.mono ?_
          rintro _ w5 ⟨rfl, hg⟩
          have G5 := Lib.hid (G.out.trans hg)
          clear hg
          go_wp2_with fail
          refine (WK.out _).mono ?_
          rintro _ w6 ⟨rfl, hg⟩
          have G6 := Lib.hid (G5.out.trans hg)
          clear hg
          go_wp2_with fail
          go_ret
          exact ⟨rfl, G6.out⟩
end Go.Proofs.Ytjkhgpdhhnfmlaa
