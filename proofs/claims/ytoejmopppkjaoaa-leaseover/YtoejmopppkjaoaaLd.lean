/- The law LeaseOver. -/
import Derived.Test.YtoejmopppkjaoaaLa
import Derived.Test.YtoejmopppkjaoaaUc
import Derived.Test.YtoejmopppkjaoaaOb
namespace Go.Proofs.Ytoejmopppkjaoaa
open Go.RowKit
set_option linter.unusedSimpArgs false

/-- the table, and the row of who is gone. -/
structure OS (w0 w : World) (p mb jb gb N : Nat) (L : List Gr) (f : Nat → Bool) : Prop where
  m : TM w0 w p mb jb N L
  b : BR w gb N f
  gn : w0.heap.size ≤ gb
  ng : ¬ tf p mb jb gb
theorem OS.later {w0 w x : World} {p mb jb gb N : Nat} {L : List Gr} {f : Nat → Bool} (h : OS w0 w p mb jb gb N L f) (g : Grw w x) : OS w0 x p mb jb gb N L f :=
  ⟨h.m.later g, h.b.frm (g.frm (fun _ => False)) (fun e => e), h.gn, h.ng⟩
theorem OS.step {w0 w x : World} {p mb jb gb N : Nat} {L L' : List Gr} {f : Nat → Bool} (h : OS w0 w p mb jb gb N L f) (m : TM w0 x p mb jb N L') (fr : Frm (tf p mb jb) w x) : OS w0 x p mb jb gb N L' f :=
  ⟨m, h.b.frm fr h.ng, h.gn, h.ng⟩
theorem OS.set {w0 w : World} {p mb jb gb N : Nat} {L : List Gr} {f f' : Nat → Bool} (h : OS w0 w p mb jb gb N L f) (k : Nat) (e : ∀ q, q < N → f' q = if q = k then true else f q) : OS w0 (w.setCell ⟨gb, k, none⟩ (.bool true)) p mb jb gb N L f' ∧ Frm (fun q => q = gb) w (w.setCell ⟨gb, k, none⟩ (.bool true)) := by
  obtain ⟨h1, h2⟩ := h.b.set k e
  refine ⟨⟨⟨h.m.t.keep h2 (fun q hq c => h.ng (c ▸ hq)), h2.grw h.m.g (fun q hq => by rw [hq]; exact h.gn), h.m.new⟩, h1, h.gn, h.ng⟩, h2⟩
theorem OS.congr {w0 w : World} {p mb jb gb N : Nat} {L : List Gr} {f f' : Nat → Bool} (h : OS w0 w p mb jb gb N L f) (e : ∀ q, q < N → f' q = f q) : OS w0 w p mb jb gb N L f' := by
  have : bl f N = bl f' N := List.ext_getElem? fun q => by
    by_cases hq : q < N
    · rw [bl_at hq, bl_at hq, e q hq]
    · rw [List.getElem?_eq_none (by simp [bl]; omega), List.getElem?_eq_none (by simp [bl]; omega)]
  exact ⟨h.m, ⟨by rw [← this]; exact h.b.own⟩, h.gn, h.ng⟩
theorem no_job {us : List Nat} {k : Nat} : byJ (alls us k) (100 + (k : Int)) = none :=
  byJ_no fun g hg e => by obtain ⟨n, hn, rfl⟩ := mem_alls.1 hg; unfold at1 at e; simp only at e; omega
set_option maxHeartbeats 8000000 in
set_option maxRecDepth 100000 in
theorem lover_walk (ao1 : Option Addr) (cap1 : Nat) (us : List Nat) (ao2 : Option Addr) (cap2 : Nat) (ts : List Nat) (w : World) (hl1 : Lies w ao1 (cu us)) (hw1 : ∀ x ∈ us, x < 18446744073709551616) (hl2 : Lies w ao2 (cu ts)) (hw2 : ∀ x ∈ ts, x < 18446744073709551616)
    (hm1 : us.length ≤ 9223372036854775807) (hm2 : ts.length ≤ 9223372036854775807) :
    Calls Try.prog 5 #[.slice ao1 us.length cap1, .slice ao2 ts.length cap2] w fun e w' => e = .returned (.bool true) ∧ Grw w w' := by
  have L1 := Lib.hid hl1
  have L2 := Lib.hid hl2
  have W1 := Lib.hid hw1
  have W2 := Lib.hid hw2
  have WK := Lib.hid (fun w => wakes_any w)
  obtain ⟨N, hN⟩ : ∃ n, us.length = n := ⟨_, rfl⟩
  obtain ⟨T, hT⟩ : ∃ n, ts.length = n := ⟨_, rfl⟩
  rw [hN] at hm1 ⊢
  rw [hT] at hm2 ⊢
  have HN := Lib.hid hN
  have HT := Lib.hid hT
  clear hl1 hl2 hw1 hw2 hN hT
  by_cases c1 : 40 < N
  · have d1 : decide (40 < N) = true := by simp [c1]
    have d1' : (40 : Int) < (N : Int) := by omega
    go_enter Try.func5, Try.ntmps5
    go_wp2_with fail
    refine (WK.out _).mono ?_
    rintro _ w1 ⟨rfl, g⟩
    have G := Lib.hid g
    clear g
    go_wp2_with fail
    go_ret
    exact ⟨rfl, G.out⟩
  by_cases c2 : 20 < T
  · have d1 : decide (40 < N) = false := by simp [c1]
    have d2 : decide (20 < T) = true := by simp [c2]
    have d1' : ¬ (40 : Int) < (N : Int) := by omega
    have d2' : (20 : Int) < (T : Int) := by omega
    go_enter Try.func5, Try.ntmps5
    go_wp2_with fail
    refine (WK.out _).mono ?_
    rintro _ w1 ⟨rfl, g⟩
    have G := Lib.hid g
    clear g
    go_wp2_with fail
    go_ret
    exact ⟨rfl, G.out⟩
  have d1 : decide (40 < N) = false := by simp [c1]
  have d2 : decide (20 < T) = false := by simp [c2]
  have d1' : ¬ (40 : Int) < (N : Int) := by omega
  have d2' : ¬ (20 : Int) < (T : Int) := by omega
  obtain ⟨i4, hi4, hz4, hs4, hb4⟩ := info_parts Try.info4
  go_enter Try.func5, Try.ntmps5
  go_wp2_with fail
  refine (m_new w w (Grw.rfl' w)).mono ?_
  rintro _ w1 ⟨p, mb, jb, rfl, m1⟩
  have M1 := Lib.hid m1
  clear m1 d1 d2 d1' d2'
  go_wp2_with fail
  go_loopw [6] (fun u6 wr => ∃ k : Nat, k ≤ N ∧ u6 = .int .i64 k ∧ TM w wr p mb jb k (alls us k)) (fun u6 _ => N - (intOf u6).toNat)
  case atStart => exact ⟨0, Nat.zero_le _, rfl, M1.out⟩
  case round =>
    obtain ⟨k, hk, rfl, hTM⟩ := hrel
    have TT := Lib.hid hTM
    clear hTM
    by_cases hk' : k < N
    · have d1 : decide (k < N) = true := by simp [hk']
      have hki : (k : Int) < (N : Int) := by omega
      have hkl : k < us.length := by rw [HN.out]; exact hk'
      obtain ⟨b, o, rfl, cj⟩ := lies_map (f := fun x : Nat => Value.int .u64 (x : Nat)) (show Lies w ao1 (us.map _) from L1.out) hkl
      have wu := W1.out _ (List.getElem_mem hkl)
      have egd : us.getD k 0 = us[k] := by simp [List.getD, hkl]
      obtain ⟨u, hu⟩ : ∃ u, us[k] = u := ⟨_, rfl⟩
      rw [hu] at cj wu egd
      have cj' := TT.out.g.cell cj
      obtain ⟨m, hm⟩ : ∃ m, k + 1 = m := ⟨_, rfl⟩
      have q1 : IntKind.i64.wrap ((k : Int) + 1) = (m : Int) := by rw [← hm]; simp [IntKind.wrap_i64]; omega
      obtain ⟨jv, hjv⟩ : ∃ j, 100 + (k : Int) = j := ⟨_, rfl⟩
      have q2 : IntKind.i64.wrap (100 + (k : Int)) = jv := by rw [← hjv]; simp [IntKind.wrap_i64]; omega
      have GY := Lib.hid (m_grant TT.out jv u m hm (by unfold Wi; omega) wu (by rw [← hjv]; exact no_job) (by omega))
      have EQ : Hid (alls us k ++ [⟨m, jv, u⟩] = alls us m) := (by rw [← hm, alls_succ]; unfold at1; rw [hjv, egd] : alls us k ++ [⟨m, jv, u⟩] = alls us m)
      have hmN : m ≤ N := by omega
      have HM := Lib.hid hm
      clear cj wu egd hu hm hjv hkl
      go_wp2_with fail
      with_reducible refine GY.out.mono ?_
      rintro _ w2 ⟨rfl, t2, _⟩
      have T2 : Hid (TM w w2 p mb jb m (alls us m)) := (by rw [← EQ.out]; exact t2 : TM w w2 p mb jb m (alls us m))
      clear t2 cj'
      go_wp2_with fail
      go_roundw
      case rel => exact ⟨m, hmN, rfl, T2.out⟩
      case measure => have := HM.out; simp only [intOf]; omega
    · have d1 : decide (k < N) = false := by simp [hk']
      have hki : ¬ (k : Int) < (N : Int) := by omega
      obtain rfl : k = N := by omega
      go_wp2_with (at_make; refine wpList_make_full _ rfl _ _ 54 rfl 0 4 i4 _ 1 Try.underlying54 hi4 hz4 hs4 .i64 .i64 _ _ k rfl rfl rfl rfl (by rw [hb4]; omega) (by unfold maxLen; omega) (Nat.zero_le _) ?_)
      intro w2 hown hgrow
      have g2 : Grw wr w2 := (grownBy_frm hgrow).grw (Grw.rfl' wr) (fun k hk => by cases hk)
      obtain ⟨gb, hgb⟩ : ∃ gb, wr.heap.size = gb := ⟨_, rfl⟩
      rw [hgb] at hown ⊢
      have ng : ¬ tf p mb jb gb := fun e => by have := TT.out.t.lt gb e; omega
      have gn : w.heap.size ≤ gb := by have := Below.size TT.out.g; omega
      have O0 : Hid (OS w w2 p mb jb gb k (alls us k) (fun _ => false)) := (⟨TT.out.later g2, ⟨by
          rw [bl_none k (fun _ => false) (fun _ _ => rfl)]
          rw [← toList_madeCells_one, ← Nat.mul_one k]
          simpa using hown⟩, gn, ng⟩ : OS w w2 p mb jb gb k (alls us k) (fun _ => false))
      clear hown hgrow hgb g2 ng gn hk' hki
      go_wp2_with fail
      go_loopw [10, 11] (fun u10 u11 wr => ∃ (i lft : Nat) (f : Nat → Bool) (L : List Gr), i ≤ T ∧ u11 = .int .i64 i ∧ u10 = .int .i64 lft ∧ lft = L.length ∧ OS w wr p mb jb gb k L f ∧ GI us f L) (fun _ u11 _ => T - (intOf u11).toNat)
      case atStart => exact ⟨0, k, _, _, Nat.zero_le _, rfl, rfl, (alls_len us k).symm, O0.out, by have := GI.start us (fun _ => false) (fun _ _ => rfl); rwa [HN.out] at this⟩
      case round => as_aux_lemma =>
        obtain ⟨i, lft, f, L, hi, rfl, rfl, hlen, hos, hgi⟩ := hrel
        have OO := Lib.hid hos
        have GG := Lib.hid hgi
        have HL := Lib.hid hlen
        have hlk : lft ≤ k := by rw [hlen]; exact hos.m.t.ok.len
        clear hos hgi hlen
        by_cases hi' : i < T
        · have d2 : decide (i < T) = true := by simp [hi']
          have hii : (i : Int) < (T : Int) := by omega
          have hil : i < ts.length := by rw [HT.out]; exact hi'
          obtain ⟨b2, o2, rfl, cj⟩ := lies_map (f := fun x : Nat => Value.int .u64 (x : Nat)) (show Lies w ao2 (ts.map _) from L2.out) hil
          obtain ⟨tt, htt⟩ : ∃ u, ts[i] = u := ⟨_, rfl⟩
          rw [htt] at cj
          have CT : Hid (∀ x, Grw w x → x.cell? ⟨b2, o2 + i, none⟩ = some (.int .u64 (tt : Nat))) := (fun x g => g.cell cj : ∀ x, Grw w x → x.cell? ⟨b2, o2 + i, none⟩ = some (.int .u64 (tt : Nat)))
          have ct := CT.out _ OO.out.m.g
          have OV := Lib.hid (m_over OO.out.m tt)
          clear cj htt hil
          go_wp2_with fail
          with_reducible refine OV.out.mono ?_
          rintro _ w3 ⟨v, rfl, ⟨ao, cap, rfl, hl, hb⟩, m3, f3⟩
          have O3 := Lib.hid (OO.out.step m3 f3)
          have LI := Lib.hid hl
          have NB : Hid (∀ a, ao = some a → a.block ≠ gb) := (fun a e c => by have h1 := hb a e; have h2 := OO.out.b.lt; omega : ∀ a, ao = some a → a.block ≠ gb)
          obtain ⟨l, hle⟩ : ∃ l, ov tt L = l := ⟨_, rfl⟩
          obtain ⟨ln, hln⟩ : ∃ n, (ov tt L).length = n := ⟨_, rfl⟩
          have HLN := Lib.hid hln
          have LL : Hid (ln + (lf tt L).length = lft) := (by rw [← hln, HL.out]; exact ov_len tt L : ln + (lf tt L).length = lft)
          have lnk : ln ≤ lft := by have := LL.out; omega
          rw [hln]
          clear hl hb m3 f3 ct hle hln
          go_wp2_with fail
          go_loopw [10, 13] (fun u10 u13 wz => ∃ (q lq : Nat), q ≤ ln ∧ u13 = .int .i64 q ∧ u10 = .int .i64 lq ∧ lq + q = lft ∧ OS w wz p mb jb gb k (lf tt L) (fk us f (ov tt L) q) ∧ Lies wz ao (cg (ov tt L))) (fun _ u13 _ => ln - (intOf u13).toNat)
          case atStart => exact ⟨0, lft, Nat.zero_le _, rfl, rfl, rfl, O3.out.congr (fun q _ => fk_zero us f _ q), LI.out⟩
          case round => as_aux_lemma =>
            obtain ⟨q, lq, hq, rfl, rfl, hlq, hos, hli⟩ := hrel
            have O4 := Lib.hid hos
            have L4 := Lib.hid hli
            have HQ := Lib.hid hlq
            clear hos hli
            by_cases hq' : q < ln
            · skip
              have hql : q < (ov tt L).length := by rw [HLN.out]; exact hq'
              obtain ⟨b, o, rfl, e0, e1, e2⟩ := glies_at L4.out hql
              obtain ⟨m, hmk, hme, hfm, hut⟩ := GG.out.told OO.out.m.t.ok tt hql
              rw [HN.out] at hmk
              have hmu : m < us.length := by rw [HN.out]; exact hmk
              obtain ⟨b1, o1, rfl, cu1⟩ := lies_map (f := fun x : Nat => Value.int .u64 (x : Nat)) (show Lies w ao1 (us.map _) from L1.out) hmu
              have egd : us.getD m 0 = us[m] := by simp [List.getD, hmu]
              rw [← egd] at cu1
              rw [hme] at e0 e1 e2
              simp only [at1] at e0 e1 e2
              obtain ⟨um, hum⟩ : ∃ u, us.getD m 0 = u := ⟨_, rfl⟩
              rw [hum] at cu1 e2 hut
              obtain ⟨m1, hm1'⟩ : ∃ m1, m + 1 = m1 := ⟨_, rfl⟩
              rw [hm1'] at e0
              obtain ⟨jv, hjv⟩ : ∃ j, 100 + (m : Int) = j := ⟨_, rfl⟩
              rw [hjv] at e1
              have q14 : IntKind.i64.wrap ((m1 : Int) - 1) = (m : Int) := by rw [← hm1']; simp [IntKind.wrap_i64]; omega
              have q15 : IntKind.i64.wrap (100 + (m : Int)) = jv := by rw [← hjv]; simp [IntKind.wrap_i64]; omega
              have hcb := O4.out.b.cell hmk
              rw [hfm] at hcb
              have ct := CT.out _ O4.out.m.g
              have cu2 := O4.out.m.g.cell cu1
              have CE : Hid (∀ x, Grw wr x → (x.cell? ⟨b, o + q * 3, none⟩ = some (.int .i64 (m1 : Nat)) ∧ x.cell? ⟨b, o + q * 3 + 1, none⟩ = some (.int .i64 jv) ∧ x.cell? ⟨b, o + q * 3 + 2, none⟩ = some (.int .u64 (um : Nat)) ∧ x.cell? ⟨gb, m, none⟩ = some (.bool false) ∧ x.cell? ⟨b2, o2 + i, none⟩ = some (.int .u64 (tt : Nat)) ∧ x.cell? ⟨b1, o1 + m, none⟩ = some (.int .u64 (um : Nat)))) :=
                (fun x g => ⟨g.cell e0, g.cell e1, g.cell e2, g.cell hcb, g.cell ct, g.cell cu2⟩ : ∀ x, Grw wr x → (x.cell? ⟨b, o + q * 3, none⟩ = some (.int .i64 (m1 : Nat)) ∧ x.cell? ⟨b, o + q * 3 + 1, none⟩ = some (.int .i64 jv) ∧ x.cell? ⟨b, o + q * 3 + 2, none⟩ = some (.int .u64 (um : Nat)) ∧ x.cell? ⟨gb, m, none⟩ = some (.bool false) ∧ x.cell? ⟨b2, o2 + i, none⟩ = some (.int .u64 (tt : Nat)) ∧ x.cell? ⟨b1, o1 + m, none⟩ = some (.int .u64 (um : Nat))))
              have HM1 := Lib.hid (And.intro hm1' hum)
              obtain ⟨lq', hlq'⟩ : ∃ lq', lq = lq' + 1 := ⟨lq - 1, by omega⟩
              have HLQ := Lib.hid hlq'
              have q16 : IntKind.i64.wrap ((lq : Int) - 1) = (lq' : Int) := by rw [hlq']; simp [IntKind.wrap_i64]; omega
              have q17 : IntKind.i64.wrap ((q : Int) + 1) = ((q + 1 : Nat) : Int) := by simp [IntKind.wrap_i64]; omega
              have d3 : decide (q < ln) = true := by simp [hq']
              have hqi : (q : Int) < (ln : Int) := by omega
              have dm0 : decide ((m : Int) < 0) = false := by simp
              have dm1 : decide (k ≤ m) = false := by simp; omega
              have dm1' : decide ((k : Int) ≤ (m : Int)) = false := by simp; omega
              have du : decide (tt < um) = false := by simp; omega
              have hmk' : (m : Int) < (k : Int) := by omega
              clear hm1' hum hjv hlq' hcb ct cu1 cu2 e1 e2 egd hmu hut hlq hfm
              go_wp2_with fail
              obtain ⟨z0, z1, z2, z3, z4, z5⟩ : (∀ g : GW wr, g.x.cell? ⟨b, o + q * 3, none⟩ = some (.int .i64 (m1 : Nat))) ∧ (∀ g : GW wr, g.x.cell? ⟨b, o + q * 3 + 1, none⟩ = some (.int .i64 jv)) ∧ (∀ g : GW wr, g.x.cell? ⟨b, o + q * 3 + 2, none⟩ = some (.int .u64 (um : Nat))) ∧ (∀ g : GW wr, g.x.cell? ⟨gb, m, none⟩ = some (.bool false)) ∧ (∀ g : GW wr, g.x.cell? ⟨b2, o2 + i, none⟩ = some (.int .u64 (tt : Nat))) ∧ (∀ g : GW wr, g.x.cell? ⟨b1, o1 + m, none⟩ = some (.int .u64 (um : Nat))) :=
                ⟨fun g => (CE.out _ g.h).1, fun g => (CE.out _ g.h).2.1, fun g => (CE.out _ g.h).2.2.1, fun g => (CE.out _ g.h).2.2.2.1, fun g => (CE.out _ g.h).2.2.2.2.1, fun g => (CE.out _ g.h).2.2.2.2.2⟩
              clear e0
              refine wp_region_grown (by kernel_rfl) (by kernel_rfl) ?_
              repeat (go_big_quiet_step (fail))
              refine wpQuiet_nil ?_
              rintro _ ⟨qw, rfl⟩
              obtain ⟨w5, hw5⟩ : ∃ w5, qw.x = w5 := ⟨_, rfl⟩
              have O5 := Lib.hid (O4.out.later qw.h)
              have L5 := Lib.hid (L4.out.later qw.h)
              have G5 := Lib.hid qw.h
              rw [hw5] at O5 L5 G5 ⊢
              clear z0 z1 z2 z3 z4 z5 hw5 dm0 dm1 dm1' du
              by_cases hq0 : q = 0
              · have d4 : decide (0 < q) = false := by simp [hq0]
                have d4' : decide ((0 : Int) < (q : Int)) = false := by simp [hq0]
                clear hq0
                go_wp2_with fail
                refine wp_region_grown (by kernel_rfl) (by kernel_rfl) ?_
                repeat (go_big_quiet_step (fail))
                refine wpQuiet_nil ?_
                rintro _ ⟨qw, rfl⟩
                obtain ⟨w6, hw6⟩ : ∃ w6, qw.x = w6 := ⟨_, rfl⟩
                have O6 := Lib.hid (O5.out.later qw.h)
                have L6 := Lib.hid (L5.out.later qw.h)
                rw [hw6] at O6 L6 ⊢
                clear hw6
                have h0 := O6.out.b.cell hmk
                have h1 := O6.out.b.fz m
                have ST := Lib.hid (O6.out.set m (fun n hn => fk_step hql hme n))
                go_wp2_with fail
                go_roundw
                case rel => exact ⟨q + 1, lq', hq', rfl, rfl, by have := HLQ.out; have := HQ.out; omega, ST.out.1, L6.out.frm ST.out.2 (fun a e c => NB.out a e c)⟩
                case measure => simp only [intOf]; omega
              · have d4 : decide (0 < q) = true := by simp; omega
                have d4' : decide ((0 : Int) < (q : Int)) = true := by simp; omega
                obtain ⟨qp, hqp⟩ : ∃ qp, qp + 1 = q := ⟨q - 1, by omega⟩
                have q18 : IntKind.i64.wrap ((q : Int) - 1) = (qp : Int) := by rw [← hqp]; simp [IntKind.wrap_i64]; omega
                have hqpl : qp < (ov tt L).length := by rw [HLN.out]; omega
                have hqpi : (qp : Int) < (ln : Int) := by omega
                have hqpn : qp < ln := by omega
                obtain ⟨bb, oo, hbb, f0, f1, f2⟩ := glies_at L4.out hqpl
                injection hbb with hbb
                injection hbb with hb1 hb2
                subst hb1 hb2
                obtain ⟨mp, hmpk, hmpe, _, _⟩ := GG.out.told OO.out.m.t.ok tt hqpl
                have hlt : lt (at1 us mp) (at1 us m) := by
                  have h := ov_pw OO.out.m.t.ok tt (k := qp) (by rw [HLN.out]; omega)
                  have e1 : (ov tt L)[qp + 1]'(by rw [HLN.out]; omega) = at1 us m := by rw [← hme]; congr 1
                  rw [hmpe, e1] at h
                  exact h
                rw [hmpe] at f0 f2
                simp only [at1] at f0 f2
                unfold lt at1 at hlt
                simp only at hlt
                rw [HM1.out.2] at hlt
                obtain ⟨up, hup⟩ : ∃ u, us.getD mp 0 = u := ⟨_, rfl⟩
                rw [hup] at hlt f2
                obtain ⟨mq, hmq⟩ : ∃ x, mp + 1 = x := ⟨_, rfl⟩
                rw [hmq] at hlt f0
                rw [HM1.out.1] at hlt
                obtain ⟨y0, y1, y2, y3⟩ : (∀ g : GW w5, g.x.cell? ⟨b, o + q * 3, none⟩ = some (.int .i64 (m1 : Nat))) ∧ (∀ g : GW w5, g.x.cell? ⟨b, o + q * 3 + 2, none⟩ = some (.int .u64 (um : Nat))) ∧ (∀ g : GW w5, g.x.cell? ⟨b, o + qp * 3, none⟩ = some (.int .i64 (mq : Nat))) ∧ (∀ g : GW w5, g.x.cell? ⟨b, o + qp * 3 + 2, none⟩ = some (.int .u64 (up : Nat))) :=
                  ⟨fun g => (CE.out _ (G5.out.trans g.h)).1, fun g => (CE.out _ (G5.out.trans g.h)).2.2.1, fun g => (G5.out.trans g.h).cell f0, fun g => (G5.out.trans g.h).cell f2⟩
                clear f0 f1 f2 hup hmq hmpe hqp hq0 hqpl hmpk
                rcases hlt with hlt | ⟨heq, hlt⟩
                · have d5 : decide (um < up) = false := by simp; omega
                  have d6 : (up == um) = false := by simp; omega
                  have d6' : ((up : Int) == (um : Int)) = false := by simp; omega
                  clear hlt
                  go_wp2_with fail
                  refine wp_region_grown (by kernel_rfl) (by kernel_rfl) ?_
                  repeat (go_big_quiet_step (fail))
                  refine wpQuiet_nil ?_
                  rintro _ ⟨qw, rfl⟩
                  obtain ⟨w6, hw6⟩ : ∃ w6, qw.x = w6 := ⟨_, rfl⟩
                  have O6 := Lib.hid (O5.out.later qw.h)
                  have L6 := Lib.hid (L5.out.later qw.h)
                  rw [hw6] at O6 L6 ⊢
                  clear y0 y1 y2 y3 hw6
                  have h0 := O6.out.b.cell hmk
                  have h1 := O6.out.b.fz m
                  have ST := Lib.hid (O6.out.set m (fun n hn => fk_step hql hme n))
                  go_wp2_with fail
                  go_roundw
                  case rel => exact ⟨q + 1, lq', hq', rfl, rfl, by have := HLQ.out; have := HQ.out; omega, ST.out.1, L6.out.frm ST.out.2 (fun a e c => NB.out a e c)⟩
                  case measure => simp only [intOf]; omega
                · have d5 : decide (um < up) = false := by simp; omega
                  have d6 : (up == um) = true := by simp; omega
                  have d6' : ((up : Int) == (um : Int)) = true := by simp; omega
                  have d7 : decide (m1 ≤ mq) = false := by simp; omega
                  have d7' : decide ((m1 : Int) ≤ (mq : Int)) = false := by simp; omega
                  clear hlt heq
                  go_wp2_with fail
                  refine wp_region_grown (by kernel_rfl) (by kernel_rfl) ?_
                  repeat (go_big_quiet_step (fail))
                  refine wpQuiet_nil ?_
                  rintro _ ⟨qw, rfl⟩
                  obtain ⟨w6, hw6⟩ : ∃ w6, qw.x = w6 := ⟨_, rfl⟩
                  have O6 := Lib.hid (O5.out.later qw.h)
                  have L6 := Lib.hid (L5.out.later qw.h)
                  rw [hw6] at O6 L6 ⊢
                  clear y0 y1 y2 y3 hw6
                  have h0 := O6.out.b.cell hmk
                  have h1 := O6.out.b.fz m
                  have ST := Lib.hid (O6.out.set m (fun n hn => fk_step hql hme n))
                  go_wp2_with fail
                  go_roundw
                  case rel => exact ⟨q + 1, lq', hq', rfl, rfl, by have := HLQ.out; have := HQ.out; omega, ST.out.1, L6.out.frm ST.out.2 (fun a e c => NB.out a e c)⟩
                  case measure => simp only [intOf]; omega
            · have d3 : decide (q < ln) = false := by simp [hq']
              have hqi : ¬ (q : Int) < (ln : Int) := by omega
              obtain rfl : q = ln := by omega
              have hlf : lq = (lf tt L).length := by have := LL.out; omega
              have HLF := Lib.hid hlf
              have G4 : Hid (GI us (fk us f (ov tt L) q) (lf tt L)) := (by have := GG.out.lf tt; rwa [HLN.out] at this : GI us (fk us f (ov tt L) q) (lf tt L))
              clear hlf hlq
              go_wp2_with fail
              go_loopw [15] (fun u15 wz => ∃ n : Nat, n ≤ k ∧ u15 = .int .i64 n ∧ Grw wr wz) (fun u15 _ => k - (intOf u15).toNat)
              case atStart => exact ⟨0, Nat.zero_le _, rfl, Grw.rfl' _⟩
              case round => as_aux_lemma =>
                obtain ⟨n, hn, rfl, hgz⟩ := hrel
                have HG := Lib.hid hgz
                have OZ := Lib.hid (O4.out.later hgz)
                clear hgz
                by_cases hnk : n < k
                · have d4 : decide (n < k) = true := by simp [hnk]
                  have hni : (n : Int) < (k : Int) := by omega
                  have hnu : n < us.length := by rw [HN.out]; exact hnk
                  obtain ⟨b1, o1, rfl, cu1⟩ := lies_map (f := fun x : Nat => Value.int .u64 (x : Nat)) (show Lies w ao1 (us.map _) from L1.out) hnu
                  have egd : us.getD n 0 = us[n] := by simp [List.getD, hnu]
                  rw [← egd] at cu1
                  obtain ⟨un, hun⟩ : ∃ u, us.getD n 0 = u := ⟨_, rfl⟩
                  rw [hun] at cu1
                  obtain ⟨n1, hn1⟩ : ∃ n1, n + 1 = n1 := ⟨_, rfl⟩
                  have q15 : IntKind.i64.wrap ((n : Int) + 1) = (n1 : Int) := by rw [← hn1]; simp [IntKind.wrap_i64]; omega
                  have HN1 := Lib.hid hn1
                  have hn1k : n1 ≤ k := by omega
                  have hfo := G4.out.found OZ.out.m.t.ok hnu
                  rw [hn1] at hfo
                  have LK := Lib.hid (look_is OZ.out.m.t (n1 : Int) (by unfold Wi; omega))
                  rw [hfo] at LK
                  obtain ⟨x, hx⟩ : ∃ x, (byN (lf tt L) (n1 : Int)).getD g0 = x := ⟨_, rfl⟩
                  rw [hx] at LK
                  obtain ⟨xn, xj, xu⟩ := x
                  unfold gv at LK
                  simp only at LK
                  have hmem := G4.out.mem n hnu
                  obtain ⟨fb, hfb⟩ : ∃ b, fk us f (ov tt L) q n = b := ⟨_, rfl⟩
                  rw [hfb] at LK hmem
                  clear hfo hx egd hn1
                  cases fb with
                  | true =>
                    simp only [Bool.not_true] at LK
                    clear hmem hun hnu
                    go_wp2_with fail
                    with_reducible refine LK.out.mono ?_
                    rintro _ w7 ⟨rfl, g7⟩
                    have G7 := Lib.hid (g7.alloc (.cells #[.int .i64 xn, .int .i64 xj, .int .u64 (xu : Nat)] 39))
                    obtain ⟨w8, hw8⟩ : ∃ w8, w7.alloc (.cells #[.int .i64 xn, .int .i64 xj, .int .u64 (xu : Nat)] 39) = w8 := ⟨_, rfl⟩
                    rw [hw8] at G7
                    have O8 := Lib.hid (OZ.out.later G7.out)
                    clear g7
                    go_wp2_with fail
                    have z0 := gw_cell (O8.out.b.cell hnk)
                    rw [hfb] at z0
                    have z1 := gw_cell (O8.out.m.g.cell cu1)
                    have z2 := gw_cell (CT.out _ O8.out.m.g)
                    clear hw8
                    refine wp_region_grown (by kernel_rfl) (by kernel_rfl) ?_
                    repeat (go_big_quiet_step (fail))
                    refine wpQuiet_nil ?_
                    rintro _ ⟨qw, rfl⟩
                    have GZ := Lib.hid (HG.out.trans (G7.out.trans qw.h))
                    clear z0 z1 z2
                    go_wp2_with fail
                    go_roundw
                    case rel => exact ⟨n1, hn1k, rfl, GZ.out⟩
                    case measure => have := HN1.out; simp only [intOf]; omega
                  | false =>
                    simp only [Bool.not_false] at LK
                    have hlt : tt < un := by have := (mem_lf.1 (hmem.2 rfl)).2; rw [← hun]; exact this
                    have d5 : decide (un ≤ tt) = false := by simp; omega
                    have d5' : decide ((un : Int) ≤ (tt : Int)) = false := by simp; omega
                    clear hmem hun hnu hlt
                    go_wp2_with fail
                    with_reducible refine LK.out.mono ?_
                    rintro _ w7 ⟨rfl, g7⟩
                    have G7 := Lib.hid (g7.alloc (.cells #[.int .i64 xn, .int .i64 xj, .int .u64 (xu : Nat)] 39))
                    obtain ⟨w8, hw8⟩ : ∃ w8, w7.alloc (.cells #[.int .i64 xn, .int .i64 xj, .int .u64 (xu : Nat)] 39) = w8 := ⟨_, rfl⟩
                    rw [hw8] at G7
                    have O8 := Lib.hid (OZ.out.later G7.out)
                    clear g7
                    go_wp2_with fail
                    have z0 := gw_cell (O8.out.b.cell hnk)
                    rw [hfb] at z0
                    have z1 := gw_cell (O8.out.m.g.cell cu1)
                    have z2 := gw_cell (CT.out _ O8.out.m.g)
                    clear hw8
                    refine wp_region_grown (by kernel_rfl) (by kernel_rfl) ?_
                    repeat (go_big_quiet_step (fail))
                    refine wpQuiet_nil ?_
                    rintro _ ⟨qw, rfl⟩
                    have GZ := Lib.hid (HG.out.trans (G7.out.trans qw.h))
                    clear z0 z1 z2
                    go_wp2_with fail
                    go_roundw
                    case rel => exact ⟨n1, hn1k, rfl, GZ.out⟩
                    case measure => have := HN1.out; simp only [intOf]; omega
                · have d4 : decide (n < k) = false := by simp [hnk]
                  have hni : ¬ (n : Int) < (k : Int) := by omega
                  have LE := Lib.hid (len_is OZ.out.m.t)
                  have LI := Lib.hid (list_is OZ.out.m.t)
                  rw [← HLF.out] at LE
                  have HLF2 := Lib.hid HLF.out
                  go_wp2_with fail
                  with_reducible refine LE.out.mono ?_
                  rintro _ _ ⟨rfl, rfl⟩
                  go_wp2_with fail
                  with_reducible refine LI.out.mono ?_
                  rintro _ w10 ⟨v, rfl, ⟨ao9, cap9, rfl, _, _⟩, g10⟩
                  have O10 := Lib.hid (OZ.out.later g10)
                  clear g10
                  rw [← HLF.out]
                  have q16 : IntKind.i64.wrap ((i : Int) + 1) = ((i + 1 : Nat) : Int) := by simp [IntKind.wrap_i64]; omega
                  have hiT : i + 1 ≤ T := hi'
                  go_wp2_with fail
                  go_roundw
                  case rel => exact ⟨i + 1, lq, _, _, hiT, rfl, rfl, HLF2.out, O10.out, G4.out⟩
                  case measure => simp only [intOf]; omega
        · have d2 : decide (i < T) = false := by simp [hi']
          have hii : ¬ (i : Int) < (T : Int) := by omega
          go_wp2_with fail
          with_reducible refine (WK.out _).mono ?_
          rintro _ w3 ⟨rfl, g⟩
          have G := Lib.hid (OO.out.m.g.trans g)
          clear g
          go_wp2_with fail
          go_ret
          exact ⟨rfl, G.out⟩
end Go.Proofs.Ytoejmopppkjaoaa
