/- The law JobsOften, walked. -/
import Derived.Test.YtlopijcpnfkcgaaKd
import Derived.Test.YtlopijcpnfkcgaaOe
namespace Go.Proofs.Ytlopijcpnfkcgaa
open Go.RowKit
set_option linter.unusedSimpArgs false

set_option maxHeartbeats 16000000 in
set_option maxRecDepth 100000 in
theorem often_walk (t0 : Nat) (ao : Option Addr) (cap : Nat) (l : List Ac) (w : World) (h0 : t0 < 256) (hl : ALies w ao l) (hw : ∀ x ∈ l, LE.Wi x.i ∧ x.t < 18446744073709551616) :
    Calls Try.prog 3 #[.int .u8 (t0 : Nat), .slice ao l.length cap] w fun e w' => e = .returned (.bool true) ∧ Grw w w' := by
  obtain ⟨n, hn⟩ : ∃ n : Nat, t0 % 10 = n := ⟨_, rfl⟩
  obtain ⟨nn, hN⟩ : ∃ a : Nat, l.length = a := ⟨_, rfl⟩
  obtain ⟨n1, hn1⟩ : ∃ n1 : Nat, n + 1 = n1 := ⟨_, rfl⟩
  have q1 : IntKind.i64.wrap (t0 : Int) = t0 := by simp [IntKind.wrap_i64]; omega
  have q2 : (t0 : Int) % 10 = (n : Int) := by omega
  have q3 : IntKind.i64.wrap ((n : Int) + 1) = (n1 : Int) := by rw [← hn1]; simp [IntKind.wrap_i64]; omega
  rw [hN]
  have LI := Lib.hid hl
  have HN := Lib.hid hN
  have HW := Lib.hid hw
  have RN := Lib.hid (show n ≤ 9 ∧ n + 1 = n1 from ⟨by omega, hn1⟩)
  have hmk := mk25
  clear h0 hl hw hn hN hn1
  go_enter Try.func3, Try.ntmps3
  go_wp2_with fail
  refine (s_new 3 8 n w w (Grw.rfl' w) (by decide) (by decide) (by decide) (by decide) (by omega) (by have := RN.out; omega)).mono ?_
  rintro _ w1 ⟨B, rfl, b1, _⟩
  have ga := (Grw.rfl' w1).alloc (.map #[] 0)
  have gb := ga.alloc (.map #[] 0)
  have S1 := Lib.hid (b1.later gb)
  have X1 : Hid (OX w ((w1.alloc (.map #[] 0)).alloc (.map #[] 0)) B w1.heap.size (w1.heap.size + 1) (.slice none 0 0) 0 (fun _ => 0) (fun _ => 0)) :=
    (⟨(MP.new w1).frm (((Grw.rfl' _).alloc _).frm (fun _ => False)) (fun e => e), by have := MP.new (w1.alloc (.map #[] 0)); rw [size_new] at this; exact this, by omega, fun e => Nat.lt_irrefl _ (b1.lt _ e), fun e => by have := b1.lt _ e; omega, Below.size b1.g, by have := Below.size b1.g; omega⟩ : OX w ((w1.alloc (.map #[] 0)).alloc (.map #[] 0)) B w1.heap.size (w1.heap.size + 1) (.slice none 0 0) 0 (fun _ => 0) (fun _ => 0))
  clear b1 ga gb
  go_wp2_with fail
  obtain ⟨ub, hub⟩ : ∃ ub, w1.heap.size = ub := ⟨_, rfl⟩
  rw [hub] at X1 ⊢
  obtain ⟨hb, hhb⟩ : ∃ hb, ub + 1 = hb := ⟨_, rfl⟩
  rw [hhb] at X1 ⊢
  clear hmk hub
  go_loopw [7, 10] (fun s7 s10 wr => ∃ (i next k last N : Nat) (count : Int) (v : Value) (L : List QQ.Wt) (G : List LE.Gr) (J : List Jb) (U H : Int → Int), s7 = .int .i64 next ∧ s10 = .int .i64 i ∧ i ≤ 80 ∧ BS w wr B 3 8 n count v last k L G J ∧ OX w wr B ub hb v N U H ∧ OI next G J U H ∧ k ≤ 3 * i ∧ N ≤ 3 * i ∧ next ≤ i) (fun _ s10 _ => 80 - (intOf s10).toNat)
  case atStart => exact ⟨0, 0, 0, 0, 0, 0, _, [], [], [], _, _, rfl, rfl, by omega, S1.out, X1.out, ⟨(fun _ h => by cases h), (fun _ h => by cases h), fun _ _ => rfl, fun _ => rfl⟩, by omega, by omega, by omega⟩
  case round =>
    clear S1 X1 hhb
    obtain ⟨i, next, k, last, N, count, v, L, G, J, U, H, rfl, rfl, hi, hs, hx, ho, hk, hNk, hnx⟩ := hrel
    have S := Lib.hid hs
    have X := Lib.hid hx
    have O := Lib.hid ho
    have KK := Lib.hid (And.intro hk (And.intro hNk hnx))
    clear hs hx ho hk hNk hnx
    by_cases hin : i < nn
    case neg =>
      have d1 : decide (i < nn) = false := by simp; omega
      have d1i : decide ((i : Int) < (nn : Int)) = false := by simp; omega
      go_wp2_with fail
      refine (wakes_any _).mono ?_
      rintro _ w9 ⟨rfl, g9⟩
      have G9 := Lib.hid (S.out.g.trans g9)
      clear g9
      go_wp2_with fail
      go_ret
      exact ⟨rfl, G9.out⟩
    case pos =>
    have d1 : decide (i < nn) = true := by simp [hin]
    by_cases hi8 : i < 80
    case neg =>
      have d2 : decide (i < 80) = false := by simp; omega
      have d2i : decide ((i : Int) < 80) = false := by simp; omega
      go_wp2_with fail
      refine (wakes_any _).mono ?_
      rintro _ w9 ⟨rfl, g9⟩
      have G9 := Lib.hid (S.out.g.trans g9)
      clear g9
      go_wp2_with fail
      go_ret
      exact ⟨rfl, G9.out⟩
    case pos =>
    have d2 : decide ((i : Int) < 80) = true := by simp; omega
    have d1i : decide ((i : Int) < (nn : Int)) = true := by simp; omega
    have hil : i < l.length := by rw [HN.out]; exact hin
    obtain ⟨bb, off, rfl, hbb, c0, c1, c2, c3⟩ := ALies.at LI.out hil
    have WX := Lib.hid (HW.out l[i] (List.getElem_mem hil))
    obtain ⟨⟨xd, xi, xc, xt⟩, hact⟩ : ∃ z, l[i] = z := ⟨_, rfl⟩
    rw [hact] at c0 c1 c2 c3 WX
    simp only at c0 c1 c2 c3 WX
    replace c0 := S.out.g.cell c0
    replace c1 := S.out.g.cell c1
    replace c2 := S.out.g.cell c2
    replace c3 := S.out.g.cell c3
    have d3 : (i : Int) < (nn : Int) := by omega
    have q4 : IntKind.i64.wrap ((i : Int) + 1) = ((i + 1 : Nat) : Int) := by simp [IntKind.wrap_i64]; omega
    obtain ⟨M, hM⟩ : ∃ M, next + 1 = M := ⟨_, rfl⟩
    have q5 : IntKind.i64.wrap ((next : Int) + 1) = (M : Int) := by have := KK.out; rw [← hM]; simp [IntKind.wrap_i64]; omega
    obtain ⟨j, hj⟩ : ∃ j, xi % (M : Int) = j := ⟨_, rfl⟩
    have hj0 : 0 ≤ j := by rw [← hj]; exact Int.emod_nonneg _ (by omega)
    have hjM : j < M := by rw [← hj]; exact Int.emod_lt_of_pos _ (by omega)
    have MJ := Lib.hid (fun w => mod_any xi M w (by omega) (by have := KK.out; omega))
    rw [hj] at MJ
    have WJ : Hid (LE.Wi j ∧ 0 ≤ j ∧ j < next + 1) := (⟨by have := KK.out; unfold LE.Wi; omega, hj0, by omega⟩ : LE.Wi j ∧ 0 ≤ j ∧ j < next + 1)
    obtain ⟨r, hr⟩ : ∃ r, xd % 8 = r := ⟨_, rfl⟩
    have hr0 : 0 ≤ r := by rw [← hr]; exact Int.emod_nonneg _ (by omega)
    have hr8 : r < 8 := by rw [← hr]; exact Int.emod_lt_of_pos _ (by omega)
    have MD : Hid (∀ w, Calls Try.prog 8 #[.int .i64 xd, .int .i64 8] w fun e w' => e = .returned (.int .i64 r) ∧ w = w') := (fun w => by have := mod_any xd 8 w (by omega) (by omega); rw [show ((8 : Nat) : Int) = 8 from rfl, hr] at this; exact this : ∀ w, Calls Try.prog 8 #[.int .i64 xd, .int .i64 8] w fun e w' => e = .returned (.int .i64 r) ∧ w = w')
    obtain ⟨cc, hcc⟩ : ∃ cc, xc % 8 = cc := ⟨_, rfl⟩
    have hcc0 : 0 ≤ cc ∧ cc < 8 := by rw [← hcc]; exact ⟨Int.emod_nonneg _ (by omega), Int.emod_lt_of_pos _ (by omega)⟩
    have MC : Hid (∀ w, Calls Try.prog 8 #[.int .i64 xc, .int .i64 8] w fun e w' => e = .returned (.int .i64 cc) ∧ w = w') := (fun w => by have := mod_any xc 8 w (by omega) (by omega); rw [show ((8 : Nat) : Int) = 8 from rfl, hcc] at this; exact this : ∀ w, Calls Try.prog 8 #[.int .i64 xc, .int .i64 8] w fun e w' => e = .returned (.int .i64 cc) ∧ w = w')
    have HC := Lib.hid hcc0
    have HM := Lib.hid hM
    have HI := Lib.hid hi8
    obtain ⟨num, hnum⟩ : ∃ num, H j = num := ⟨_, rfl⟩
    have NU := Lib.hid hnum
    clear hact hil hbb hj hj0 hjM hr hcc hcc0 hM hin hi8
    obtain ⟨w2, hw2⟩ : ∃ w2, wr.alloc (.cells #[.int .i64 xd, .int .i64 xi, .int .i64 xc, .int .u64 (xt : Nat)] 28) = w2 := ⟨_, rfl⟩
    have g2 : Grw wr w2 := by rw [← hw2]; exact (Grw.rfl' wr).alloc _
    have S2 := Lib.hid (S.out.later g2)
    have X2 := Lib.hid (X.out.later g2)
    have x0 : w2.cell? ⟨wr.heap.size, 0, none⟩ = some (.int .i64 xd) := by rw [← hw2]; simp [go_sem]
    have x1 : w2.cell? ⟨wr.heap.size, 1, none⟩ = some (.int .i64 xi) := by rw [← hw2]; simp [go_sem]
    have x2 : w2.cell? ⟨wr.heap.size, 2, none⟩ = some (.int .i64 xc) := by rw [← hw2]; simp [go_sem]
    have x3 : w2.cell? ⟨wr.heap.size, 3, none⟩ = some (.int .u64 (xt : Nat)) := by rw [← hw2]; simp [go_sem]
    have lk := X2.out.h.get WJ.out.1 hnum
    clear g2 hnum
    go_wp2_with fail
    refine (MJ.out _).mono ?_
    rintro _ _ ⟨rfl, rfl⟩
    clear hw2 c0 c1 c2 c3
    go_wp2_with fail
    refine (MD.out _).mono ?_
    rintro _ _ ⟨rfl, rfl⟩
    clear lk
    clear X S
    rcases (by omega : r = 0 ∨ r = 1 ∨ r = 2 ∨ r = 3 ∨ r = 4 ∨ r = 5 ∨ r = 6 ∨ r = 7) with rfl | rfl | rfl | rfl | rfl | rfl | rfl | rfl
    · as_aux_lemma =>
      go_wp2_with fail
      refine (MC.out _).mono ?_
      rintro _ _ ⟨rfl, rfl⟩
      by_cases hl : J.length < 8
      · have AD := Lib.hid (s_add S2.out (i := (next : Nat)) (cl := cc) (by have := KK.out; unfold LE.Wi; omega) HC.out.1 HC.out.2 (fnd_no (fun x hx => by have := O.out.idr x hx; omega)) (by omega) (by have := KK.out; omega))
        clear hl
        go_wp2_with fail
        refine AD.out.mono ?_
        rintro _ w3 ⟨rfl, v3, b3, s3⟩
        have S3 := Lib.hid b3
        have X3 := Lib.hid (X2.out.step s3)
        have O3 := Lib.hid (O.out.add cc)
        rw [HM.out] at O3
        clear b3 s3 x0 x1 x2 x3
        go_wp2_with fail
        go_roundw
        case rel => exact ⟨i + 1, M, k + 1, last, N, _, _, _, _, _, _, _, by first | rfl | go_num, by first | rfl | go_num, by have := HI.out; omega, S3.out, X3.out, O3.out, by have := KK.out; omega, by have := KK.out; omega, by have := KK.out; have := HM.out; omega⟩
        case measure => have hii := HI.out; simp [intOf]; omega
      · have AD := Lib.hid (s_full S2.out (i := (next : Nat)) (cl := cc) (by have := KK.out; unfold LE.Wi; omega) HC.out.1 HC.out.2 (fnd_no (fun x hx => by have := O.out.idr x hx; omega)) (by omega))
        clear hl
        go_wp2_with fail
        refine AD.out.mono ?_
        rintro _ w3 ⟨rfl, g3⟩
        have S3 := Lib.hid (S2.out.later g3)
        have X3 := Lib.hid (X2.out.later g3)
        clear g3 x0 x1 x2 x3
        go_wp2_with fail
        go_roundw
        case rel => exact ⟨i + 1, next, k, last, N, _, _, _, _, _, _, _, by first | rfl | go_num, by first | rfl | go_num, by have := HI.out; omega, S3.out, X3.out, O.out, by have := KK.out; omega, by have := KK.out; omega, by have := KK.out; have := HM.out; omega⟩
        case measure => have hii := HI.out; simp [intOf]; omega
    · as_aux_lemma =>
      go_wp2_with fail
      refine (MC.out _).mono ?_
      rintro _ _ ⟨rfl, rfl⟩
      by_cases hl : J.length < 8
      · have AD := Lib.hid (s_add S2.out (i := (next : Nat)) (cl := cc) (by have := KK.out; unfold LE.Wi; omega) HC.out.1 HC.out.2 (fnd_no (fun x hx => by have := O.out.idr x hx; omega)) (by omega) (by have := KK.out; omega))
        clear hl
        go_wp2_with fail
        refine AD.out.mono ?_
        rintro _ w3 ⟨rfl, v3, b3, s3⟩
        have S3 := Lib.hid b3
        have X3 := Lib.hid (X2.out.step s3)
        have O3 := Lib.hid (O.out.add cc)
        rw [HM.out] at O3
        clear b3 s3 x0 x1 x2 x3
        go_wp2_with fail
        go_roundw
        case rel => exact ⟨i + 1, M, k + 1, last, N, _, _, _, _, _, _, _, by first | rfl | go_num, by first | rfl | go_num, by have := HI.out; omega, S3.out, X3.out, O3.out, by have := KK.out; omega, by have := KK.out; omega, by have := KK.out; have := HM.out; omega⟩
        case measure => have hii := HI.out; simp [intOf]; omega
      · have AD := Lib.hid (s_full S2.out (i := (next : Nat)) (cl := cc) (by have := KK.out; unfold LE.Wi; omega) HC.out.1 HC.out.2 (fnd_no (fun x hx => by have := O.out.idr x hx; omega)) (by omega))
        clear hl
        go_wp2_with fail
        refine AD.out.mono ?_
        rintro _ w3 ⟨rfl, g3⟩
        have S3 := Lib.hid (S2.out.later g3)
        have X3 := Lib.hid (X2.out.later g3)
        clear g3 x0 x1 x2 x3
        go_wp2_with fail
        go_roundw
        case rel => exact ⟨i + 1, next, k, last, N, _, _, _, _, _, _, _, by first | rfl | go_num, by first | rfl | go_num, by have := HI.out; omega, S3.out, X3.out, O.out, by have := KK.out; omega, by have := KK.out; omega, by have := KK.out; have := HM.out; omega⟩
        case measure => have hii := HI.out; simp [intOf]; omega
    · as_aux_lemma =>
      by_cases hl : L.length = 0
      · obtain rfl := List.eq_nil_of_length_eq_zero hl
        clear hl
        have FN := Lib.hid (s_none S2.out xt)
        go_wp2_with fail
        refine FN.out.mono ?_
        rintro _ w3 ⟨rfl, g3⟩
        have g4 := g3.alloc (.cells #[.int .i64 0, .int .i64 0, .int .i64 0, .int .i64 0, .int .i64 0, .int .u64 0] 33)
        have S3 := Lib.hid (S2.out.later g4)
        have X3 := Lib.hid (X2.out.later g4)
        clear g3 g4 x0 x1 x2 x3
        simp only [lv]
        go_wp2_with fail
        go_roundw
        case rel => exact ⟨i + 1, next, k, last, N, _, _, _, _, _, _, _, by first | rfl | go_num, by first | rfl | go_num, by have := HI.out; omega, S3.out, X3.out, O.out, by have := KK.out; omega, by have := KK.out; omega, by have := KK.out; have := HM.out; omega⟩
        case measure => have hii := HI.out; simp [intOf]; omega
      · obtain ⟨jj, _, hjj⟩ := QQ.frs_spec (3 : Int) (show 0 < L.length by omega)
        clear hl
        obtain ⟨y, hy, hys, hyn, hy0, C⟩ := s_fetch S2.out hjj (t := xt) WX.out.2 (by have := KK.out; omega)
        obtain ⟨hyJ, hyi⟩ := fnd_some hy
        have hid := O.out.idr y hyJ
        have hyu := O.out.us y hyJ
        have hbj : LE.byJ G y.id = none := LE.byJ_no (S2.out.bi.not_l hyJ (by omega))
        have hh : H y.id = 0 := by rw [O.out.hs, hol_none hbj]
        have o3 := O.out.fetch hyJ hbj (last + 1 : Nat) xt y.cl 2
        have WY := Lib.hid (S2.out.wi hyJ)
        obtain ⟨yi, yc, ys, yu⟩ := y
        simp only at hys hyn hy0 hid hyu hh o3 C WY
        subst hys
        obtain ⟨u1, hu1⟩ : ∃ u1, yu + 1 = u1 := ⟨_, rfl⟩
        obtain ⟨mi, hmi⟩ : ∃ mi : Int, ((last + 1 : Nat) : Int) = mi := ⟨_, rfl⟩
        rw [hu1, hmi] at C o3
        have CF := Lib.hid C
        have O3 := Lib.hid o3
        have q6 : IntKind.i64.wrap (yu + 1) = u1 := by rw [← hu1]; have := RN.out; simp [IntKind.wrap_i64]; omega
        have WU : Hid (LE.Wi u1 ∧ LE.Wi mi) := (⟨by have := RN.out; unfold LE.Wi; omega, by have := KK.out; have := S2.out.ll; unfold LE.Wi; omega⟩ : LE.Wi u1 ∧ LE.Wi mi)
        have e1 : decide (yi < 0) = false := by simp; omega
        have e2 : decide ((next : Int) ≤ yi) = false := by simp; omega
        have e3 : (u1 != u1) = false := by simp
        have e4 : decide ((n1 : Int) < u1) = false := by have := RN.out; simp; omega
        have e5 : decide (mi < 1) = false := by simp; omega
        have HU := Lib.hid (And.intro hyu hh)
        clear C o3 hy hyJ hyi hjj hid hyu hh hbj hu1 hmi hyn hy0
        go_wp2_with fail
        refine CF.out.mono ?_
        rintro _ w3 ⟨rfl, v3, b3, s3⟩
        have ga := (Grw.rfl' w3).alloc (.cells #[.int .i64 mi, .int .i64 yi, .int .i64 0, .int .i64 0, .int .i64 u1, .int .u64 (xt : Nat)] 33)
        have x3' := X2.out.step s3
        have X4 := Lib.hid (x3'.later ga)
        have S4 := Lib.hid (b3.later ga)
        have lu := X4.out.u.get WY.out HU.out.1
        obtain ⟨w5, hrun, m5, f5⟩ := X4.out.u.set WY.out WU.out.1 (by have := KK.out; omega)
        have NX : Hid (¬ w3.heap.size = ub ∧ ¬ w3.heap.size = hb) := (⟨fun e => by have := x3'.u.lt; omega, fun e => by have := x3'.h.lt; omega⟩ : ¬ w3.heap.size = ub ∧ ¬ w3.heap.size = hb)
        have y0 := f5.cell (a := ⟨w3.heap.size, 0, none⟩) (v := .int .i64 mi) (by simp [go_sem]) NX.out.1
        have y1 := f5.cell (a := ⟨w3.heap.size, 1, none⟩) (v := .int .i64 yi) (by simp [go_sem]) NX.out.1
        have y4 := f5.cell (a := ⟨w3.heap.size, 4, none⟩) (v := .int .i64 u1) (by simp [go_sem]) NX.out.1
        have X5 := Lib.hid (X4.out.setU m5 f5)
        have S5 := Lib.hid (S4.out.apart f5 X4.out.nu X4.out.lu)
        have lu5 := X5.out.u.get WY.out (c := u1) (by simp)
        have lh5 := X5.out.h.get WY.out HU.out.2
        obtain ⟨w6, hrun6, m6, f6⟩ := X5.out.h.set WY.out WU.out.2 (by have := KK.out; omega)
        have X6 := Lib.hid (X5.out.setH m6 f6)
        have S6 := Lib.hid (S5.out.apart f6 X5.out.nh X5.out.lh)
        clear b3 s3 ga x3' m5 f5 m6 f6 x0 x1 x2 x3
        simp only [lv]
        go_wp2_with fail
        go_roundw
        case rel => exact ⟨i + 1, next, k + 1, last + 1, N + 1 + 1, _, _, _, _, _, _, _, by first | rfl | go_num, by first | rfl | go_num, by have := HI.out; omega, S6.out, X6.out, O3.out, by have := KK.out; omega, by have := KK.out; omega, by have := KK.out; have := HM.out; omega⟩
        case measure => have hii := HI.out; simp [intOf]; omega
    · as_aux_lemma =>
      by_cases hl : L.length = 0
      · obtain rfl := List.eq_nil_of_length_eq_zero hl
        clear hl
        have FN := Lib.hid (s_none S2.out xt)
        go_wp2_with fail
        refine FN.out.mono ?_
        rintro _ w3 ⟨rfl, g3⟩
        have g4 := g3.alloc (.cells #[.int .i64 0, .int .i64 0, .int .i64 0, .int .i64 0, .int .i64 0, .int .u64 0] 33)
        have S3 := Lib.hid (S2.out.later g4)
        have X3 := Lib.hid (X2.out.later g4)
        clear g3 g4 x0 x1 x2 x3
        simp only [lv]
        go_wp2_with fail
        go_roundw
        case rel => exact ⟨i + 1, next, k, last, N, _, _, _, _, _, _, _, by first | rfl | go_num, by first | rfl | go_num, by have := HI.out; omega, S3.out, X3.out, O.out, by have := KK.out; omega, by have := KK.out; omega, by have := KK.out; have := HM.out; omega⟩
        case measure => have hii := HI.out; simp [intOf]; omega
      · obtain ⟨jj, _, hjj⟩ := QQ.frs_spec (3 : Int) (show 0 < L.length by omega)
        clear hl
        obtain ⟨y, hy, hys, hyn, hy0, C⟩ := s_fetch S2.out hjj (t := xt) WX.out.2 (by have := KK.out; omega)
        obtain ⟨hyJ, hyi⟩ := fnd_some hy
        have hid := O.out.idr y hyJ
        have hyu := O.out.us y hyJ
        have hbj : LE.byJ G y.id = none := LE.byJ_no (S2.out.bi.not_l hyJ (by omega))
        have hh : H y.id = 0 := by rw [O.out.hs, hol_none hbj]
        have o3 := O.out.fetch hyJ hbj (last + 1 : Nat) xt y.cl 2
        have WY := Lib.hid (S2.out.wi hyJ)
        obtain ⟨yi, yc, ys, yu⟩ := y
        simp only at hys hyn hy0 hid hyu hh o3 C WY
        subst hys
        obtain ⟨u1, hu1⟩ : ∃ u1, yu + 1 = u1 := ⟨_, rfl⟩
        obtain ⟨mi, hmi⟩ : ∃ mi : Int, ((last + 1 : Nat) : Int) = mi := ⟨_, rfl⟩
        rw [hu1, hmi] at C o3
        have CF := Lib.hid C
        have O3 := Lib.hid o3
        have q6 : IntKind.i64.wrap (yu + 1) = u1 := by rw [← hu1]; have := RN.out; simp [IntKind.wrap_i64]; omega
        have WU : Hid (LE.Wi u1 ∧ LE.Wi mi) := (⟨by have := RN.out; unfold LE.Wi; omega, by have := KK.out; have := S2.out.ll; unfold LE.Wi; omega⟩ : LE.Wi u1 ∧ LE.Wi mi)
        have e1 : decide (yi < 0) = false := by simp; omega
        have e2 : decide ((next : Int) ≤ yi) = false := by simp; omega
        have e3 : (u1 != u1) = false := by simp
        have e4 : decide ((n1 : Int) < u1) = false := by have := RN.out; simp; omega
        have e5 : decide (mi < 1) = false := by simp; omega
        have HU := Lib.hid (And.intro hyu hh)
        clear C o3 hy hyJ hyi hjj hid hyu hh hbj hu1 hmi hyn hy0
        go_wp2_with fail
        refine CF.out.mono ?_
        rintro _ w3 ⟨rfl, v3, b3, s3⟩
        have ga := (Grw.rfl' w3).alloc (.cells #[.int .i64 mi, .int .i64 yi, .int .i64 0, .int .i64 0, .int .i64 u1, .int .u64 (xt : Nat)] 33)
        have x3' := X2.out.step s3
        have X4 := Lib.hid (x3'.later ga)
        have S4 := Lib.hid (b3.later ga)
        have lu := X4.out.u.get WY.out HU.out.1
        obtain ⟨w5, hrun, m5, f5⟩ := X4.out.u.set WY.out WU.out.1 (by have := KK.out; omega)
        have NX : Hid (¬ w3.heap.size = ub ∧ ¬ w3.heap.size = hb) := (⟨fun e => by have := x3'.u.lt; omega, fun e => by have := x3'.h.lt; omega⟩ : ¬ w3.heap.size = ub ∧ ¬ w3.heap.size = hb)
        have y0 := f5.cell (a := ⟨w3.heap.size, 0, none⟩) (v := .int .i64 mi) (by simp [go_sem]) NX.out.1
        have y1 := f5.cell (a := ⟨w3.heap.size, 1, none⟩) (v := .int .i64 yi) (by simp [go_sem]) NX.out.1
        have y4 := f5.cell (a := ⟨w3.heap.size, 4, none⟩) (v := .int .i64 u1) (by simp [go_sem]) NX.out.1
        have X5 := Lib.hid (X4.out.setU m5 f5)
        have S5 := Lib.hid (S4.out.apart f5 X4.out.nu X4.out.lu)
        have lu5 := X5.out.u.get WY.out (c := u1) (by simp)
        have lh5 := X5.out.h.get WY.out HU.out.2
        obtain ⟨w6, hrun6, m6, f6⟩ := X5.out.h.set WY.out WU.out.2 (by have := KK.out; omega)
        have X6 := Lib.hid (X5.out.setH m6 f6)
        have S6 := Lib.hid (S5.out.apart f6 X5.out.nh X5.out.lh)
        clear b3 s3 ga x3' m5 f5 m6 f6 x0 x1 x2 x3
        simp only [lv]
        go_wp2_with fail
        go_roundw
        case rel => exact ⟨i + 1, next, k + 1, last + 1, N + 1 + 1, _, _, _, _, _, _, _, by first | rfl | go_num, by first | rfl | go_num, by have := HI.out; omega, S6.out, X6.out, O3.out, by have := KK.out; omega, by have := KK.out; omega, by have := KK.out; have := HM.out; omega⟩
        case measure => have hii := HI.out; simp [intOf]; omega
    · as_aux_lemma =>
      by_cases hl : L.length = 0
      · obtain rfl := List.eq_nil_of_length_eq_zero hl
        clear hl
        have FN := Lib.hid (s_none S2.out xt)
        go_wp2_with fail
        refine FN.out.mono ?_
        rintro _ w3 ⟨rfl, g3⟩
        have g4 := g3.alloc (.cells #[.int .i64 0, .int .i64 0, .int .i64 0, .int .i64 0, .int .i64 0, .int .u64 0] 33)
        have S3 := Lib.hid (S2.out.later g4)
        have X3 := Lib.hid (X2.out.later g4)
        clear g3 g4 x0 x1 x2 x3
        simp only [lv]
        go_wp2_with fail
        go_roundw
        case rel => exact ⟨i + 1, next, k, last, N, _, _, _, _, _, _, _, by first | rfl | go_num, by first | rfl | go_num, by have := HI.out; omega, S3.out, X3.out, O.out, by have := KK.out; omega, by have := KK.out; omega, by have := KK.out; have := HM.out; omega⟩
        case measure => have hii := HI.out; simp [intOf]; omega
      · obtain ⟨jj, _, hjj⟩ := QQ.frs_spec (3 : Int) (show 0 < L.length by omega)
        clear hl
        obtain ⟨y, hy, hys, hyn, hy0, C⟩ := s_fetch S2.out hjj (t := xt) WX.out.2 (by have := KK.out; omega)
        obtain ⟨hyJ, hyi⟩ := fnd_some hy
        have hid := O.out.idr y hyJ
        have hyu := O.out.us y hyJ
        have hbj : LE.byJ G y.id = none := LE.byJ_no (S2.out.bi.not_l hyJ (by omega))
        have hh : H y.id = 0 := by rw [O.out.hs, hol_none hbj]
        have o3 := O.out.fetch hyJ hbj (last + 1 : Nat) xt y.cl 2
        have WY := Lib.hid (S2.out.wi hyJ)
        obtain ⟨yi, yc, ys, yu⟩ := y
        simp only at hys hyn hy0 hid hyu hh o3 C WY
        subst hys
        obtain ⟨u1, hu1⟩ : ∃ u1, yu + 1 = u1 := ⟨_, rfl⟩
        obtain ⟨mi, hmi⟩ : ∃ mi : Int, ((last + 1 : Nat) : Int) = mi := ⟨_, rfl⟩
        rw [hu1, hmi] at C o3
        have CF := Lib.hid C
        have O3 := Lib.hid o3
        have q6 : IntKind.i64.wrap (yu + 1) = u1 := by rw [← hu1]; have := RN.out; simp [IntKind.wrap_i64]; omega
        have WU : Hid (LE.Wi u1 ∧ LE.Wi mi) := (⟨by have := RN.out; unfold LE.Wi; omega, by have := KK.out; have := S2.out.ll; unfold LE.Wi; omega⟩ : LE.Wi u1 ∧ LE.Wi mi)
        have e1 : decide (yi < 0) = false := by simp; omega
        have e2 : decide ((next : Int) ≤ yi) = false := by simp; omega
        have e3 : (u1 != u1) = false := by simp
        have e4 : decide ((n1 : Int) < u1) = false := by have := RN.out; simp; omega
        have e5 : decide (mi < 1) = false := by simp; omega
        have HU := Lib.hid (And.intro hyu hh)
        clear C o3 hy hyJ hyi hjj hid hyu hh hbj hu1 hmi hyn hy0
        go_wp2_with fail
        refine CF.out.mono ?_
        rintro _ w3 ⟨rfl, v3, b3, s3⟩
        have ga := (Grw.rfl' w3).alloc (.cells #[.int .i64 mi, .int .i64 yi, .int .i64 0, .int .i64 0, .int .i64 u1, .int .u64 (xt : Nat)] 33)
        have x3' := X2.out.step s3
        have X4 := Lib.hid (x3'.later ga)
        have S4 := Lib.hid (b3.later ga)
        have lu := X4.out.u.get WY.out HU.out.1
        obtain ⟨w5, hrun, m5, f5⟩ := X4.out.u.set WY.out WU.out.1 (by have := KK.out; omega)
        have NX : Hid (¬ w3.heap.size = ub ∧ ¬ w3.heap.size = hb) := (⟨fun e => by have := x3'.u.lt; omega, fun e => by have := x3'.h.lt; omega⟩ : ¬ w3.heap.size = ub ∧ ¬ w3.heap.size = hb)
        have y0 := f5.cell (a := ⟨w3.heap.size, 0, none⟩) (v := .int .i64 mi) (by simp [go_sem]) NX.out.1
        have y1 := f5.cell (a := ⟨w3.heap.size, 1, none⟩) (v := .int .i64 yi) (by simp [go_sem]) NX.out.1
        have y4 := f5.cell (a := ⟨w3.heap.size, 4, none⟩) (v := .int .i64 u1) (by simp [go_sem]) NX.out.1
        have X5 := Lib.hid (X4.out.setU m5 f5)
        have S5 := Lib.hid (S4.out.apart f5 X4.out.nu X4.out.lu)
        have lu5 := X5.out.u.get WY.out (c := u1) (by simp)
        have lh5 := X5.out.h.get WY.out HU.out.2
        obtain ⟨w6, hrun6, m6, f6⟩ := X5.out.h.set WY.out WU.out.2 (by have := KK.out; omega)
        have X6 := Lib.hid (X5.out.setH m6 f6)
        have S6 := Lib.hid (S5.out.apart f6 X5.out.nh X5.out.lh)
        clear b3 s3 ga x3' m5 f5 m6 f6 x0 x1 x2 x3
        simp only [lv]
        go_wp2_with fail
        go_roundw
        case rel => exact ⟨i + 1, next, k + 1, last + 1, N + 1 + 1, _, _, _, _, _, _, _, by first | rfl | go_num, by first | rfl | go_num, by have := HI.out; omega, S6.out, X6.out, O3.out, by have := KK.out; omega, by have := KK.out; omega, by have := KK.out; have := HM.out; omega⟩
        case measure => have hii := HI.out; simp [intOf]; omega
    · as_aux_lemma =>
      rcases hbj : LE.byJ G j with _ | g
      · have hn0 : num = 0 := by rw [← NU.out, O.out.hs, hol_none hbj]
        have O3 := Lib.hid (O.out.same (J' := J) hbj (fun x hx => ⟨x, hx, rfl, rfl⟩))
        have AN := Lib.hid (s_noanswer S2.out (i := 0) (wi_small 0 (by decide) (by decide)) (LE.byN_no (fun g hg => by have := S2.out.ok.rng g hg; omega)))
        subst hn0
        clear hbj x0 x1 x2 x3
        go_wp2_with fail
        refine AN.out.mono ?_
        rintro _ w3 ⟨rfl, g3⟩
        have X3 := Lib.hid (X2.out.later g3)
        have S3 := Lib.hid (S2.out.later g3)
        obtain ⟨w4, hrun, m4, f4⟩ := X3.out.h.set WJ.out.1 (wi_small 0 (by decide) (by decide)) (by have := KK.out; omega)
        have X4 := Lib.hid (X3.out.setH m4 f4)
        have S4 := Lib.hid (S3.out.apart f4 X3.out.nh X3.out.lh)
        clear g3 m4 f4
        go_wp2_with fail
        go_roundw
        case rel => exact ⟨i + 1, next, k, last, N + 1, _, _, _, _, _, _, _, by first | rfl | go_num, by first | rfl | go_num, by have := HI.out; omega, S4.out, X4.out, O3.out, by have := KK.out; omega, by have := KK.out; omega, by have := KK.out; have := HM.out; omega⟩
        case measure => have hii := HI.out; simp [intOf]; omega
      · obtain ⟨hg, hgj⟩ := LE.byJ_some hbj
        have hn0 : num = g.n := by rw [← NU.out, O.out.hs, hol_some hbj]
        have hn1 := S2.out.ok.rng g hg
        have O3 := Lib.hid (O.out.off S2.out.ok hg (J' := gon J g.j) (fun x hx => ⟨x, (mem_gon.1 hx).1, rfl, rfl⟩))
        have AN := Lib.hid (s_answer S2.out (Ids.wn S2.out.ok hg) (LE.byN_of S2.out.ok hg))
        obtain ⟨gn, gj, gu⟩ := g
        simp only at hgj hn0 hn1 O3 AN
        subst hgj hn0
        have e1 : (num != 0) = true := by simp; omega
        have e2 : (gj != gj) = false := by simp
        clear hbj hg hn1 x0 x1 x2 x3
        go_wp2_with fail
        refine AN.out.mono ?_
        rintro _ w3 ⟨rfl, b3, s3⟩
        have X3 := Lib.hid (X2.out.step s3)
        have S3 := Lib.hid b3
        obtain ⟨w4, hrun, m4, f4⟩ := X3.out.h.set WJ.out.1 (wi_small 0 (by decide) (by decide)) (by have := KK.out; omega)
        have X4 := Lib.hid (X3.out.setH m4 f4)
        have S4 := Lib.hid (S3.out.apart f4 X3.out.nh X3.out.lh)
        clear b3 s3 m4 f4
        go_wp2_with fail
        go_roundw
        case rel => exact ⟨i + 1, next, k, last, N + 1, _, _, _, _, _, _, _, by first | rfl | go_num, by first | rfl | go_num, by have := HI.out; omega, S4.out, X4.out, O3.out, by have := KK.out; omega, by have := KK.out; omega, by have := KK.out; have := HM.out; omega⟩
        case measure => have hii := HI.out; simp [intOf]; omega
    · as_aux_lemma =>
      rcases hbj : LE.byJ G j with _ | g
      · have hn0 : num = 0 := by rw [← NU.out, O.out.hs, hol_none hbj]
        have O3 := Lib.hid (O.out.same (J' := J) hbj (fun x hx => ⟨x, hx, rfl, rfl⟩))
        have AN := Lib.hid (s_nofail S2.out (i := 0) (wi_small 0 (by decide) (by decide)) (LE.byN_no (fun g hg => by have := S2.out.ok.rng g hg; omega)))
        subst hn0
        clear hbj x0 x1 x2 x3
        go_wp2_with fail
        refine AN.out.mono ?_
        rintro _ w3 ⟨rfl, g3⟩
        have X3 := Lib.hid (X2.out.later g3)
        have S3 := Lib.hid (S2.out.later g3)
        obtain ⟨w4, hrun, m4, f4⟩ := X3.out.h.set WJ.out.1 (wi_small 0 (by decide) (by decide)) (by have := KK.out; omega)
        have X4 := Lib.hid (X3.out.setH m4 f4)
        have S4 := Lib.hid (S3.out.apart f4 X3.out.nh X3.out.lh)
        clear g3 m4 f4
        go_wp2_with fail
        go_roundw
        case rel => exact ⟨i + 1, next, k, last, N + 1, _, _, _, _, _, _, _, by first | rfl | go_num, by first | rfl | go_num, by have := HI.out; omega, S4.out, X4.out, O3.out, by have := KK.out; omega, by have := KK.out; omega, by have := KK.out; have := HM.out; omega⟩
        case measure => have hii := HI.out; simp [intOf]; omega
      · obtain ⟨hg, hgj⟩ := LE.byJ_some hbj
        have hn0 : num = g.n := by rw [← NU.out, O.out.hs, hol_some hbj]
        have hn1 := S2.out.ok.rng g hg
        obtain ⟨y, hfy, hyJ, hyi, hys, hgd⟩ := S2.out.of_l hg
        have hyu := O.out.us y hyJ
        have hgd := RE.gd_t.1 hgd
        have BN := Lib.hid (LE.byN_of S2.out.ok hg)
        have WN := Lib.hid (Ids.wn S2.out.ok hg)
        have HG := Lib.hid (And.intro hg hyJ)
        obtain ⟨gn, gj, gu⟩ := g
        obtain ⟨yi, yc, ys, yu⟩ := y
        simp only at hgj hn0 hn1 hfy hyi hys hyu hgd BN WN
        subst hgj hn0 hyi hys
        have e1 : (num != 0) = true := by simp; omega
        have e2 : (yi != yi) = false := by simp
        by_cases hu : yu ≤ n
        · have e3 : (yu == (n1 : Int)) = false := by have := RN.out; simp; omega
          have FA := Lib.hid (s_fail S2.out WN.out BN.out hfy hu (by have := KK.out; omega))
          simp only at FA
          have HU := Lib.hid hyu
          clear hbj hg hn1 x0 x1 x2 x3 hfy hyJ hgd hu hyu
          go_wp2_with fail
          refine FA.out.mono ?_
          rintro _ w3 ⟨rfl, b3, s3⟩
          have X3 := Lib.hid (X2.out.step s3)
          have S3 := Lib.hid b3
          have lu := X3.out.u.get WJ.out.1 HU.out
          obtain ⟨w4, hrun, m4, f4⟩ := X3.out.h.set WJ.out.1 (wi_small 0 (by decide) (by decide)) (by have := KK.out; omega)
          have X4 := Lib.hid (X3.out.setH m4 f4)
          have S4 := Lib.hid (S3.out.apart f4 X3.out.nh X3.out.lh)
          have RS := Lib.hid (s_rested (y := ⟨yi, yc, 3, yu⟩) S4.out (fnd_upd (z := ⟨yi, yc, 3, yu⟩) S2.out.bi.ids ⟨_, HG.out.2, rfl⟩) rfl (by have := KK.out; omega))
          simp only at RS
          clear b3 s3 m4 f4
          go_wp2_with fail
          refine RS.out.mono ?_
          rintro _ w5 ⟨rfl, v5, b5, s5⟩
          have X5 := Lib.hid (X4.out.step s5)
          have S5 := Lib.hid b5
          have O5 := Lib.hid (O.out.off S2.out.ok HG.out.1 (J' := upd (upd J ⟨yi, yc, 3, yu⟩) ⟨yi, yc, 1, yu⟩) (fun x hx => by
            rcases mem_upd.1 hx with ⟨hx, _⟩ | ⟨rfl, _⟩
            · rcases mem_upd.1 hx with ⟨hx, _⟩ | ⟨rfl, _⟩
              · exact ⟨x, hx, rfl, rfl⟩
              · exact ⟨_, HG.out.2, rfl, rfl⟩
            · exact ⟨_, HG.out.2, rfl, rfl⟩))
          simp only at O5
          clear b5 s5
          go_wp2_with fail
          go_roundw
          case rel => exact ⟨i + 1, next, k + 1 + 1, last, N + 1, _, _, _, _, _, _, _, by first | rfl | go_num, by first | rfl | go_num, by have := HI.out; omega, S5.out, X5.out, O5.out, by have := KK.out; omega, by have := KK.out; omega, by have := KK.out; have := HM.out; omega⟩
          case measure => have hii := HI.out; simp [intOf]; omega
        · have e3 : (yu == (n1 : Int)) = true := by have := RN.out; simp; omega
          have DE := Lib.hid (s_dead S2.out WN.out BN.out hfy hu)
          simp only at DE
          have HU := Lib.hid hyu
          clear hbj hg hn1 x0 x1 x2 x3 hfy hyJ hgd hu hyu
          go_wp2_with fail
          refine DE.out.mono ?_
          rintro _ w3 ⟨rfl, b3, s3⟩
          have X3 := Lib.hid (X2.out.step s3)
          have S3 := Lib.hid b3
          have lu := X3.out.u.get WJ.out.1 HU.out
          obtain ⟨w4, hrun, m4, f4⟩ := X3.out.h.set WJ.out.1 (wi_small 0 (by decide) (by decide)) (by have := KK.out; omega)
          have X4 := Lib.hid (X3.out.setH m4 f4)
          have S4 := Lib.hid (S3.out.apart f4 X3.out.nh X3.out.lh)
          have O5 := Lib.hid (O.out.off S2.out.ok HG.out.1 (J' := gon J yi) (fun x hx => ⟨x, (mem_gon.1 hx).1, rfl, rfl⟩))
          simp only at O5
          clear b3 s3 m4 f4
          go_wp2_with fail
          go_roundw
          case rel => exact ⟨i + 1, next, k, last, N + 1, _, _, _, _, _, _, _, by first | rfl | go_num, by first | rfl | go_num, by have := HI.out; omega, S4.out, X4.out, O5.out, by have := KK.out; omega, by have := KK.out; omega, by have := KK.out; have := HM.out; omega⟩
          case measure => have hii := HI.out; simp [intOf]; omega
    · as_aux_lemma =>
      rcases hf : fnd J j with _ | y
      · have hbj : LE.byJ G j = none := LE.byJ_no (S2.out.bi.new_l (fnd_none hf))
        have O3 := Lib.hid (O.out.same (J' := J) hbj (fun x hx => ⟨x, hx, rfl, rfl⟩))
        have DN := Lib.hid (s_nodrop S2.out WJ.out.1 hf)
        clear hbj hf x0 x1 x2 x3
        go_wp2_with fail
        refine DN.out.mono ?_
        rintro _ w3 ⟨rfl, g3⟩
        have X3 := Lib.hid (X2.out.later g3)
        have S3 := Lib.hid (S2.out.later g3)
        obtain ⟨w4, hrun, m4, f4⟩ := X3.out.h.set WJ.out.1 (wi_small 0 (by decide) (by decide)) (by have := KK.out; omega)
        have X4 := Lib.hid (X3.out.setH m4 f4)
        have S4 := Lib.hid (S3.out.apart f4 X3.out.nh X3.out.lh)
        clear g3 m4 f4
        go_wp2_with fail
        go_roundw
        case rel => exact ⟨i + 1, next, k, last, N + 1, _, _, _, _, _, _, _, by first | rfl | go_num, by first | rfl | go_num, by have := HI.out; omega, S4.out, X4.out, O3.out, by have := KK.out; omega, by have := KK.out; omega, by have := KK.out; have := HM.out; omega⟩
        case measure => have hii := HI.out; simp [intOf]; omega
      · obtain ⟨L', _, _, _, D⟩ := s_drop S2.out hf
        have DR := Lib.hid D
        clear D
        rcases hbj : LE.byJ G j with _ | g
        · have hn0 : num = 0 := by rw [← NU.out, O.out.hs, hol_none hbj]
          have O3 := Lib.hid (O.out.same (J' := gon J j) hbj (fun x hx => ⟨x, (mem_gon.1 hx).1, rfl, rfl⟩))
          have HL := Lib.hid (show lg G j = G by unfold lg; rw [hbj])
          subst hn0
          rw [HL.out] at DR
          clear hbj hf x0 x1 x2 x3
          go_wp2_with fail
          refine DR.out.mono ?_
          rintro _ w3 ⟨rfl, v3, b3, s3⟩
          have X3 := Lib.hid (X2.out.step s3)
          have S3 := Lib.hid b3
          obtain ⟨w4, hrun, m4, f4⟩ := X3.out.h.set WJ.out.1 (wi_small 0 (by decide) (by decide)) (by have := KK.out; omega)
          have X4 := Lib.hid (X3.out.setH m4 f4)
          have S4 := Lib.hid (S3.out.apart f4 X3.out.nh X3.out.lh)
          clear b3 s3 m4 f4
          go_wp2_with fail
          go_roundw
          case rel => exact ⟨i + 1, next, k, last, N + 1, _, _, _, _, _, _, _, by first | rfl | go_num, by first | rfl | go_num, by have := HI.out; omega, S4.out, X4.out, O3.out, by have := KK.out; omega, by have := KK.out; omega, by have := KK.out; have := HM.out; omega⟩
          case measure => have hii := HI.out; simp [intOf]; omega
        · obtain ⟨hg, hgj⟩ := LE.byJ_some hbj
          have hn0 : num = g.n := by rw [← NU.out, O.out.hs, hol_some hbj]
          have hn1 := S2.out.ok.rng g hg
          have HL := Lib.hid (show lg G j = LE.off [g] G by unfold lg; rw [hbj])
          rw [HL.out] at DR
          have O3 := Lib.hid (O.out.off S2.out.ok hg (J' := gon J j) (fun x hx => ⟨x, (mem_gon.1 hx).1, rfl, rfl⟩))
          have BN := Lib.hid (byN_off S2.out.ok hg)
          have WN := Lib.hid (Ids.wn S2.out.ok hg)
          obtain ⟨gn, gj, gu⟩ := g
          simp only at hgj hn0 hn1 O3 BN WN
          subst hgj hn0
          have e1 : (num != 0) = true := by simp; omega
          clear hbj hf hg hn1 x0 x1 x2 x3
          go_wp2_with fail
          refine DR.out.mono ?_
          rintro _ w3 ⟨rfl, v3, b3, s3⟩
          have X3 := Lib.hid (X2.out.step s3)
          have S3 := Lib.hid b3
          have NL := Lib.hid (s_nolease S3.out WN.out BN.out)
          clear b3 s3
          go_wp2_with fail
          refine NL.out.mono ?_
          rintro _ w4 ⟨rfl, g4⟩
          have g5 := g4.alloc (.cells #[.int .i64 0, .int .i64 0, .int .i64 0, .int .i64 0, .int .i64 0, .int .u64 0] 33)
          have X4 := Lib.hid (X3.out.later g5)
          have S4 := Lib.hid (S3.out.later g5)
          obtain ⟨w5, hrun, m5, f5⟩ := X4.out.h.set WJ.out.1 (wi_small 0 (by decide) (by decide)) (by have := KK.out; omega)
          have X5 := Lib.hid (X4.out.setH m5 f5)
          have S5 := Lib.hid (S4.out.apart f5 X4.out.nh X4.out.lh)
          clear g4 g5 m5 f5
          simp only [lv]
          go_wp2_with fail
          go_roundw
          case rel => exact ⟨i + 1, next, k, last, N + 1, _, _, _, _, _, _, _, by first | rfl | go_num, by first | rfl | go_num, by have := HI.out; omega, S5.out, X5.out, O3.out, by have := KK.out; omega, by have := KK.out; omega, by have := KK.out; have := HM.out; omega⟩
          case measure => have hii := HI.out; simp [intOf]; omega
end Go.Proofs.Ytlopijcpnfkcgaa
