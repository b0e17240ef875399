/- PlanSplits: the walk of the law at this program. -/
import Derived.Test.YtjkhgpdhhnfmlaaPe
namespace Go.Proofs.Ytjkhgpdhhnfmlaa
open Go.RowKit
open RG (Du)
open PM
set_option linter.unusedSimpArgs false
set_option linter.unusedVariables false

theorem wis_sub {l k : List Du} (h : Wis l) (g : ∀ d ∈ k, d ∈ l) : Wis k := fun d hd => h d (g d hd)
theorem wis_upto {l : List Du} (h : Wis l) (t : Nat) : Wis (upto t l) := wis_sub h (fun d hd => (List.mem_filter.1 hd).1)
theorem wis_past {l : List Du} (h : Wis l) (t : Nat) : Wis (past t l) := wis_sub h (fun d hd => (List.mem_filter.1 hd).1)
/-- append(append([]Due{}, a...), c...), in a world x: an empty row is laid first. -/
theorem both_appends (x : World) (u1 u2 : Value) (l1 l2 : List Du) (r1 : RowD x u1 l1) (r2 : RowD x u2 l2) (hb : l1.length + l2.length ≤ 1000000) :
    ∃ v1 y1 v2 y2, (Builtin.append_ #[22, 22] 22 #[.slice (some ⟨x.heap.size, 0, none⟩) 0 0, u1]).run Try.prog (x.alloc (.cells #[] 25)) = .ok v1 y1 ∧
      (Builtin.append_ #[22, 22] 22 #[v1, u2]).run Try.prog y1 = .ok v2 y2 ∧ NewD x y2 v2 (l1 ++ l2) ∧ Grw x y2 := by
  obtain ⟨v1, y1, v2, y2, h1, h2, h3, h4, _⟩ := cat_appends x x (x.alloc (.cells #[] 25)) (Grw.rfl' x) (.slice (some ⟨x.heap.size, 0, none⟩) 0 0) (empty_row x) ((Grw.rfl' x).alloc _) u1 u2 l1 l2 r1 r2 hb
  exact ⟨v1, y1, v2, y2, h1, h2, h3, h4⟩
set_option maxHeartbeats 4000000 in
set_option maxRecDepth 100000 in
theorem splits_lt (ao : Option Addr) (cap x y : Nat) (l : List Du) (n : Nat) (w : World) (hl : Lies w ao (cd l)) (hw : Wis l) (hn : l.length = n) (h60 : n ≤ 60) (hxy : x < y) :
    Calls Try.prog 5 #[.slice ao n cap, .int .u64 x, .int .u64 y] w fun e w' => e = .returned (.bool true) ∧ Grw w w' := by
  have hle : x ≤ y := by omega
  have WK := Lib.hid (fun u => wakes_any u)
  have S1 := split_any ao cap x l w hl (by omega)
  have S3 := fun u (g : Grw w u) => split_any ao cap y l u (hl.later g) (by omega)
  rw [hn] at S1 S3
  have A3 := upto_two hle l
  have A4 := upto_len y l
  have A5 := upto_len x l
  have A6 := upto_len y (past x l)
  rw [hn] at A4 A5
  have PP := Lib.hid (past_past hle l)
  have UB : Hid (Gd l → upto x l ++ upto y (past x l) = upto y l ∧ upto y l ++ past y l = l) := (fun h => ⟨upto_both h.1 hle, upto_app h.1 _⟩ : Gd l → upto x l ++ upto y (past x l) = upto y l ∧ upto y l ++ past y l = l)
  have GF : Hid (Gd l → Gd (upto y l) ∧ Gd (past y l)) := (fun h => ⟨gd_filter h _, gd_filter h _⟩ : Gd l → Gd (upto y l) ∧ Gd (past y l))
  have WF := Lib.hid (And.intro (wis_upto hw y) (wis_past hw y))
  have HN := Lib.hid (And.intro hn (And.intro hl hw))
  obtain ⟨la, hla⟩ : ∃ k, upto x l = k := ⟨_, rfl⟩
  obtain ⟨lb, hlb⟩ : ∃ k, past x l = k := ⟨_, rfl⟩
  obtain ⟨le, hle'⟩ : ∃ k, upto y l = k := ⟨_, rfl⟩
  obtain ⟨lf, hlf⟩ : ∃ k, past y l = k := ⟨_, rfl⟩
  unfold SplitQ at S1 S3
  rw [hla, hlb] at S1
  rw [hle', hlf] at S3
  rw [hla, hlb, hle'] at A3
  rw [hle', hlf] at A4
  rw [hla, hlb] at A5
  rw [hlb] at A6
  rw [hlb, hlf] at PP
  rw [hla, hlb, hle', hlf] at UB
  rw [hle', hlf] at GF WF
  obtain ⟨lc, hlc⟩ : ∃ k, upto y lb = k := ⟨_, rfl⟩
  rw [hlc] at A3 A6 UB
  rw [PP.out] at A6
  have SB := Lib.hid (fun (u : World) a c (h : Lies u a (cd lb)) => split_any a c y lb u h (by omega))
  unfold SplitQ at SB
  rw [hlc, PP.out] at SB
  have S1 := Lib.hid S1
  have S3 := Lib.hid S3
  clear hla hlb hle' hlf hlc hw hl PP hle hn
  obtain ⟨na, hna⟩ : ∃ k, la.length = k := ⟨_, rfl⟩
  obtain ⟨nb, hnb⟩ : ∃ k, lb.length = k := ⟨_, rfl⟩
  obtain ⟨nc, hnc⟩ : ∃ k, lc.length = k := ⟨_, rfl⟩
  obtain ⟨ne, hne⟩ : ∃ k, le.length = k := ⟨_, rfl⟩
  obtain ⟨nf, hnf⟩ : ∃ k, lf.length = k := ⟨_, rfl⟩
  rw [hna, hnc, hne] at A3
  rw [hne, hnf] at A4
  rw [hna, hnb] at A5
  rw [hnc, hnb, hnf] at A6
  have NN := Lib.hid (And.intro hna (And.intro hnb (And.intro hnc (And.intro hne hnf))))
  clear hna hnb hnc hne hnf
  have h60i : ¬ (60 : Int) < (n : Int) := by omega
  have m1 : (na : Int) + (nc : Int) = ne := by omega
  have m2 : (ne : Int) + (nf : Int) = n := by omega
  have m3 : IntKind.i64.wrap (ne : Int) = ne := by rw [IntKind.wrap_i64]; omega
  have m4 : IntKind.i64.wrap (n : Int) = n := by rw [IntKind.wrap_i64]; omega
  have q0 : (x : Int) < (y : Int) := by omega
  have q1 : ¬ (y : Int) < (x : Int) := by omega
  have q2 : ¬ (x : Int) = (y : Int) := by omega
  have q3 : (x : Int) ≤ (y : Int) := by omega
  have q4 : ¬ (y : Int) ≤ (x : Int) := by omega
  go_enter Try.func5, Try.ntmps5
  go_wp2_with fail
  refine S1.out.mono ?_
  rintro _ w1 ⟨u, v, rfl, hu, hv, hg⟩
  obtain ⟨a1, c1, rfl, la1⟩ := hu.row
  obtain ⟨a2, c2, rfl, lb1⟩ := hv.row
  have B1 := SB.out w1 a2 c2 lb1
  rw [NN.out.1, NN.out.2.1]
  rw [NN.out.2.1] at B1
  have B1 := Lib.hid B1
  have G1 := Lib.hid hg
  have LA := Lib.hid la1
  clear hu hv hg la1 lb1 SB
  go_wp2_with fail
  refine B1.out.mono ?_
  rintro _ w2 ⟨u, v, rfl, hu, hv, hg⟩
  obtain ⟨a3, c3, rfl, lc2⟩ := hu.row
  obtain ⟨a4, c4, rfl, ld2⟩ := hv.row
  rw [NN.out.2.2.1, NN.out.2.2.2.2]
  have G2 := Lib.hid (G1.out.trans hg)
  have S3 := Lib.hid (S3.out w2 G2.out)
  have L2 := Lib.hid (And.intro (LA.out.later hg) (And.intro lc2 ld2))
  clear hu hv hg lc2 ld2 LA B1
  go_wp2_with fail
  refine S3.out.mono ?_
  rintro _ w3 ⟨u, v, rfl, hu, hv, hg⟩
  obtain ⟨a5, c5, rfl, le3⟩ := hu.row
  obtain ⟨a6, c6, rfl, lf3⟩ := hv.row
  rw [NN.out.2.2.2.1, NN.out.2.2.2.2]
  have G3 := Lib.hid (G2.out.trans hg)
  have L3 := Lib.hid (And.intro (L2.out.1.later hg) (And.intro (L2.out.2.1.later hg) (And.intro le3 lf3)))
  have D1 := dues_same (.slice a4 lf.length c4) (.slice a6 lf.length c6) lf w3 (by rw [NN.out.2.2.2.2]; omega) ⟨a4, c4, rfl, L2.out.2.2.later hg⟩ ⟨a6, c6, rfl, lf3⟩
  rw [NN.out.2.2.2.2] at D1
  have D1 := Lib.hid D1
  clear hu hv hg le3 lf3 L2 S3
  go_wp2_with fail
  refine D1.out.mono ?_
  rintro _ w4 ⟨rfl, hg⟩
  have G4 := Lib.hid (G3.out.trans hg)
  have L4 := Lib.hid (And.intro (L3.out.1.later hg) (And.intro (L3.out.2.1.later hg) (And.intro (L3.out.2.2.1.later hg) (L3.out.2.2.2.later hg))))
  clear hg L3 D1
  by_cases hgd : Gd l
  · have GG := Lib.hid (good_is ao cap l n true w4 (HN.out.2.1.later G4.out) (by rw [HN.out.1]; omega) HN.out.2.2 HN.out.1 (gdB_t hgd))
    have E1 := Lib.hid (And.intro (UB.out hgd) (GF.out hgd))
    clear hgd UB GF
    go_wp2_with fail
    refine GG.out.mono ?_
    rintro _ w5 ⟨rfl, hg⟩
    have G5 := Lib.hid (And.intro (G4.out.trans hg) hg)
    clear hg GG
    have GE := Lib.hid (good_is a5 c5 le ne true w5 (L4.out.2.2.1.later G5.out.2) (by rw [NN.out.2.2.2.1]; omega) WF.out.1 NN.out.2.2.2.1 (gdB_t E1.out.2.1))
    go_wp2_with fail
    refine GE.out.mono ?_
    rintro _ w6 ⟨rfl, hg⟩
    have G6 := Lib.hid (And.intro (G5.out.1.trans hg) (G5.out.2.trans hg))
    clear hg GE
    have GH := Lib.hid (good_is a6 c6 lf nf true w6 (L4.out.2.2.2.later G6.out.2) (by rw [NN.out.2.2.2.2]; omega) WF.out.2 NN.out.2.2.2.2 (gdB_t E1.out.2.2))
    go_wp2_with fail
    refine GH.out.mono ?_
    rintro _ w7 ⟨rfl, hg⟩
    have G7 := Lib.hid (And.intro (G6.out.1.trans hg) (G6.out.2.trans hg))
    clear hg GH
    obtain ⟨v1, y1, v2, y2, hr1, hr2, hnew, gy⟩ := both_appends w7 (.slice a1 la.length c1) (.slice a3 lc.length c3) la lc ⟨a1, c1, rfl, L4.out.1.later G7.out.2⟩ ⟨a3, c3, rfl, L4.out.2.1.later G7.out.2⟩ (by rw [NN.out.1, NN.out.2.2.1]; omega)
    rw [E1.out.1.1] at hnew
    rw [NN.out.1] at hr1
    rw [NN.out.2.2.1] at hr2
    have D2 := dues_same v2 (.slice a5 le.length c5) le y2 (by rw [NN.out.2.2.2.1]; omega) hnew.row ⟨a5, c5, rfl, (L4.out.2.2.1.later G7.out.2).later gy⟩
    rw [NN.out.2.2.2.1] at D2
    have D2 := Lib.hid D2
    have HR1 := Lib.hid hr1
    have HR2 := Lib.hid hr2
    have G8 := Lib.hid (And.intro (G7.out.1.trans gy) (G7.out.2.trans gy))
    clear hr1 hr2 hnew gy
    go_wp2_with (at_builtin; first | refine wp_append_guarded _ (by rfl) _ _ 22 rfl _ _ rfl rfl _ _ HR1.out ?_ | refine wp_append_guarded _ (by rfl) _ _ 22 rfl _ _ rfl rfl _ _ HR2.out ?_)
    refine D2.out.mono ?_
    rintro _ w8 ⟨rfl, hg⟩
    have G9 := Lib.hid (And.intro (G8.out.1.trans hg) (G8.out.2.trans hg))
    clear hg D2 HR1 HR2
    obtain ⟨v3, y3, v4, y4, hr1, hr2, hnew, gy⟩ := both_appends w8 (.slice a5 le.length c5) (.slice a6 lf.length c6) le lf ⟨a5, c5, rfl, L4.out.2.2.1.later G9.out.2⟩ ⟨a6, c6, rfl, L4.out.2.2.2.later G9.out.2⟩ (by rw [NN.out.2.2.2.1, NN.out.2.2.2.2]; omega)
    rw [E1.out.1.2] at hnew
    rw [NN.out.2.2.2.1] at hr1
    rw [NN.out.2.2.2.2] at hr2
    have D2 := dues_same v4 (.slice ao l.length cap) l y4 (by rw [HN.out.1]; omega) hnew.row ⟨ao, cap, rfl, HN.out.2.1.later (G9.out.1.trans gy)⟩
    rw [HN.out.1] at D2
    have D2 := Lib.hid D2
    have HR1 := Lib.hid hr1
    have HR2 := Lib.hid hr2
    have G10 := Lib.hid (G9.out.1.trans gy)
    clear hr1 hr2 hnew gy
    go_wp2_with (at_builtin; first | refine wp_append_guarded _ (by rfl) _ _ 22 rfl _ _ rfl rfl _ _ HR1.out ?_ | refine wp_append_guarded _ (by rfl) _ _ 22 rfl _ _ rfl rfl _ _ HR2.out ?_)
    refine D2.out.mono ?_
    rintro _ w9 ⟨rfl, hg⟩
    have G11 := Lib.hid (G10.out.trans hg)
    clear hg
    go_wp2_with fail
    refine (WK.out _).mono ?_
    rintro _ w10 ⟨rfl, hg⟩
    have G12 := Lib.hid (G11.out.trans hg)
    clear hg
    go_wp2_with fail
    go_ret
    exact ⟨rfl, G12.out⟩
  · have GG := Lib.hid (good_is ao cap l n false w4 (HN.out.2.1.later G4.out) (by rw [HN.out.1]; omega) HN.out.2.2 HN.out.1 (gdB_f hgd))
    clear hgd UB GF
    go_wp2_with fail
    refine GG.out.mono ?_
    rintro _ w5 ⟨rfl, hg⟩
    have G5 := Lib.hid (G4.out.trans hg)
    clear hg GG
    go_wp2_with fail
    refine (WK.out _).mono ?_
    rintro _ w10 ⟨rfl, hg⟩
    have G12 := Lib.hid (G5.out.trans hg)
    clear hg
    go_wp2_with fail
    go_ret
    exact ⟨rfl, G12.out⟩
set_option maxHeartbeats 4000000 in
set_option maxRecDepth 100000 in
theorem splits_gt (ao : Option Addr) (cap x y : Nat) (l : List Du) (n : Nat) (w : World) (hl : Lies w ao (cd l)) (hw : Wis l) (hn : l.length = n) (h60 : n ≤ 60) (hxy : y < x) :
    Calls Try.prog 5 #[.slice ao n cap, .int .u64 x, .int .u64 y] w fun e w' => e = .returned (.bool true) ∧ Grw w w' := by
  have hle : y ≤ x := by omega
  have WK := Lib.hid (fun u => wakes_any u)
  have S1 := split_any ao cap y l w hl (by omega)
  have S3 := fun u (g : Grw w u) => split_any ao cap x l u (hl.later g) (by omega)
  rw [hn] at S1 S3
  have A3 := upto_two hle l
  have A4 := upto_len x l
  have A5 := upto_len y l
  have A6 := upto_len x (past y l)
  rw [hn] at A4 A5
  have PP := Lib.hid (past_past hle l)
  have UB : Hid (Gd l → upto y l ++ upto x (past y l) = upto x l ∧ upto x l ++ past x l = l) := (fun h => ⟨upto_both h.1 hle, upto_app h.1 _⟩ : Gd l → upto y l ++ upto x (past y l) = upto x l ∧ upto x l ++ past x l = l)
  have GF : Hid (Gd l → Gd (upto x l) ∧ Gd (past x l)) := (fun h => ⟨gd_filter h _, gd_filter h _⟩ : Gd l → Gd (upto x l) ∧ Gd (past x l))
  have WF := Lib.hid (And.intro (wis_upto hw x) (wis_past hw x))
  have HN := Lib.hid (And.intro hn (And.intro hl hw))
  obtain ⟨la, hla⟩ : ∃ k, upto y l = k := ⟨_, rfl⟩
  obtain ⟨lb, hlb⟩ : ∃ k, past y l = k := ⟨_, rfl⟩
  obtain ⟨le, hle'⟩ : ∃ k, upto x l = k := ⟨_, rfl⟩
  obtain ⟨lf, hlf⟩ : ∃ k, past x l = k := ⟨_, rfl⟩
  unfold SplitQ at S1 S3
  rw [hla, hlb] at S1
  rw [hle', hlf] at S3
  rw [hla, hlb, hle'] at A3
  rw [hle', hlf] at A4
  rw [hla, hlb] at A5
  rw [hlb] at A6
  rw [hlb, hlf] at PP
  rw [hla, hlb, hle', hlf] at UB
  rw [hle', hlf] at GF WF
  obtain ⟨lc, hlc⟩ : ∃ k, upto x lb = k := ⟨_, rfl⟩
  rw [hlc] at A3 A6 UB
  rw [PP.out] at A6
  have SB := Lib.hid (fun (u : World) a c (h : Lies u a (cd lb)) => split_any a c x lb u h (by omega))
  unfold SplitQ at SB
  rw [hlc, PP.out] at SB
  have S1 := Lib.hid S1
  have S3 := Lib.hid S3
  clear hla hlb hle' hlf hlc hw hl PP hle hn
  obtain ⟨na, hna⟩ : ∃ k, la.length = k := ⟨_, rfl⟩
  obtain ⟨nb, hnb⟩ : ∃ k, lb.length = k := ⟨_, rfl⟩
  obtain ⟨nc, hnc⟩ : ∃ k, lc.length = k := ⟨_, rfl⟩
  obtain ⟨ne, hne⟩ : ∃ k, le.length = k := ⟨_, rfl⟩
  obtain ⟨nf, hnf⟩ : ∃ k, lf.length = k := ⟨_, rfl⟩
  rw [hna, hnc, hne] at A3
  rw [hne, hnf] at A4
  rw [hna, hnb] at A5
  rw [hnc, hnb, hnf] at A6
  have NN := Lib.hid (And.intro hna (And.intro hnb (And.intro hnc (And.intro hne hnf))))
  clear hna hnb hnc hne hnf
  have h60i : ¬ (60 : Int) < (n : Int) := by omega
  have m1 : (na : Int) + (nc : Int) = ne := by omega
  have m2 : (ne : Int) + (nf : Int) = n := by omega
  have m3 : IntKind.i64.wrap (ne : Int) = ne := by rw [IntKind.wrap_i64]; omega
  have m4 : IntKind.i64.wrap (n : Int) = n := by rw [IntKind.wrap_i64]; omega
  have q0 : (y : Int) < (x : Int) := by omega
  have q1 : ¬ (x : Int) < (y : Int) := by omega
  have q2 : ¬ (x : Int) = (y : Int) := by omega
  have q3 : (y : Int) ≤ (x : Int) := by omega
  have q4 : ¬ (x : Int) ≤ (y : Int) := by omega
  go_enter Try.func5, Try.ntmps5
  go_wp2_with fail
  refine S1.out.mono ?_
  rintro _ w1 ⟨u, v, rfl, hu, hv, hg⟩
  obtain ⟨a1, c1, rfl, la1⟩ := hu.row
  obtain ⟨a2, c2, rfl, lb1⟩ := hv.row
  have B1 := SB.out w1 a2 c2 lb1
  rw [NN.out.1, NN.out.2.1]
  rw [NN.out.2.1] at B1
  have B1 := Lib.hid B1
  have G1 := Lib.hid hg
  have LA := Lib.hid la1
  clear hu hv hg la1 lb1 SB
  go_wp2_with fail
  refine B1.out.mono ?_
  rintro _ w2 ⟨u, v, rfl, hu, hv, hg⟩
  obtain ⟨a3, c3, rfl, lc2⟩ := hu.row
  obtain ⟨a4, c4, rfl, ld2⟩ := hv.row
  rw [NN.out.2.2.1, NN.out.2.2.2.2]
  have G2 := Lib.hid (G1.out.trans hg)
  have S3 := Lib.hid (S3.out w2 G2.out)
  have L2 := Lib.hid (And.intro (LA.out.later hg) (And.intro lc2 ld2))
  clear hu hv hg lc2 ld2 LA B1
  go_wp2_with fail
  refine S3.out.mono ?_
  rintro _ w3 ⟨u, v, rfl, hu, hv, hg⟩
  obtain ⟨a5, c5, rfl, le3⟩ := hu.row
  obtain ⟨a6, c6, rfl, lf3⟩ := hv.row
  rw [NN.out.2.2.2.1, NN.out.2.2.2.2]
  have G3 := Lib.hid (G2.out.trans hg)
  have L3 := Lib.hid (And.intro (L2.out.1.later hg) (And.intro (L2.out.2.1.later hg) (And.intro le3 lf3)))
  have D1 := dues_same (.slice a4 lf.length c4) (.slice a6 lf.length c6) lf w3 (by rw [NN.out.2.2.2.2]; omega) ⟨a4, c4, rfl, L2.out.2.2.later hg⟩ ⟨a6, c6, rfl, lf3⟩
  rw [NN.out.2.2.2.2] at D1
  have D1 := Lib.hid D1
  clear hu hv hg le3 lf3 L2 S3
  go_wp2_with fail
  refine D1.out.mono ?_
  rintro _ w4 ⟨rfl, hg⟩
  have G4 := Lib.hid (G3.out.trans hg)
  have L4 := Lib.hid (And.intro (L3.out.1.later hg) (And.intro (L3.out.2.1.later hg) (And.intro (L3.out.2.2.1.later hg) (L3.out.2.2.2.later hg))))
  clear hg L3 D1
  by_cases hgd : Gd l
  · have GG := Lib.hid (good_is ao cap l n true w4 (HN.out.2.1.later G4.out) (by rw [HN.out.1]; omega) HN.out.2.2 HN.out.1 (gdB_t hgd))
    have E1 := Lib.hid (And.intro (UB.out hgd) (GF.out hgd))
    clear hgd UB GF
    go_wp2_with fail
    refine GG.out.mono ?_
    rintro _ w5 ⟨rfl, hg⟩
    have G5 := Lib.hid (And.intro (G4.out.trans hg) hg)
    clear hg GG
    have GE := Lib.hid (good_is a5 c5 le ne true w5 (L4.out.2.2.1.later G5.out.2) (by rw [NN.out.2.2.2.1]; omega) WF.out.1 NN.out.2.2.2.1 (gdB_t E1.out.2.1))
    go_wp2_with fail
    refine GE.out.mono ?_
    rintro _ w6 ⟨rfl, hg⟩
    have G6 := Lib.hid (And.intro (G5.out.1.trans hg) (G5.out.2.trans hg))
    clear hg GE
    have GH := Lib.hid (good_is a6 c6 lf nf true w6 (L4.out.2.2.2.later G6.out.2) (by rw [NN.out.2.2.2.2]; omega) WF.out.2 NN.out.2.2.2.2 (gdB_t E1.out.2.2))
    go_wp2_with fail
    refine GH.out.mono ?_
    rintro _ w7 ⟨rfl, hg⟩
    have G7 := Lib.hid (And.intro (G6.out.1.trans hg) (G6.out.2.trans hg))
    clear hg GH
    obtain ⟨v1, y1, v2, y2, hr1, hr2, hnew, gy⟩ := both_appends w7 (.slice a1 la.length c1) (.slice a3 lc.length c3) la lc ⟨a1, c1, rfl, L4.out.1.later G7.out.2⟩ ⟨a3, c3, rfl, L4.out.2.1.later G7.out.2⟩ (by rw [NN.out.1, NN.out.2.2.1]; omega)
    rw [E1.out.1.1] at hnew
    rw [NN.out.1] at hr1
    rw [NN.out.2.2.1] at hr2
    have D2 := dues_same v2 (.slice a5 le.length c5) le y2 (by rw [NN.out.2.2.2.1]; omega) hnew.row ⟨a5, c5, rfl, (L4.out.2.2.1.later G7.out.2).later gy⟩
    rw [NN.out.2.2.2.1] at D2
    have D2 := Lib.hid D2
    have HR1 := Lib.hid hr1
    have HR2 := Lib.hid hr2
    have G8 := Lib.hid (And.intro (G7.out.1.trans gy) (G7.out.2.trans gy))
    clear hr1 hr2 hnew gy
    go_wp2_with (at_builtin; first | refine wp_append_guarded _ (by rfl) _ _ 22 rfl _ _ rfl rfl _ _ HR1.out ?_ | refine wp_append_guarded _ (by rfl) _ _ 22 rfl _ _ rfl rfl _ _ HR2.out ?_)
    refine D2.out.mono ?_
    rintro _ w8 ⟨rfl, hg⟩
    have G9 := Lib.hid (And.intro (G8.out.1.trans hg) (G8.out.2.trans hg))
    clear hg D2 HR1 HR2
    obtain ⟨v3, y3, v4, y4, hr1, hr2, hnew, gy⟩ := both_appends w8 (.slice a5 le.length c5) (.slice a6 lf.length c6) le lf ⟨a5, c5, rfl, L4.out.2.2.1.later G9.out.2⟩ ⟨a6, c6, rfl, L4.out.2.2.2.later G9.out.2⟩ (by rw [NN.out.2.2.2.1, NN.out.2.2.2.2]; omega)
    rw [E1.out.1.2] at hnew
    rw [NN.out.2.2.2.1] at hr1
    rw [NN.out.2.2.2.2] at hr2
    have D2 := dues_same v4 (.slice ao l.length cap) l y4 (by rw [HN.out.1]; omega) hnew.row ⟨ao, cap, rfl, HN.out.2.1.later (G9.out.1.trans gy)⟩
    rw [HN.out.1] at D2
    have D2 := Lib.hid D2
    have HR1 := Lib.hid hr1
    have HR2 := Lib.hid hr2
    have G10 := Lib.hid (G9.out.1.trans gy)
    clear hr1 hr2 hnew gy
    go_wp2_with (at_builtin; first | refine wp_append_guarded _ (by rfl) _ _ 22 rfl _ _ rfl rfl _ _ HR1.out ?_ | refine wp_append_guarded _ (by rfl) _ _ 22 rfl _ _ rfl rfl _ _ HR2.out ?_)
    refine D2.out.mono ?_
    rintro _ w9 ⟨rfl, hg⟩
    have G11 := Lib.hid (G10.out.trans hg)
    clear hg
    go_wp2_with fail
    refine (WK.out _).mono ?_
    rintro _ w10 ⟨rfl, hg⟩
    have G12 := Lib.hid (G11.out.trans hg)
    clear hg
    go_wp2_with fail
    go_ret
    exact ⟨rfl, G12.out⟩
  · have GG := Lib.hid (good_is ao cap l n false w4 (HN.out.2.1.later G4.out) (by rw [HN.out.1]; omega) HN.out.2.2 HN.out.1 (gdB_f hgd))
    clear hgd UB GF
    go_wp2_with fail
    refine GG.out.mono ?_
    rintro _ w5 ⟨rfl, hg⟩
    have G5 := Lib.hid (G4.out.trans hg)
    clear hg GG
    go_wp2_with fail
    refine (WK.out _).mono ?_
    rintro _ w10 ⟨rfl, hg⟩
    have G12 := Lib.hid (G5.out.trans hg)
    clear hg
    go_wp2_with fail
    go_ret
    exact ⟨rfl, G12.out⟩
set_option maxHeartbeats 4000000 in
set_option maxRecDepth 100000 in
theorem splits_eq (ao : Option Addr) (cap x y : Nat) (l : List Du) (n : Nat) (w : World) (hl : Lies w ao (cd l)) (hw : Wis l) (hn : l.length = n) (h60 : n ≤ 60) (hxy : x = y) :
    Calls Try.prog 5 #[.slice ao n cap, .int .u64 x, .int .u64 y] w fun e w' => e = .returned (.bool true) ∧ Grw w w' := by
  subst hxy
  obtain ⟨z, hz⟩ : ∃ z, z = x := ⟨x, rfl⟩
  have hle : x ≤ z := by omega
  have WK := Lib.hid (fun u => wakes_any u)
  have S1 := split_any ao cap x l w hl (by omega)
  have S3 := fun u (g : Grw w u) => split_any ao cap z l u (hl.later g) (by omega)
  rw [hn] at S1 S3
  have A3 := upto_two hle l
  have A4 := upto_len z l
  have A5 := upto_len x l
  have A6 := upto_len z (past x l)
  rw [hn] at A4 A5
  have PP := Lib.hid (past_past hle l)
  have UB : Hid (Gd l → upto x l ++ upto z (past x l) = upto z l ∧ upto z l ++ past z l = l) := (fun h => ⟨upto_both h.1 hle, upto_app h.1 _⟩ : Gd l → upto x l ++ upto z (past x l) = upto z l ∧ upto z l ++ past z l = l)
  have GF : Hid (Gd l → Gd (upto z l) ∧ Gd (past z l)) := (fun h => ⟨gd_filter h _, gd_filter h _⟩ : Gd l → Gd (upto z l) ∧ Gd (past z l))
  have WF := Lib.hid (And.intro (wis_upto hw z) (wis_past hw z))
  have HN := Lib.hid (And.intro hn (And.intro hl hw))
  obtain ⟨la, hla⟩ : ∃ k, upto x l = k := ⟨_, rfl⟩
  obtain ⟨lb, hlb⟩ : ∃ k, past x l = k := ⟨_, rfl⟩
  obtain ⟨le, hle'⟩ : ∃ k, upto z l = k := ⟨_, rfl⟩
  obtain ⟨lf, hlf⟩ : ∃ k, past z l = k := ⟨_, rfl⟩
  unfold SplitQ at S1 S3
  rw [hla, hlb] at S1
  rw [hle', hlf] at S3
  rw [hla, hlb, hle'] at A3
  rw [hle', hlf] at A4
  rw [hla, hlb] at A5
  rw [hlb] at A6
  rw [hlb, hlf] at PP
  rw [hla, hlb, hle', hlf] at UB
  rw [hle', hlf] at GF WF
  obtain ⟨lc, hlc⟩ : ∃ k, upto z lb = k := ⟨_, rfl⟩
  rw [hlc] at A3 A6 UB
  rw [PP.out] at A6
  have SB := Lib.hid (fun (u : World) a c (h : Lies u a (cd lb)) => split_any a c z lb u h (by omega))
  unfold SplitQ at SB
  rw [hlc, PP.out] at SB
  have S1 := Lib.hid S1
  have S3 := Lib.hid S3
  clear hla hlb hle' hlf hlc hw hl PP hle hn
  obtain ⟨na, hna⟩ : ∃ k, la.length = k := ⟨_, rfl⟩
  obtain ⟨nb, hnb⟩ : ∃ k, lb.length = k := ⟨_, rfl⟩
  obtain ⟨nc, hnc⟩ : ∃ k, lc.length = k := ⟨_, rfl⟩
  obtain ⟨ne, hne⟩ : ∃ k, le.length = k := ⟨_, rfl⟩
  obtain ⟨nf, hnf⟩ : ∃ k, lf.length = k := ⟨_, rfl⟩
  rw [hna, hnc, hne] at A3
  rw [hne, hnf] at A4
  rw [hna, hnb] at A5
  rw [hnc, hnb, hnf] at A6
  have NN := Lib.hid (And.intro hna (And.intro hnb (And.intro hnc (And.intro hne hnf))))
  clear hna hnb hnc hne hnf
  have h60i : ¬ (60 : Int) < (n : Int) := by omega
  have m1 : (na : Int) + (nc : Int) = ne := by omega
  have m2 : (ne : Int) + (nf : Int) = n := by omega
  have m3 : IntKind.i64.wrap (ne : Int) = ne := by rw [IntKind.wrap_i64]; omega
  have m4 : IntKind.i64.wrap (n : Int) = n := by rw [IntKind.wrap_i64]; omega
  subst hz
  have q0 : ¬ (z : Int) < (z : Int) := by omega
  go_enter Try.func5, Try.ntmps5
  go_wp2_with fail
  refine S1.out.mono ?_
  rintro _ w1 ⟨u, v, rfl, hu, hv, hg⟩
  obtain ⟨a1, c1, rfl, la1⟩ := hu.row
  obtain ⟨a2, c2, rfl, lb1⟩ := hv.row
  have B1 := SB.out w1 a2 c2 lb1
  rw [NN.out.1, NN.out.2.1]
  rw [NN.out.2.1] at B1
  have B1 := Lib.hid B1
  have G1 := Lib.hid hg
  have LA := Lib.hid la1
  clear hu hv hg la1 lb1 SB
  go_wp2_with fail
  refine B1.out.mono ?_
  rintro _ w2 ⟨u, v, rfl, hu, hv, hg⟩
  obtain ⟨a3, c3, rfl, lc2⟩ := hu.row
  obtain ⟨a4, c4, rfl, ld2⟩ := hv.row
  rw [NN.out.2.2.1, NN.out.2.2.2.2]
  have G2 := Lib.hid (G1.out.trans hg)
  have S3 := Lib.hid (S3.out w2 G2.out)
  have L2 := Lib.hid (And.intro (LA.out.later hg) (And.intro lc2 ld2))
  clear hu hv hg lc2 ld2 LA B1
  go_wp2_with fail
  refine S3.out.mono ?_
  rintro _ w3 ⟨u, v, rfl, hu, hv, hg⟩
  obtain ⟨a5, c5, rfl, le3⟩ := hu.row
  obtain ⟨a6, c6, rfl, lf3⟩ := hv.row
  rw [NN.out.2.2.2.1, NN.out.2.2.2.2]
  have G3 := Lib.hid (G2.out.trans hg)
  have L3 := Lib.hid (And.intro (L2.out.1.later hg) (And.intro (L2.out.2.1.later hg) (And.intro le3 lf3)))
  have D1 := dues_same (.slice a4 lf.length c4) (.slice a6 lf.length c6) lf w3 (by rw [NN.out.2.2.2.2]; omega) ⟨a4, c4, rfl, L2.out.2.2.later hg⟩ ⟨a6, c6, rfl, lf3⟩
  rw [NN.out.2.2.2.2] at D1
  have D1 := Lib.hid D1
  clear hu hv hg le3 lf3 L2 S3
  go_wp2_with fail
  refine D1.out.mono ?_
  rintro _ w4 ⟨rfl, hg⟩
  have G4 := Lib.hid (G3.out.trans hg)
  have L4 := Lib.hid (And.intro (L3.out.1.later hg) (And.intro (L3.out.2.1.later hg) (And.intro (L3.out.2.2.1.later hg) (L3.out.2.2.2.later hg))))
  clear hg L3 D1
  by_cases hgd : Gd l
  · have GG := Lib.hid (good_is ao cap l n true w4 (HN.out.2.1.later G4.out) (by rw [HN.out.1]; omega) HN.out.2.2 HN.out.1 (gdB_t hgd))
    have E1 := Lib.hid (And.intro (UB.out hgd) (GF.out hgd))
    clear hgd UB GF
    go_wp2_with fail
    refine GG.out.mono ?_
    rintro _ w5 ⟨rfl, hg⟩
    have G5 := Lib.hid (And.intro (G4.out.trans hg) hg)
    clear hg GG
    have GE := Lib.hid (good_is a5 c5 le ne true w5 (L4.out.2.2.1.later G5.out.2) (by rw [NN.out.2.2.2.1]; omega) WF.out.1 NN.out.2.2.2.1 (gdB_t E1.out.2.1))
    go_wp2_with fail
    refine GE.out.mono ?_
    rintro _ w6 ⟨rfl, hg⟩
    have G6 := Lib.hid (And.intro (G5.out.1.trans hg) (G5.out.2.trans hg))
    clear hg GE
    have GH := Lib.hid (good_is a6 c6 lf nf true w6 (L4.out.2.2.2.later G6.out.2) (by rw [NN.out.2.2.2.2]; omega) WF.out.2 NN.out.2.2.2.2 (gdB_t E1.out.2.2))
    go_wp2_with fail
    refine GH.out.mono ?_
    rintro _ w7 ⟨rfl, hg⟩
    have G7 := Lib.hid (And.intro (G6.out.1.trans hg) (G6.out.2.trans hg))
    clear hg GH
    obtain ⟨v1, y1, v2, y2, hr1, hr2, hnew, gy⟩ := both_appends w7 (.slice a1 la.length c1) (.slice a3 lc.length c3) la lc ⟨a1, c1, rfl, L4.out.1.later G7.out.2⟩ ⟨a3, c3, rfl, L4.out.2.1.later G7.out.2⟩ (by rw [NN.out.1, NN.out.2.2.1]; omega)
    rw [E1.out.1.1] at hnew
    rw [NN.out.1] at hr1
    rw [NN.out.2.2.1] at hr2
    have D2 := dues_same v2 (.slice a5 le.length c5) le y2 (by rw [NN.out.2.2.2.1]; omega) hnew.row ⟨a5, c5, rfl, (L4.out.2.2.1.later G7.out.2).later gy⟩
    rw [NN.out.2.2.2.1] at D2
    have D2 := Lib.hid D2
    have HR1 := Lib.hid hr1
    have HR2 := Lib.hid hr2
    have G8 := Lib.hid (And.intro (G7.out.1.trans gy) (G7.out.2.trans gy))
    clear hr1 hr2 hnew gy
    go_wp2_with (at_builtin; first | refine wp_append_guarded _ (by rfl) _ _ 22 rfl _ _ rfl rfl _ _ HR1.out ?_ | refine wp_append_guarded _ (by rfl) _ _ 22 rfl _ _ rfl rfl _ _ HR2.out ?_)
    refine D2.out.mono ?_
    rintro _ w8 ⟨rfl, hg⟩
    have G9 := Lib.hid (And.intro (G8.out.1.trans hg) (G8.out.2.trans hg))
    clear hg D2 HR1 HR2
    obtain ⟨v3, y3, v4, y4, hr1, hr2, hnew, gy⟩ := both_appends w8 (.slice a5 le.length c5) (.slice a6 lf.length c6) le lf ⟨a5, c5, rfl, L4.out.2.2.1.later G9.out.2⟩ ⟨a6, c6, rfl, L4.out.2.2.2.later G9.out.2⟩ (by rw [NN.out.2.2.2.1, NN.out.2.2.2.2]; omega)
    rw [E1.out.1.2] at hnew
    rw [NN.out.2.2.2.1] at hr1
    rw [NN.out.2.2.2.2] at hr2
    have D2 := dues_same v4 (.slice ao l.length cap) l y4 (by rw [HN.out.1]; omega) hnew.row ⟨ao, cap, rfl, HN.out.2.1.later (G9.out.1.trans gy)⟩
    rw [HN.out.1] at D2
    have D2 := Lib.hid D2
    have HR1 := Lib.hid hr1
    have HR2 := Lib.hid hr2
    have G10 := Lib.hid (G9.out.1.trans gy)
    clear hr1 hr2 hnew gy
    go_wp2_with (at_builtin; first | refine wp_append_guarded _ (by rfl) _ _ 22 rfl _ _ rfl rfl _ _ HR1.out ?_ | refine wp_append_guarded _ (by rfl) _ _ 22 rfl _ _ rfl rfl _ _ HR2.out ?_)
    refine D2.out.mono ?_
    rintro _ w9 ⟨rfl, hg⟩
    have G11 := Lib.hid (G10.out.trans hg)
    clear hg
    go_wp2_with fail
    refine (WK.out _).mono ?_
    rintro _ w10 ⟨rfl, hg⟩
    have G12 := Lib.hid (G11.out.trans hg)
    clear hg
    go_wp2_with fail
    go_ret
    exact ⟨rfl, G12.out⟩
  · have GG := Lib.hid (good_is ao cap l n false w4 (HN.out.2.1.later G4.out) (by rw [HN.out.1]; omega) HN.out.2.2 HN.out.1 (gdB_f hgd))
    clear hgd UB GF
    go_wp2_with fail
    refine GG.out.mono ?_
    rintro _ w5 ⟨rfl, hg⟩
    have G5 := Lib.hid (G4.out.trans hg)
    clear hg GG
    go_wp2_with fail
    refine (WK.out _).mono ?_
    rintro _ w10 ⟨rfl, hg⟩
    have G12 := Lib.hid (G5.out.trans hg)
    clear hg
    go_wp2_with fail
    go_ret
    exact ⟨rfl, G12.out⟩
set_option maxRecDepth 100000 in
theorem splits_long (ao : Option Addr) (cap x y : Nat) (n : Nat) (w : World) (h60 : 60 < n) :
    Calls Try.prog 5 #[.slice ao n cap, .int .u64 x, .int .u64 y] w fun e w' => e = .returned (.bool true) ∧ Grw w w' := by
  have h60i : (60 : Int) < (n : Int) := by omega
  have W1 := Lib.hid (wakes_any w)
  go_enter Try.func5, Try.ntmps5
  go_wp2_with fail
  refine W1.out.mono ?_
  rintro _ w1 ⟨rfl, hg⟩
  have G := Lib.hid hg
  clear hg
  go_wp2_with fail
  go_ret
  exact ⟨rfl, G.out⟩
theorem splits_walk (ao : Option Addr) (cap x y : Nat) (l : List Du) (w : World) (hl : Lies w ao (cd l)) (hw : Wis l) :
    Calls Try.prog 5 #[.slice ao l.length cap, .int .u64 x, .int .u64 y] w fun e w' => e = .returned (.bool true) ∧ Grw w w' := by
  by_cases h60 : 60 < l.length
  · exact splits_long ao cap x y _ w h60
  · rcases Nat.lt_trichotomy x y with h | h | h
    · exact splits_lt ao cap x y l _ w hl hw rfl (by omega) h
    · exact splits_eq ao cap x y l _ w hl hw rfl (by omega) h
    · exact splits_gt ao cap x y l _ w hl hw rfl (by omega) h
end Go.Proofs.Ytjkhgpdhhnfmlaa
