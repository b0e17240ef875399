/- The contract of the document's Lex at this program (written by tools/gen_rlex.py). -/
import Derived.Test.YtiocnagbcbhggaaDoorWj
namespace Go.Proofs.YtiocnagbcbhggaaDoor
open Go.RowKit SM
set_option linter.unusedSimpArgs false
set_option linter.unusedVariables false

theorem lx_num (c : UInt8) (t : List UInt8) (h : isD c = true) : lx (c :: t) = if c = 48 ∧ (ds (c :: t)).length ≠ 1 then ([], 2) else if maxN < nval (ds (c :: t)) then ([], 3) else F [⟨1, nval (ds (c :: t))⟩] (lx (bh (c :: t))) := by
  obtain ⟨hl, h32⟩ := notL h
  have hn : nx (c :: t) = if c = 48 ∧ (ds (c :: t)).length ≠ 1 then .bad 2 else if maxN < nval (ds (c :: t)) then .bad 3 else .sg ⟨1, nval (ds (c :: t))⟩ (bh (c :: t)) := by
    simp only [nx, if_neg h32, hl, h, Bool.false_eq_true, if_false, if_true]
  split
  · next g => rw [if_pos g] at hn; exact lx_bad hn
  · next g =>
    rw [if_neg g] at hn
    split
    · next g2 => rw [if_pos g2] at hn; exact lx_bad hn
    · next g2 => rw [if_neg g2] at hn; exact lx_F hn

set_option maxHeartbeats 16000000 in
set_option maxRecDepth 100000 in
theorem rlex_short (s : ByteArray) (w : World) (hs : s.size ≤ 60) : Calls Tryd.prog 10 #[.string s] w (LexQ w s.data.toList) := by
  obtain ⟨i0, hi, hz0, hz1, hz2⟩ := info_parts Tryd.info35
  have HS : Hid (s.data.toList.length ≤ 60) := Lib.hid (by rw [← size_len]; exact hs)
  have hs' : ¬ (60 : Int) < s.size := by omega
  go_enter Tryd.func10, Tryd.ntmps10
  go_wp2_with fail
  go_loopw [4, 5] (fun v i wr => ∃ (p : Nat) (acc : List Sg) (V : Value), p ≤ s.size ∧ i = .int .i64 p ∧ V = v ∧ acc.length + (s.size - p) ≤ 60 ∧ lx s.data.toList = F acc (lx (s.data.toList.drop p)) ∧ wr.ownsRow w.heap.size 35 2 V acc.length (cz acc) ∧ Grw w wr) (fun _ i _ => s.size - (intOf i).toNat)
  case atStart => exact ⟨0, [], _, by omega, rfl, rfl, by simpa using hs, by rw [List.drop_zero, F_nil], World.ownsRow_nil _ _ _ _, Grw.rfl' _⟩
  case round =>
    obtain ⟨p, acc, V, hp, rfl, rfl, ha, hL, ho, hg⟩ := hrel
    have O := Lib.hid ho
    have G1 := Lib.hid hg
    have HA := Lib.hid ha
    clear ho hg ha
    by_cases hlt : p < s.size
    · have hpi : (p : Int) < (s.size : Int) := by omega
      have hdr := drop_at hlt
      obtain ⟨c, hc⟩ : ∃ c, s[p] = c := ⟨_, rfl⟩
      rw [hc] at hdr
      by_cases h32 : c = 32
      · subst h32
        have t1 : ((s[p].toNat : Int) == 32) = true := by rw [hc]; rfl
        have A := Lib.hid (show lx s.data.toList = F acc (lx (s.data.toList.drop (p + 1))) by rw [hL, hdr, lx_blank])
        clear hL hdr hc
        go_wp2_with fail
        go_roundw
        case rel => exact ⟨p + 1, acc, _, by omega, by go_num, rfl, by have := HA.out; omega, A.out, O.out, G1.out⟩
        case measure => simp [intOf]; omega
      · have t1 : ((s[p].toNat : Int) == 32) = false := by rw [hc, Bool.eq_false_iff]; intro e; exact h32 ((uni c 32).1 (eq_of_beq e))
        rcases hle : isL c with _ | _
        · have nl : ¬ (97 ≤ s[p].toNat ∧ s[p].toNat ≤ 122) := fun e => by rw [hc] at e; unfold isL at hle; simp at hle; omega
          rcases hd : isD c with _ | _
          · have nd : ¬ (48 ≤ s[p].toNat ∧ s[p].toNat ≤ 57) := fun e => by rw [hc] at e; rw [(isD_iff c).2 e] at hd; cases hd
            have hmk := lx_mark c (s.data.toList.drop (p + 1)) h32 hle hd
            rw [← hdr] at hmk
            have HL := Lib.hid (hL.trans (congrArg (F acc) hmk))
            have ways : (97 ≤ s[p].toNat ∧ ¬ s[p].toNat ≤ 122) ∨ (¬ 97 ≤ s[p].toNat ∧ 48 ≤ s[p].toNat ∧ ¬ s[p].toNat ≤ 57) ∨ (¬ 97 ≤ s[p].toNat ∧ ¬ 48 ≤ s[p].toNat) := by omega
            clear hmk hL hdr nl nd hc hle hd h32
            rcases ways with ⟨n1, n2⟩ | ⟨n1, n2, n3⟩ | ⟨n1, n2⟩
            · have m1 : decide ((97 : Int) ≤ (s[p].toNat : Int)) = true := decide_eq_true (by omega)
              have m2 : decide ((s[p].toNat : Int) ≤ 122) = false := decide_eq_false (by omega)
              have m3 : decide ((48 : Int) ≤ (s[p].toNat : Int)) = true := decide_eq_true (by omega)
              have m4 : decide ((s[p].toNat : Int) ≤ 57) = false := decide_eq_false (by omega)
              skip
              go_wp2_with fail
              go_loopw [9, 10] (fun f k wi => ∃ (m g : Nat), m ≤ 16 ∧ k = .int .i64 ((m + 3 : Nat) : Int) ∧ f = .int .i64 g ∧ Fnd s p m g ∧ wi.ownsRow w.heap.size 35 2 V acc.length (cz acc) ∧ Grw w wi) (fun _ k _ => 19 - (intOf k).toNat)
              case atStart => exact ⟨0, 0, by omega, rfl, rfl, rfl, O.out, G1.out⟩
              case round =>
                obtain ⟨m, g, hm, rfl, rfl, hf, ho, hg⟩ := hrel
                replace O := Lib.hid ho
                replace G1 := Lib.hid hg
                have HF := Lib.hid hf
                have hin := fnd_in hf hm
                clear ho hg hf
                by_cases hm16 : m < 16
                · obtain ⟨K, hK⟩ : ∃ K, m + 3 = K := ⟨_, rfl⟩
                  have hK3 : 3 ≤ K ∧ K ≤ 18 := by omega
                  have hKi : ((m + 3 : Nat) : Int) = (K : Int) := by omega
                  rw [hKi]
                  have hKl : (K : Int) ≤ 18 := by omega
                  have hKn : ((m + 1 + 3 : Nat) : Int) = (K : Int) + 1 := by omega
                  have OF := fun w => of_mb K hK3.1 hK3.2 w
                  have kz := (mk_len K).1
                  rw [← mb_size] at kz
                  have w1 : IntKind.i64.wrap ((s.size : Int) - (p : Int)) = ((s.size - p : Nat) : Int) := by simp only [IntKind.wrap_i64]; omega
                  have w2 : (s.size : Int) - (p : Int) = ((s.size - p : Nat) : Int) := by omega
                  by_cases fit : p + (mb K).size ≤ s.size
                  · have xl : (s.extract p (p + (mb K).size)).data.toList = (s.data.toList.drop p).take (mb K).size := by rw [Lib.extract_data]; congr 1; omega
                    obtain ⟨x, hx⟩ : ∃ x, s.extract p (p + (mb K).size) = x := ⟨_, rfl⟩
                    rw [hx] at xl
                    have tq := pk_cut hK3.1 hK3.2 fit xl
                    rcases hpk : pk (s.data.toList.drop p) K with _ | _
                    · have NF := Lib.hid (show Fnd s p (m + 1) g from fnd_next HF.out (by rw [hK]; exact f1_one _ g K hpk))
                      rw [hpk] at tq
                      generalize mb K = mm at *
                      replace OF := Lib.hid OF
                      clear xl hpk
                      go_wp2_with fail
                      refine (OF.out _).mono ?_
                      rintro _ w5 ⟨rfl, hw5⟩
                      replace O := Lib.hid (own_later O.out hw5)
                      replace G1 := Lib.hid (G1.out.trans hw5)
                      clear hw5 OF
                      have f1 : ((mm.size : Nat) : Int) ≤ ((s.size - p : Nat) : Int) := by omega
                      have f2 : mm.size ≤ s.size - p := by omega
                      go_wp2_with fail
                      go_roundw
                      case rel => exact ⟨m + 1, g, by omega, by rw [hKn], by first | rfl | go_num, NF.out, O.out, G1.out⟩
                      case measure => simp [intOf]; omega
                    · rw [hpk] at tq
                      by_cases g0 : g = 0
                      · subst g0
                        have NF := Lib.hid (show Fnd s p (m + 1) K from fnd_next HF.out (by rw [hK]; exact f1_two _ K hpk))
                        generalize mb K = mm at *
                        replace OF := Lib.hid OF
                        clear xl hpk
                        go_wp2_with fail
                        refine (OF.out _).mono ?_
                        rintro _ w5 ⟨rfl, hw5⟩
                        replace O := Lib.hid (own_later O.out hw5)
                        replace G1 := Lib.hid (G1.out.trans hw5)
                        clear hw5 OF
                        have f1 : ((mm.size : Nat) : Int) ≤ ((s.size - p : Nat) : Int) := by omega
                        have f2 : mm.size ≤ s.size - p := by omega
                        go_wp2_with fail
                        go_roundw
                        case rel => exact ⟨m + 1, K, by omega, by rw [hKn], by first | rfl | go_num, NF.out, O.out, G1.out⟩
                        case measure => simp [intOf]; omega
                      · have gin := hin.resolve_left g0
                        have gb : ((g : Int) == 0) = false := by simp; omega
                        have OG := fun w => of_mb g gin.1 gin.2 w
                        by_cases lg : (mb g).size < (mb K).size
                        · have NF := Lib.hid (show Fnd s p (m + 1) K from fnd_next HF.out (by rw [hK]; exact f1_gt _ g K gin hK3 hpk lg))
                          have lgd : decide (((mb g).size : Int) < ((mb K).size : Int)) = true := decide_eq_true (by omega)
                          generalize mb K = mm at *
                          generalize mb g = mg at *
                          replace OF := Lib.hid OF
                          replace OG := Lib.hid OG
                          clear xl hpk hin gin
                          go_wp2_with fail
                          refine (OF.out _).mono ?_
                          rintro _ w5 ⟨rfl, hw5⟩
                          replace O := Lib.hid (own_later O.out hw5)
                          replace G1 := Lib.hid (G1.out.trans hw5)
                          clear hw5 OF
                          have f1 : ((mm.size : Nat) : Int) ≤ ((s.size - p : Nat) : Int) := by omega
                          have f2 : mm.size ≤ s.size - p := by omega
                          go_wp2_with fail
                          refine (OG.out _).mono ?_
                          rintro _ w6 ⟨rfl, hw6⟩
                          replace O := Lib.hid (own_later O.out hw6)
                          replace G1 := Lib.hid (G1.out.trans hw6)
                          clear hw6 OG
                          go_wp2_with fail
                          go_roundw
                          case rel => exact ⟨m + 1, K, by omega, by rw [hKn], by first | rfl | go_num, NF.out, O.out, G1.out⟩
                          case measure => simp [intOf]; omega
                        · have NF := Lib.hid (show Fnd s p (m + 1) g from fnd_next HF.out (by rw [hK]; exact f1_le _ g K gin hK3 lg))
                          have lgd : decide (((mb g).size : Int) < ((mb K).size : Int)) = false := decide_eq_false (by omega)
                          generalize mb K = mm at *
                          generalize mb g = mg at *
                          replace OF := Lib.hid OF
                          replace OG := Lib.hid OG
                          clear xl hpk hin gin
                          go_wp2_with fail
                          refine (OF.out _).mono ?_
                          rintro _ w5 ⟨rfl, hw5⟩
                          replace O := Lib.hid (own_later O.out hw5)
                          replace G1 := Lib.hid (G1.out.trans hw5)
                          clear hw5 OF
                          have f1 : ((mm.size : Nat) : Int) ≤ ((s.size - p : Nat) : Int) := by omega
                          have f2 : mm.size ≤ s.size - p := by omega
                          go_wp2_with fail
                          refine (OG.out _).mono ?_
                          rintro _ w6 ⟨rfl, hw6⟩
                          replace O := Lib.hid (own_later O.out hw6)
                          replace G1 := Lib.hid (G1.out.trans hw6)
                          clear hw6 OG
                          go_wp2_with fail
                          go_roundw
                          case rel => exact ⟨m + 1, g, by omega, by rw [hKn], by first | rfl | go_num, NF.out, O.out, G1.out⟩
                          case measure => simp [intOf]; omega
                  · have NF := Lib.hid (show Fnd s p (m + 1) g from fnd_next HF.out (by rw [hK]; exact f1_one _ g K (pk_short hK3.1 hK3.2 hp fit)))
                    generalize mb K = mm at *
                    replace OF := Lib.hid OF
                    go_wp2_with fail
                    refine (OF.out _).mono ?_
                    rintro _ w5 ⟨rfl, hw5⟩
                    replace O := Lib.hid (own_later O.out hw5)
                    replace G1 := Lib.hid (G1.out.trans hw5)
                    clear hw5 OF
                    have f1 : ¬ ((mm.size : Nat) : Int) ≤ ((s.size - p : Nat) : Int) := by omega
                    have f2 : ¬ mm.size ≤ s.size - p := by omega
                    have f3 : decide (((mm.size : Nat) : Int) ≤ ((s.size - p : Nat) : Int)) = false := decide_eq_false f1
                    go_wp2_with fail
                    go_roundw
                    case rel => exact ⟨m + 1, g, by omega, by rw [hKn], by first | rfl | go_num, NF.out, O.out, G1.out⟩
                    case measure => simp [intOf]; omega
                · obtain rfl : m = 16 := by omega
                  have go' : g = op (s.data.toList.drop p) := by have := HF.out; unfold Fnd at this; rw [this, fs_is]
                  by_cases g0 : g = 0
                  · have A := Lib.hid (show lx s.data.toList = ([], 2) by rw [HL.out, ← go', if_pos g0, F_err _ _ _ (by decide)])
                    subst g0
                    clear go' HF
                    go_wp2_with fail
                    go_ret2
                    exact lexQ_err HS.out A.out G1.out
                  · have gin := hin.resolve_left g0
                    have gb : ((g : Int) == 0) = false := by simp; omega
                    have kpre := op_pre (s.data.toList.drop p) (by rw [← go']; exact g0)
                    rw [← go'] at kpre
                    have OG := fun w => of_mb g gin.1 gin.2 w
                    have hsz : p + (mb g).size ≤ s.size ∧ 1 ≤ (mb g).size := by
                      have h1 := kpre.1
                      rw [List.length_drop, ← size_len] at h1
                      rw [mb_size]
                      have := kpre.2.2
                      omega
                    have A := Lib.hid (show lx s.data.toList = F (acc ++ [⟨g, 0⟩]) (lx (s.data.toList.drop (p + (mb g).size))) by rw [HL.out, ← go', if_neg g0, F_F, mb_size, kpre.2.1, List.drop_drop])
                    generalize mb g = mg at *
                    replace OG := Lib.hid OG
                    obtain ⟨h1, h2⟩ := hsz
                    clear go' HF kpre hin gin
                    have O3 := Lib.hid (World.ownsRow.alloc O.out (.cells #[.int .i64 ((g : Nat) : Int), .int .i64 ((0 : Nat) : Int)] 35))
                    have D1 := Lib.hid (one_sg wr g 0)
                    have D2 := Lib.hid (cz_one [⟨g, 0⟩])
                    have GB := Lib.hid (Below.size G1.out)
                    go_wp2_with (at_builtin; refine wpList_append_own _ rfl _ _ 22 rfl w.heap.size 35 i0 _ 2 16 Tryd.underlying22 hi hz0 hz1 hz2 rfl (by decide) _ _ _ rfl O3.out ⟨wr.heap.size, 0, none⟩ 1 1 (cz [⟨g, 0⟩]) rfl rfl (by simpa using D1.out) D2.out (by have := HA.out; unfold maxLen; omega) (by have := HA.out; omega) (by have := GB.out; simp only [size_new]; omega) ?_)
                    intro v' w4 hown' hgrow _
                    have hown2 : w4.ownsRow w.heap.size 35 2 v' (acc ++ [⟨g, 0⟩] : List Sg).length (cz (acc ++ [⟨g, 0⟩])) := by rw [cz_app, List.length_append]; exact hown'
                    have G4 := Lib.hid (grown_own O3.out (G1.out.alloc (.cells #[.int .i64 ((g : Nat) : Int), .int .i64 ((0 : Nat) : Int)] 35)) hgrow)
                    have O4 := Lib.hid hown2
                    clear hown' hgrow hown2 O3 D1 D2 GB
                    go_wp2_with fail
                    refine (OG.out _).mono ?_
                    rintro _ w6 ⟨rfl, hw6⟩
                    replace O4 := Lib.hid (own_later O4.out hw6)
                    replace G4 := Lib.hid (G4.out.trans hw6)
                    clear hw6 OG
                    go_wp2_with fail
                    go_roundw
                    case rel => exact ⟨p + mg.size, acc ++ [⟨g, 0⟩], _, by omega, by go_num, rfl, by have := HA.out; simp only [List.length_append, List.length_cons, List.length_nil]; omega, A.out, O4.out, G4.out⟩
                    case measure => simp [intOf]; omega
            · have m1 : decide ((97 : Int) ≤ (s[p].toNat : Int)) = false := decide_eq_false (by omega)
              have m3 : decide ((48 : Int) ≤ (s[p].toNat : Int)) = true := decide_eq_true (by omega)
              have m4 : decide ((s[p].toNat : Int) ≤ 57) = false := decide_eq_false (by omega)
              skip
              go_wp2_with fail
              go_loopw [9, 10] (fun f k wi => ∃ (m g : Nat), m ≤ 16 ∧ k = .int .i64 ((m + 3 : Nat) : Int) ∧ f = .int .i64 g ∧ Fnd s p m g ∧ wi.ownsRow w.heap.size 35 2 V acc.length (cz acc) ∧ Grw w wi) (fun _ k _ => 19 - (intOf k).toNat)
              case atStart => exact ⟨0, 0, by omega, rfl, rfl, rfl, O.out, G1.out⟩
              case round =>
                obtain ⟨m, g, hm, rfl, rfl, hf, ho, hg⟩ := hrel
                replace O := Lib.hid ho
                replace G1 := Lib.hid hg
                have HF := Lib.hid hf
                have hin := fnd_in hf hm
                clear ho hg hf
                by_cases hm16 : m < 16
                · obtain ⟨K, hK⟩ : ∃ K, m + 3 = K := ⟨_, rfl⟩
                  have hK3 : 3 ≤ K ∧ K ≤ 18 := by omega
                  have hKi : ((m + 3 : Nat) : Int) = (K : Int) := by omega
                  rw [hKi]
                  have hKl : (K : Int) ≤ 18 := by omega
                  have hKn : ((m + 1 + 3 : Nat) : Int) = (K : Int) + 1 := by omega
                  have OF := fun w => of_mb K hK3.1 hK3.2 w
                  have kz := (mk_len K).1
                  rw [← mb_size] at kz
                  have w1 : IntKind.i64.wrap ((s.size : Int) - (p : Int)) = ((s.size - p : Nat) : Int) := by simp only [IntKind.wrap_i64]; omega
                  have w2 : (s.size : Int) - (p : Int) = ((s.size - p : Nat) : Int) := by omega
                  by_cases fit : p + (mb K).size ≤ s.size
                  · have xl : (s.extract p (p + (mb K).size)).data.toList = (s.data.toList.drop p).take (mb K).size := by rw [Lib.extract_data]; congr 1; omega
                    obtain ⟨x, hx⟩ : ∃ x, s.extract p (p + (mb K).size) = x := ⟨_, rfl⟩
                    rw [hx] at xl
                    have tq := pk_cut hK3.1 hK3.2 fit xl
                    rcases hpk : pk (s.data.toList.drop p) K with _ | _
                    · have NF := Lib.hid (show Fnd s p (m + 1) g from fnd_next HF.out (by rw [hK]; exact f1_one _ g K hpk))
                      rw [hpk] at tq
                      generalize mb K = mm at *
                      replace OF := Lib.hid OF
                      clear xl hpk
                      go_wp2_with fail
                      refine (OF.out _).mono ?_
                      rintro _ w5 ⟨rfl, hw5⟩
                      replace O := Lib.hid (own_later O.out hw5)
                      replace G1 := Lib.hid (G1.out.trans hw5)
                      clear hw5 OF
                      have f1 : ((mm.size : Nat) : Int) ≤ ((s.size - p : Nat) : Int) := by omega
                      have f2 : mm.size ≤ s.size - p := by omega
                      go_wp2_with fail
                      go_roundw
                      case rel => exact ⟨m + 1, g, by omega, by rw [hKn], by first | rfl | go_num, NF.out, O.out, G1.out⟩
                      case measure => simp [intOf]; omega
                    · rw [hpk] at tq
                      by_cases g0 : g = 0
                      · subst g0
                        have NF := Lib.hid (show Fnd s p (m + 1) K from fnd_next HF.out (by rw [hK]; exact f1_two _ K hpk))
                        generalize mb K = mm at *
                        replace OF := Lib.hid OF
                        clear xl hpk
                        go_wp2_with fail
                        refine (OF.out _).mono ?_
                        rintro _ w5 ⟨rfl, hw5⟩
                        replace O := Lib.hid (own_later O.out hw5)
                        replace G1 := Lib.hid (G1.out.trans hw5)
                        clear hw5 OF
                        have f1 : ((mm.size : Nat) : Int) ≤ ((s.size - p : Nat) : Int) := by omega
                        have f2 : mm.size ≤ s.size - p := by omega
                        go_wp2_with fail
                        go_roundw
                        case rel => exact ⟨m + 1, K, by omega, by rw [hKn], by first | rfl | go_num, NF.out, O.out, G1.out⟩
                        case measure => simp [intOf]; omega
                      · have gin := hin.resolve_left g0
                        have gb : ((g : Int) == 0) = false := by simp; omega
                        have OG := fun w => of_mb g gin.1 gin.2 w
                        by_cases lg : (mb g).size < (mb K).size
                        · have NF := Lib.hid (show Fnd s p (m + 1) K from fnd_next HF.out (by rw [hK]; exact f1_gt _ g K gin hK3 hpk lg))
                          have lgd : decide (((mb g).size : Int) < ((mb K).size : Int)) = true := decide_eq_true (by omega)
                          generalize mb K = mm at *
                          generalize mb g = mg at *
                          replace OF := Lib.hid OF
                          replace OG := Lib.hid OG
                          clear xl hpk hin gin
                          go_wp2_with fail
                          refine (OF.out _).mono ?_
                          rintro _ w5 ⟨rfl, hw5⟩
                          replace O := Lib.hid (own_later O.out hw5)
                          replace G1 := Lib.hid (G1.out.trans hw5)
                          clear hw5 OF
                          have f1 : ((mm.size : Nat) : Int) ≤ ((s.size - p : Nat) : Int) := by omega
                          have f2 : mm.size ≤ s.size - p := by omega
                          go_wp2_with fail
                          refine (OG.out _).mono ?_
                          rintro _ w6 ⟨rfl, hw6⟩
                          replace O := Lib.hid (own_later O.out hw6)
                          replace G1 := Lib.hid (G1.out.trans hw6)
                          clear hw6 OG
                          go_wp2_with fail
                          go_roundw
                          case rel => exact ⟨m + 1, K, by omega, by rw [hKn], by first | rfl | go_num, NF.out, O.out, G1.out⟩
                          case measure => simp [intOf]; omega
                        · have NF := Lib.hid (show Fnd s p (m + 1) g from fnd_next HF.out (by rw [hK]; exact f1_le _ g K gin hK3 lg))
                          have lgd : decide (((mb g).size : Int) < ((mb K).size : Int)) = false := decide_eq_false (by omega)
                          generalize mb K = mm at *
                          generalize mb g = mg at *
                          replace OF := Lib.hid OF
                          replace OG := Lib.hid OG
                          clear xl hpk hin gin
                          go_wp2_with fail
                          refine (OF.out _).mono ?_
                          rintro _ w5 ⟨rfl, hw5⟩
                          replace O := Lib.hid (own_later O.out hw5)
                          replace G1 := Lib.hid (G1.out.trans hw5)
                          clear hw5 OF
                          have f1 : ((mm.size : Nat) : Int) ≤ ((s.size - p : Nat) : Int) := by omega
                          have f2 : mm.size ≤ s.size - p := by omega
                          go_wp2_with fail
                          refine (OG.out _).mono ?_
                          rintro _ w6 ⟨rfl, hw6⟩
                          replace O := Lib.hid (own_later O.out hw6)
                          replace G1 := Lib.hid (G1.out.trans hw6)
                          clear hw6 OG
                          go_wp2_with fail
                          go_roundw
                          case rel => exact ⟨m + 1, g, by omega, by rw [hKn], by first | rfl | go_num, NF.out, O.out, G1.out⟩
                          case measure => simp [intOf]; omega
                  · have NF := Lib.hid (show Fnd s p (m + 1) g from fnd_next HF.out (by rw [hK]; exact f1_one _ g K (pk_short hK3.1 hK3.2 hp fit)))
                    generalize mb K = mm at *
                    replace OF := Lib.hid OF
                    go_wp2_with fail
                    refine (OF.out _).mono ?_
                    rintro _ w5 ⟨rfl, hw5⟩
                    replace O := Lib.hid (own_later O.out hw5)
                    replace G1 := Lib.hid (G1.out.trans hw5)
                    clear hw5 OF
                    have f1 : ¬ ((mm.size : Nat) : Int) ≤ ((s.size - p : Nat) : Int) := by omega
                    have f2 : ¬ mm.size ≤ s.size - p := by omega
                    have f3 : decide (((mm.size : Nat) : Int) ≤ ((s.size - p : Nat) : Int)) = false := decide_eq_false f1
                    go_wp2_with fail
                    go_roundw
                    case rel => exact ⟨m + 1, g, by omega, by rw [hKn], by first | rfl | go_num, NF.out, O.out, G1.out⟩
                    case measure => simp [intOf]; omega
                · obtain rfl : m = 16 := by omega
                  have go' : g = op (s.data.toList.drop p) := by have := HF.out; unfold Fnd at this; rw [this, fs_is]
                  by_cases g0 : g = 0
                  · have A := Lib.hid (show lx s.data.toList = ([], 2) by rw [HL.out, ← go', if_pos g0, F_err _ _ _ (by decide)])
                    subst g0
                    clear go' HF
                    go_wp2_with fail
                    go_ret2
                    exact lexQ_err HS.out A.out G1.out
                  · have gin := hin.resolve_left g0
                    have gb : ((g : Int) == 0) = false := by simp; omega
                    have kpre := op_pre (s.data.toList.drop p) (by rw [← go']; exact g0)
                    rw [← go'] at kpre
                    have OG := fun w => of_mb g gin.1 gin.2 w
                    have hsz : p + (mb g).size ≤ s.size ∧ 1 ≤ (mb g).size := by
                      have h1 := kpre.1
                      rw [List.length_drop, ← size_len] at h1
                      rw [mb_size]
                      have := kpre.2.2
                      omega
                    have A := Lib.hid (show lx s.data.toList = F (acc ++ [⟨g, 0⟩]) (lx (s.data.toList.drop (p + (mb g).size))) by rw [HL.out, ← go', if_neg g0, F_F, mb_size, kpre.2.1, List.drop_drop])
                    generalize mb g = mg at *
                    replace OG := Lib.hid OG
                    obtain ⟨h1, h2⟩ := hsz
                    clear go' HF kpre hin gin
                    have O3 := Lib.hid (World.ownsRow.alloc O.out (.cells #[.int .i64 ((g : Nat) : Int), .int .i64 ((0 : Nat) : Int)] 35))
                    have D1 := Lib.hid (one_sg wr g 0)
                    have D2 := Lib.hid (cz_one [⟨g, 0⟩])
                    have GB := Lib.hid (Below.size G1.out)
                    go_wp2_with (at_builtin; refine wpList_append_own _ rfl _ _ 22 rfl w.heap.size 35 i0 _ 2 16 Tryd.underlying22 hi hz0 hz1 hz2 rfl (by decide) _ _ _ rfl O3.out ⟨wr.heap.size, 0, none⟩ 1 1 (cz [⟨g, 0⟩]) rfl rfl (by simpa using D1.out) D2.out (by have := HA.out; unfold maxLen; omega) (by have := HA.out; omega) (by have := GB.out; simp only [size_new]; omega) ?_)
                    intro v' w4 hown' hgrow _
                    have hown2 : w4.ownsRow w.heap.size 35 2 v' (acc ++ [⟨g, 0⟩] : List Sg).length (cz (acc ++ [⟨g, 0⟩])) := by rw [cz_app, List.length_append]; exact hown'
                    have G4 := Lib.hid (grown_own O3.out (G1.out.alloc (.cells #[.int .i64 ((g : Nat) : Int), .int .i64 ((0 : Nat) : Int)] 35)) hgrow)
                    have O4 := Lib.hid hown2
                    clear hown' hgrow hown2 O3 D1 D2 GB
                    go_wp2_with fail
                    refine (OG.out _).mono ?_
                    rintro _ w6 ⟨rfl, hw6⟩
                    replace O4 := Lib.hid (own_later O4.out hw6)
                    replace G4 := Lib.hid (G4.out.trans hw6)
                    clear hw6 OG
                    go_wp2_with fail
                    go_roundw
                    case rel => exact ⟨p + mg.size, acc ++ [⟨g, 0⟩], _, by omega, by go_num, rfl, by have := HA.out; simp only [List.length_append, List.length_cons, List.length_nil]; omega, A.out, O4.out, G4.out⟩
                    case measure => simp [intOf]; omega
            · have m1 : decide ((97 : Int) ≤ (s[p].toNat : Int)) = false := decide_eq_false (by omega)
              have m3 : decide ((48 : Int) ≤ (s[p].toNat : Int)) = false := decide_eq_false (by omega)
              skip
              go_wp2_with fail
              go_loopw [9, 10] (fun f k wi => ∃ (m g : Nat), m ≤ 16 ∧ k = .int .i64 ((m + 3 : Nat) : Int) ∧ f = .int .i64 g ∧ Fnd s p m g ∧ wi.ownsRow w.heap.size 35 2 V acc.length (cz acc) ∧ Grw w wi) (fun _ k _ => 19 - (intOf k).toNat)
              case atStart => exact ⟨0, 0, by omega, rfl, rfl, rfl, O.out, G1.out⟩
              case round =>
                obtain ⟨m, g, hm, rfl, rfl, hf, ho, hg⟩ := hrel
                replace O := Lib.hid ho
                replace G1 := Lib.hid hg
                have HF := Lib.hid hf
                have hin := fnd_in hf hm
                clear ho hg hf
                by_cases hm16 : m < 16
                · obtain ⟨K, hK⟩ : ∃ K, m + 3 = K := ⟨_, rfl⟩
                  have hK3 : 3 ≤ K ∧ K ≤ 18 := by omega
                  have hKi : ((m + 3 : Nat) : Int) = (K : Int) := by omega
                  rw [hKi]
                  have hKl : (K : Int) ≤ 18 := by omega
                  have hKn : ((m + 1 + 3 : Nat) : Int) = (K : Int) + 1 := by omega
                  have OF := fun w => of_mb K hK3.1 hK3.2 w
                  have kz := (mk_len K).1
                  rw [← mb_size] at kz
                  have w1 : IntKind.i64.wrap ((s.size : Int) - (p : Int)) = ((s.size - p : Nat) : Int) := by simp only [IntKind.wrap_i64]; omega
                  have w2 : (s.size : Int) - (p : Int) = ((s.size - p : Nat) : Int) := by omega
                  by_cases fit : p + (mb K).size ≤ s.size
                  · have xl : (s.extract p (p + (mb K).size)).data.toList = (s.data.toList.drop p).take (mb K).size := by rw [Lib.extract_data]; congr 1; omega
                    obtain ⟨x, hx⟩ : ∃ x, s.extract p (p + (mb K).size) = x := ⟨_, rfl⟩
                    rw [hx] at xl
                    have tq := pk_cut hK3.1 hK3.2 fit xl
                    rcases hpk : pk (s.data.toList.drop p) K with _ | _
                    · have NF := Lib.hid (show Fnd s p (m + 1) g from fnd_next HF.out (by rw [hK]; exact f1_one _ g K hpk))
                      rw [hpk] at tq
                      generalize mb K = mm at *
                      replace OF := Lib.hid OF
                      clear xl hpk
                      go_wp2_with fail
                      refine (OF.out _).mono ?_
                      rintro _ w5 ⟨rfl, hw5⟩
                      replace O := Lib.hid (own_later O.out hw5)
                      replace G1 := Lib.hid (G1.out.trans hw5)
                      clear hw5 OF
                      have f1 : ((mm.size : Nat) : Int) ≤ ((s.size - p : Nat) : Int) := by omega
                      have f2 : mm.size ≤ s.size - p := by omega
                      go_wp2_with fail
                      go_roundw
                      case rel => exact ⟨m + 1, g, by omega, by rw [hKn], by first | rfl | go_num, NF.out, O.out, G1.out⟩
                      case measure => simp [intOf]; omega
                    · rw [hpk] at tq
                      by_cases g0 : g = 0
                      · subst g0
                        have NF := Lib.hid (show Fnd s p (m + 1) K from fnd_next HF.out (by rw [hK]; exact f1_two _ K hpk))
                        generalize mb K = mm at *
                        replace OF := Lib.hid OF
                        clear xl hpk
                        go_wp2_with fail
                        refine (OF.out _).mono ?_
                        rintro _ w5 ⟨rfl, hw5⟩
                        replace O := Lib.hid (own_later O.out hw5)
                        replace G1 := Lib.hid (G1.out.trans hw5)
                        clear hw5 OF
                        have f1 : ((mm.size : Nat) : Int) ≤ ((s.size - p : Nat) : Int) := by omega
                        have f2 : mm.size ≤ s.size - p := by omega
                        go_wp2_with fail
                        go_roundw
                        case rel => exact ⟨m + 1, K, by omega, by rw [hKn], by first | rfl | go_num, NF.out, O.out, G1.out⟩
                        case measure => simp [intOf]; omega
                      · have gin := hin.resolve_left g0
                        have gb : ((g : Int) == 0) = false := by simp; omega
                        have OG := fun w => of_mb g gin.1 gin.2 w
                        by_cases lg : (mb g).size < (mb K).size
                        · have NF := Lib.hid (show Fnd s p (m + 1) K from fnd_next HF.out (by rw [hK]; exact f1_gt _ g K gin hK3 hpk lg))
                          have lgd : decide (((mb g).size : Int) < ((mb K).size : Int)) = true := decide_eq_true (by omega)
                          generalize mb K = mm at *
                          generalize mb g = mg at *
                          replace OF := Lib.hid OF
                          replace OG := Lib.hid OG
                          clear xl hpk hin gin
                          go_wp2_with fail
                          refine (OF.out _).mono ?_
                          rintro _ w5 ⟨rfl, hw5⟩
                          replace O := Lib.hid (own_later O.out hw5)
                          replace G1 := Lib.hid (G1.out.trans hw5)
                          clear hw5 OF
                          have f1 : ((mm.size : Nat) : Int) ≤ ((s.size - p : Nat) : Int) := by omega
                          have f2 : mm.size ≤ s.size - p := by omega
                          go_wp2_with fail
                          refine (OG.out _).mono ?_
                          rintro _ w6 ⟨rfl, hw6⟩
                          replace O := Lib.hid (own_later O.out hw6)
                          replace G1 := Lib.hid (G1.out.trans hw6)
                          clear hw6 OG
                          go_wp2_with fail
                          go_roundw
                          case rel => exact ⟨m + 1, K, by omega, by rw [hKn], by first | rfl | go_num, NF.out, O.out, G1.out⟩
                          case measure => simp [intOf]; omega
                        · have NF := Lib.hid (show Fnd s p (m + 1) g from fnd_next HF.out (by rw [hK]; exact f1_le _ g K gin hK3 lg))
                          have lgd : decide (((mb g).size : Int) < ((mb K).size : Int)) = false := decide_eq_false (by omega)
                          generalize mb K = mm at *
                          generalize mb g = mg at *
                          replace OF := Lib.hid OF
                          replace OG := Lib.hid OG
                          clear xl hpk hin gin
                          go_wp2_with fail
                          refine (OF.out _).mono ?_
                          rintro _ w5 ⟨rfl, hw5⟩
                          replace O := Lib.hid (own_later O.out hw5)
                          replace G1 := Lib.hid (G1.out.trans hw5)
                          clear hw5 OF
                          have f1 : ((mm.size : Nat) : Int) ≤ ((s.size - p : Nat) : Int) := by omega
                          have f2 : mm.size ≤ s.size - p := by omega
                          go_wp2_with fail
                          refine (OG.out _).mono ?_
                          rintro _ w6 ⟨rfl, hw6⟩
                          replace O := Lib.hid (own_later O.out hw6)
                          replace G1 := Lib.hid (G1.out.trans hw6)
                          clear hw6 OG
                          go_wp2_with fail
                          go_roundw
                          case rel => exact ⟨m + 1, g, by omega, by rw [hKn], by first | rfl | go_num, NF.out, O.out, G1.out⟩
                          case measure => simp [intOf]; omega
                  · have NF := Lib.hid (show Fnd s p (m + 1) g from fnd_next HF.out (by rw [hK]; exact f1_one _ g K (pk_short hK3.1 hK3.2 hp fit)))
                    generalize mb K = mm at *
                    replace OF := Lib.hid OF
                    go_wp2_with fail
                    refine (OF.out _).mono ?_
                    rintro _ w5 ⟨rfl, hw5⟩
                    replace O := Lib.hid (own_later O.out hw5)
                    replace G1 := Lib.hid (G1.out.trans hw5)
                    clear hw5 OF
                    have f1 : ¬ ((mm.size : Nat) : Int) ≤ ((s.size - p : Nat) : Int) := by omega
                    have f2 : ¬ mm.size ≤ s.size - p := by omega
                    have f3 : decide (((mm.size : Nat) : Int) ≤ ((s.size - p : Nat) : Int)) = false := decide_eq_false f1
                    go_wp2_with fail
                    go_roundw
                    case rel => exact ⟨m + 1, g, by omega, by rw [hKn], by first | rfl | go_num, NF.out, O.out, G1.out⟩
                    case measure => simp [intOf]; omega
                · obtain rfl : m = 16 := by omega
                  have go' : g = op (s.data.toList.drop p) := by have := HF.out; unfold Fnd at this; rw [this, fs_is]
                  by_cases g0 : g = 0
                  · have A := Lib.hid (show lx s.data.toList = ([], 2) by rw [HL.out, ← go', if_pos g0, F_err _ _ _ (by decide)])
                    subst g0
                    clear go' HF
                    go_wp2_with fail
                    go_ret2
                    exact lexQ_err HS.out A.out G1.out
                  · have gin := hin.resolve_left g0
                    have gb : ((g : Int) == 0) = false := by simp; omega
                    have kpre := op_pre (s.data.toList.drop p) (by rw [← go']; exact g0)
                    rw [← go'] at kpre
                    have OG := fun w => of_mb g gin.1 gin.2 w
                    have hsz : p + (mb g).size ≤ s.size ∧ 1 ≤ (mb g).size := by
                      have h1 := kpre.1
                      rw [List.length_drop, ← size_len] at h1
                      rw [mb_size]
                      have := kpre.2.2
                      omega
                    have A := Lib.hid (show lx s.data.toList = F (acc ++ [⟨g, 0⟩]) (lx (s.data.toList.drop (p + (mb g).size))) by rw [HL.out, ← go', if_neg g0, F_F, mb_size, kpre.2.1, List.drop_drop])
                    generalize mb g = mg at *
                    replace OG := Lib.hid OG
                    obtain ⟨h1, h2⟩ := hsz
                    clear go' HF kpre hin gin
                    have O3 := Lib.hid (World.ownsRow.alloc O.out (.cells #[.int .i64 ((g : Nat) : Int), .int .i64 ((0 : Nat) : Int)] 35))
                    have D1 := Lib.hid (one_sg wr g 0)
                    have D2 := Lib.hid (cz_one [⟨g, 0⟩])
                    have GB := Lib.hid (Below.size G1.out)
                    go_wp2_with (at_builtin; refine wpList_append_own _ rfl _ _ 22 rfl w.heap.size 35 i0 _ 2 16 Tryd.underlying22 hi hz0 hz1 hz2 rfl (by decide) _ _ _ rfl O3.out ⟨wr.heap.size, 0, none⟩ 1 1 (cz [⟨g, 0⟩]) rfl rfl (by simpa using D1.out) D2.out (by have := HA.out; unfold maxLen; omega) (by have := HA.out; omega) (by have := GB.out; simp only [size_new]; omega) ?_)
                    intro v' w4 hown' hgrow _
                    have hown2 : w4.ownsRow w.heap.size 35 2 v' (acc ++ [⟨g, 0⟩] : List Sg).length (cz (acc ++ [⟨g, 0⟩])) := by rw [cz_app, List.length_append]; exact hown'
                    have G4 := Lib.hid (grown_own O3.out (G1.out.alloc (.cells #[.int .i64 ((g : Nat) : Int), .int .i64 ((0 : Nat) : Int)] 35)) hgrow)
                    have O4 := Lib.hid hown2
                    clear hown' hgrow hown2 O3 D1 D2 GB
                    go_wp2_with fail
                    refine (OG.out _).mono ?_
                    rintro _ w6 ⟨rfl, hw6⟩
                    replace O4 := Lib.hid (own_later O4.out hw6)
                    replace G4 := Lib.hid (G4.out.trans hw6)
                    clear hw6 OG
                    go_wp2_with fail
                    go_roundw
                    case rel => exact ⟨p + mg.size, acc ++ [⟨g, 0⟩], _, by omega, by go_num, rfl, by have := HA.out; simp only [List.length_append, List.length_cons, List.length_nil]; omega, A.out, O4.out, G4.out⟩
                    case measure => simp [intOf]; omega
          · have dd := (isD_iff c).1 hd
            rw [← hc] at dd
            have n1 : decide ((97 : Int) ≤ (s[p].toNat : Int)) = false := decide_eq_false (by omega)
            have n3 : decide ((48 : Int) ≤ (s[p].toNat : Int)) = true := decide_eq_true (by omega)
            have n4 : decide ((s[p].toNat : Int) ≤ 57) = true := decide_eq_true (by omega)
            have hmk := lx_num c (s.data.toList.drop (p + 1)) hd
            rw [← hdr, bh_drop, List.drop_drop] at hmk
            have HD := Lib.hid (fun j (h : j < (ds (s.data.toList.drop p)).length) => ds_at h)
            have HST := Lib.hid (ds_stop (s := s) (p := p) hp)
            have hpos : 1 ≤ (ds (s.data.toList.drop p)).length := by
              have : ds (s.data.toList.drop p) = c :: ds (s.data.toList.drop (p + 1)) := by rw [hdr]; unfold ds; rw [List.takeWhile_cons_of_pos hd]
              rw [this]; simp
            have hdl := ds_le (s.data.toList.drop p)
            rw [List.length_drop, ← size_len] at hdl
            have HL := Lib.hid (hL.trans (congrArg (F acc) hmk))
            have c48 : ((s[p].toNat : Int) == 48) = decide (c = 48) := by
              rw [hc, Bool.eq_iff_iff, beq_iff_eq, decide_eq_true_eq]; exact uni c 48
            clear hmk hL hdr nl hc hle hd dd
            obtain ⟨D, hD⟩ : ∃ D, ds (s.data.toList.drop p) = D := ⟨_, rfl⟩
            obtain ⟨dl, hdl'⟩ : ∃ dl, D.length = dl := ⟨_, rfl⟩
            rw [hD] at hpos hdl
            rw [hdl'] at hpos hdl
            have HDE := Lib.hid hD
            have HDL := Lib.hid hdl'
            clear hD hdl'
            go_wp2_with fail
            go_loopw [7, 8] (fun kv nv wi => ∃ j : Nat, j ≤ dl ∧ kv = .int .i64 ((p + j : Nat) : Int) ∧ nv = .int .i64 ((SM.sat (maxN + 1) (D.take j) : Nat) : Int) ∧ wi.ownsRow w.heap.size 35 2 V acc.length (cz acc) ∧ Grw w wi) (fun kv _ _ => s.size - (intOf kv).toNat)
            case atStart => exact ⟨0, by omega, rfl, rfl, O.out, G1.out⟩
            case round =>
              obtain ⟨j, hj, rfl, rfl, ho, hg⟩ := hrel
              replace O := Lib.hid ho
              replace G1 := Lib.hid hg
              clear ho hg
              by_cases hjl : j < dl
              · have hjD : j < D.length := by rw [HDL.out]; exact hjl
                obtain ⟨h2, e1, e2⟩ := HD.out j (by rw [HDE.out]; exact hjD)
                have hdd := (isD_iff _).1 e2
                have hst := sat_take (maxN + 1) D j hjD
                have eD : D[j] = s[p + j] := by rw [← e1]; congr 1; exact HDE.out.symm
                rw [eD] at hst
                have hlim := sat_lim (maxN + 1) (D.take j)
                obtain ⟨x, hx⟩ : ∃ x, SM.sat (maxN + 1) (D.take j) = x := ⟨_, rfl⟩
                rw [hx] at hst hlim
                rw [hx]
                obtain ⟨q, hq⟩ : ∃ q, p + j = q := ⟨_, rfl⟩
                have hq1 : ((p + j : Nat) : Int) = (q : Int) := by omega
                have hq2 : ((p + (j + 1) : Nat) : Int) = (q : Int) + 1 := by omega
                rw [hq1]
                have hqs : q < s.size := by omega
                have eq1 : s[p + j] = s[q] := by congr 1
                rw [eq1] at hdd hst
                obtain ⟨y, hy⟩ : ∃ y, SM.sat (maxN + 1) (D.take (j + 1)) = y := ⟨_, rfl⟩
                rw [hy] at hst
                have HY := Lib.hid hy
                have hqi : (q : Int) < (s.size : Int) := by omega
                have m3 : decide ((48 : Int) ≤ (s[q].toNat : Int)) = true := decide_eq_true (by omega)
                have m4 : decide ((s[q].toNat : Int) ≤ 57) = true := decide_eq_true (by omega)
                have E5 : Hid (min (10 * (x : Int) + ((s[q].toNat : Int) - 48) % 256) 2147483648 = (y : Int)) := Lib.hid (by rw [hst]; unfold maxN; omega)
                have E6 : Hid (min (10 * (x : Int) + ((s[q].toNat : Int) - 48)) 2147483648 = (y : Int)) := Lib.hid (by rw [hst]; unfold maxN; omega)
                have hxl : x ≤ 2147483648 := hlim
                clear hst hy e1 e2 hx hlim eD eq1 h2
                go_wp2_with fail
                go_roundw
                case rel => exact ⟨j + 1, by omega, by rw [hq2], by first | (rw [HY.out, ← E6.out]; done) | (rw [HY.out, ← E5.out]; done), O.out, G1.out⟩
                case measure => simp [intOf]; omega
              · obtain rfl : j = dl := by omega
                have htk : D.take j = D := List.take_of_length_le (by rw [HDL.out]; exact Nat.le_refl _)
                rw [htk]
                obtain ⟨q, hq⟩ : ∃ q, p + j = q := ⟨_, rfl⟩
                have hq1 : ((p + j : Nat) : Int) = (q : Int) := by omega
                rw [hq1]
                have stop : ¬ q < s.size ∨ (∃ h : q < s.size, ¬ 48 ≤ s[q].toNat) ∨ (∃ h : q < s.size, 48 ≤ s[q].toNat ∧ ¬ s[q].toNat ≤ 57) := by
                  by_cases hqs : q < s.size
                  · right
                    have hh := HST.out
                    rw [HDE.out, HDL.out, hq] at hh
                    have h3 := hh hqs
                    by_cases h4 : 48 ≤ s[q].toNat
                    · right
                      refine ⟨hqs, h4, fun h5 => ?_⟩
                      rw [(isD_iff _).2 ⟨h4, h5⟩] at h3
                      cases h3
                    · exact Or.inl ⟨hqs, h4⟩
                  · exact Or.inl hqs
                have hll := HL.out
                rw [HDE.out, HDL.out, hq] at hll
                have hso := sat_over D
                obtain ⟨x, hx⟩ : ∃ x, SM.sat (maxN + 1) D = x := ⟨_, rfl⟩
                rw [hx] at hso
                rw [hx]
                clear HL HD HST htk hx
                by_cases z : c = 48 ∧ j ≠ 1
                · have A := Lib.hid (show lx s.data.toList = ([], 2) by rw [hll, if_pos z, F_err _ _ _ (by decide)])
                  have z1 : ((s[p].toNat : Int) == 48) = true := by rw [c48, decide_eq_true z.1]
                  have z2 : (p : Int) + 1 < (q : Int) := by omega
                  have z3 : decide ((p : Int) + 1 < (q : Int)) = true := decide_eq_true z2
                  clear hll hso c48
                  rcases stop with hst | ⟨hqs, hst⟩ | ⟨hqs, hst, hst2⟩
                  · have hqi : ¬ (q : Int) < (s.size : Int) := by omega
                    go_wp2_with fail
                    go_ret2
                    exact lexQ_err HS.out A.out G1.out
                  · have hqi : (q : Int) < (s.size : Int) := by omega
                    have m3 : decide ((48 : Int) ≤ (s[q].toNat : Int)) = false := decide_eq_false (by omega)
                    go_wp2_with fail
                    go_ret2
                    exact lexQ_err HS.out A.out G1.out
                  · have hqi : (q : Int) < (s.size : Int) := by omega
                    have m3 : decide ((48 : Int) ≤ (s[q].toNat : Int)) = true := decide_eq_true (by omega)
                    have m4 : decide ((s[q].toNat : Int) ≤ 57) = false := decide_eq_false (by omega)
                    go_wp2_with fail
                    go_ret2
                    exact lexQ_err HS.out A.out G1.out
                · rw [if_neg z] at hll
                  have zz : ((s[p].toNat : Int) == 48) = false ∨ (((s[p].toNat : Int) == 48) = true ∧ q = p + 1) := by
                    rw [c48]
                    by_cases e : c = 48
                    · right
                      refine ⟨decide_eq_true e, ?_⟩
                      have : j = 1 := by
                        rcases Nat.lt_or_ge j 2 with h | h
                        · omega
                        · exact absurd ⟨e, by omega⟩ z
                      omega
                    · exact Or.inl (decide_eq_false e)
                  by_cases ov : maxN < nval D
                  · have A := Lib.hid (show lx s.data.toList = ([], 3) by rw [hll, if_pos ov, F_err _ _ _ (by decide)])
                    have yy : (2147483647 : Int) < x := by have := hso.1.2 ov; unfold maxN at this; omega
                    have yd : decide ((2147483647 : Int) < x) = true := decide_eq_true yy
                    clear hll hso c48 ov z
                    rcases zz with z1 | ⟨z1, z2⟩
                    · skip
                      rcases stop with hst | ⟨hqs, hst⟩ | ⟨hqs, hst, hst2⟩
                      · have hqi : ¬ (q : Int) < (s.size : Int) := by omega
                        go_wp2_with fail
                        go_ret2
                        exact lexQ_err HS.out A.out G1.out
                      · have hqi : (q : Int) < (s.size : Int) := by omega
                        have m3 : decide ((48 : Int) ≤ (s[q].toNat : Int)) = false := decide_eq_false (by omega)
                        go_wp2_with fail
                        go_ret2
                        exact lexQ_err HS.out A.out G1.out
                      · have hqi : (q : Int) < (s.size : Int) := by omega
                        have m3 : decide ((48 : Int) ≤ (s[q].toNat : Int)) = true := decide_eq_true (by omega)
                        have m4 : decide ((s[q].toNat : Int) ≤ 57) = false := decide_eq_false (by omega)
                        go_wp2_with fail
                        go_ret2
                        exact lexQ_err HS.out A.out G1.out
                    · have z3 : decide ((p : Int) + 1 < (q : Int)) = false := decide_eq_false (by omega)
                      clear z2
                      rcases stop with hst | ⟨hqs, hst⟩ | ⟨hqs, hst, hst2⟩
                      · have hqi : ¬ (q : Int) < (s.size : Int) := by omega
                        go_wp2_with fail
                        go_ret2
                        exact lexQ_err HS.out A.out G1.out
                      · have hqi : (q : Int) < (s.size : Int) := by omega
                        have m3 : decide ((48 : Int) ≤ (s[q].toNat : Int)) = false := decide_eq_false (by omega)
                        go_wp2_with fail
                        go_ret2
                        exact lexQ_err HS.out A.out G1.out
                      · have hqi : (q : Int) < (s.size : Int) := by omega
                        have m3 : decide ((48 : Int) ≤ (s[q].toNat : Int)) = true := decide_eq_true (by omega)
                        have m4 : decide ((s[q].toNat : Int) ≤ 57) = false := decide_eq_false (by omega)
                        go_wp2_with fail
                        go_ret2
                        exact lexQ_err HS.out A.out G1.out
                  · have xv : x = nval D := hso.2 (by omega)
                    have A := Lib.hid (show lx s.data.toList = F (acc ++ [⟨1, x⟩]) (lx (s.data.toList.drop q)) by rw [hll, if_neg ov, F_F, xv])
                    have yy : ¬ (2147483647 : Int) < x := by rw [xv]; unfold maxN at ov; omega
                    have yd : decide ((2147483647 : Int) < x) = false := decide_eq_false yy
                    clear hll hso c48 ov z xv
                    rcases zz with z1 | ⟨z1, z2⟩
                    · skip
                      rcases stop with hst | ⟨hqs, hst⟩ | ⟨hqs, hst, hst2⟩
                      · have hqi : ¬ (q : Int) < (s.size : Int) := by omega
                        have O3 := Lib.hid (World.ownsRow.alloc O.out (.cells #[.int .i64 ((1 : Nat) : Int), .int .i64 ((x : Nat) : Int)] 35))
                        have D1 := Lib.hid (one_sg wr 1 x)
                        have D2 := Lib.hid (cz_one [⟨1, x⟩])
                        have GB := Lib.hid (Below.size G1.out)
                        go_wp2_with (at_builtin; refine wpList_append_own _ rfl _ _ 22 rfl w.heap.size 35 i0 _ 2 16 Tryd.underlying22 hi hz0 hz1 hz2 rfl (by decide) _ _ _ rfl O3.out ⟨wr.heap.size, 0, none⟩ 1 1 (cz [⟨1, x⟩]) rfl rfl (by simpa using D1.out) D2.out (by have := HA.out; unfold maxLen; omega) (by have := HA.out; omega) (by have := GB.out; simp only [size_new]; omega) ?_)
                        intro v' w4 hown' hgrow _
                        have hown2 : w4.ownsRow w.heap.size 35 2 v' (acc ++ [⟨1, x⟩] : List Sg).length (cz (acc ++ [⟨1, x⟩])) := by rw [cz_app, List.length_append]; exact hown'
                        have G4 := Lib.hid (grown_own O3.out (G1.out.alloc (.cells #[.int .i64 ((1 : Nat) : Int), .int .i64 ((x : Nat) : Int)] 35)) hgrow)
                        have O4 := Lib.hid hown2
                        clear hown' hgrow hown2 O3 D1 D2 GB
                        go_wp2_with fail
                        go_roundw
                        case rel => exact ⟨q, acc ++ [⟨1, x⟩], _, by omega, by go_num, rfl, by have := HA.out; simp only [List.length_append, List.length_cons, List.length_nil]; omega, A.out, O4.out, G4.out⟩
                        case measure => simp [intOf]; omega
                      · have hqi : (q : Int) < (s.size : Int) := by omega
                        have m3 : decide ((48 : Int) ≤ (s[q].toNat : Int)) = false := decide_eq_false (by omega)
                        have O3 := Lib.hid (World.ownsRow.alloc O.out (.cells #[.int .i64 ((1 : Nat) : Int), .int .i64 ((x : Nat) : Int)] 35))
                        have D1 := Lib.hid (one_sg wr 1 x)
                        have D2 := Lib.hid (cz_one [⟨1, x⟩])
                        have GB := Lib.hid (Below.size G1.out)
                        go_wp2_with (at_builtin; refine wpList_append_own _ rfl _ _ 22 rfl w.heap.size 35 i0 _ 2 16 Tryd.underlying22 hi hz0 hz1 hz2 rfl (by decide) _ _ _ rfl O3.out ⟨wr.heap.size, 0, none⟩ 1 1 (cz [⟨1, x⟩]) rfl rfl (by simpa using D1.out) D2.out (by have := HA.out; unfold maxLen; omega) (by have := HA.out; omega) (by have := GB.out; simp only [size_new]; omega) ?_)
                        intro v' w4 hown' hgrow _
                        have hown2 : w4.ownsRow w.heap.size 35 2 v' (acc ++ [⟨1, x⟩] : List Sg).length (cz (acc ++ [⟨1, x⟩])) := by rw [cz_app, List.length_append]; exact hown'
                        have G4 := Lib.hid (grown_own O3.out (G1.out.alloc (.cells #[.int .i64 ((1 : Nat) : Int), .int .i64 ((x : Nat) : Int)] 35)) hgrow)
                        have O4 := Lib.hid hown2
                        clear hown' hgrow hown2 O3 D1 D2 GB
                        go_wp2_with fail
                        go_roundw
                        case rel => exact ⟨q, acc ++ [⟨1, x⟩], _, by omega, by go_num, rfl, by have := HA.out; simp only [List.length_append, List.length_cons, List.length_nil]; omega, A.out, O4.out, G4.out⟩
                        case measure => simp [intOf]; omega
                      · have hqi : (q : Int) < (s.size : Int) := by omega
                        have m3 : decide ((48 : Int) ≤ (s[q].toNat : Int)) = true := decide_eq_true (by omega)
                        have m4 : decide ((s[q].toNat : Int) ≤ 57) = false := decide_eq_false (by omega)
                        have O3 := Lib.hid (World.ownsRow.alloc O.out (.cells #[.int .i64 ((1 : Nat) : Int), .int .i64 ((x : Nat) : Int)] 35))
                        have D1 := Lib.hid (one_sg wr 1 x)
                        have D2 := Lib.hid (cz_one [⟨1, x⟩])
                        have GB := Lib.hid (Below.size G1.out)
                        go_wp2_with (at_builtin; refine wpList_append_own _ rfl _ _ 22 rfl w.heap.size 35 i0 _ 2 16 Tryd.underlying22 hi hz0 hz1 hz2 rfl (by decide) _ _ _ rfl O3.out ⟨wr.heap.size, 0, none⟩ 1 1 (cz [⟨1, x⟩]) rfl rfl (by simpa using D1.out) D2.out (by have := HA.out; unfold maxLen; omega) (by have := HA.out; omega) (by have := GB.out; simp only [size_new]; omega) ?_)
                        intro v' w4 hown' hgrow _
                        have hown2 : w4.ownsRow w.heap.size 35 2 v' (acc ++ [⟨1, x⟩] : List Sg).length (cz (acc ++ [⟨1, x⟩])) := by rw [cz_app, List.length_append]; exact hown'
                        have G4 := Lib.hid (grown_own O3.out (G1.out.alloc (.cells #[.int .i64 ((1 : Nat) : Int), .int .i64 ((x : Nat) : Int)] 35)) hgrow)
                        have O4 := Lib.hid hown2
                        clear hown' hgrow hown2 O3 D1 D2 GB
                        go_wp2_with fail
                        go_roundw
                        case rel => exact ⟨q, acc ++ [⟨1, x⟩], _, by omega, by go_num, rfl, by have := HA.out; simp only [List.length_append, List.length_cons, List.length_nil]; omega, A.out, O4.out, G4.out⟩
                        case measure => simp [intOf]; omega
                    · have z3 : decide ((p : Int) + 1 < (q : Int)) = false := decide_eq_false (by omega)
                      clear z2
                      rcases stop with hst | ⟨hqs, hst⟩ | ⟨hqs, hst, hst2⟩
                      · have hqi : ¬ (q : Int) < (s.size : Int) := by omega
                        have O3 := Lib.hid (World.ownsRow.alloc O.out (.cells #[.int .i64 ((1 : Nat) : Int), .int .i64 ((x : Nat) : Int)] 35))
                        have D1 := Lib.hid (one_sg wr 1 x)
                        have D2 := Lib.hid (cz_one [⟨1, x⟩])
                        have GB := Lib.hid (Below.size G1.out)
                        go_wp2_with (at_builtin; refine wpList_append_own _ rfl _ _ 22 rfl w.heap.size 35 i0 _ 2 16 Tryd.underlying22 hi hz0 hz1 hz2 rfl (by decide) _ _ _ rfl O3.out ⟨wr.heap.size, 0, none⟩ 1 1 (cz [⟨1, x⟩]) rfl rfl (by simpa using D1.out) D2.out (by have := HA.out; unfold maxLen; omega) (by have := HA.out; omega) (by have := GB.out; simp only [size_new]; omega) ?_)
                        intro v' w4 hown' hgrow _
                        have hown2 : w4.ownsRow w.heap.size 35 2 v' (acc ++ [⟨1, x⟩] : List Sg).length (cz (acc ++ [⟨1, x⟩])) := by rw [cz_app, List.length_append]; exact hown'
                        have G4 := Lib.hid (grown_own O3.out (G1.out.alloc (.cells #[.int .i64 ((1 : Nat) : Int), .int .i64 ((x : Nat) : Int)] 35)) hgrow)
                        have O4 := Lib.hid hown2
                        clear hown' hgrow hown2 O3 D1 D2 GB
                        go_wp2_with fail
                        go_roundw
                        case rel => exact ⟨q, acc ++ [⟨1, x⟩], _, by omega, by go_num, rfl, by have := HA.out; simp only [List.length_append, List.length_cons, List.length_nil]; omega, A.out, O4.out, G4.out⟩
                        case measure => simp [intOf]; omega
                      · have hqi : (q : Int) < (s.size : Int) := by omega
                        have m3 : decide ((48 : Int) ≤ (s[q].toNat : Int)) = false := decide_eq_false (by omega)
                        have O3 := Lib.hid (World.ownsRow.alloc O.out (.cells #[.int .i64 ((1 : Nat) : Int), .int .i64 ((x : Nat) : Int)] 35))
                        have D1 := Lib.hid (one_sg wr 1 x)
                        have D2 := Lib.hid (cz_one [⟨1, x⟩])
                        have GB := Lib.hid (Below.size G1.out)
                        go_wp2_with (at_builtin; refine wpList_append_own _ rfl _ _ 22 rfl w.heap.size 35 i0 _ 2 16 Tryd.underlying22 hi hz0 hz1 hz2 rfl (by decide) _ _ _ rfl O3.out ⟨wr.heap.size, 0, none⟩ 1 1 (cz [⟨1, x⟩]) rfl rfl (by simpa using D1.out) D2.out (by have := HA.out; unfold maxLen; omega) (by have := HA.out; omega) (by have := GB.out; simp only [size_new]; omega) ?_)
                        intro v' w4 hown' hgrow _
                        have hown2 : w4.ownsRow w.heap.size 35 2 v' (acc ++ [⟨1, x⟩] : List Sg).length (cz (acc ++ [⟨1, x⟩])) := by rw [cz_app, List.length_append]; exact hown'
                        have G4 := Lib.hid (grown_own O3.out (G1.out.alloc (.cells #[.int .i64 ((1 : Nat) : Int), .int .i64 ((x : Nat) : Int)] 35)) hgrow)
                        have O4 := Lib.hid hown2
                        clear hown' hgrow hown2 O3 D1 D2 GB
                        go_wp2_with fail
                        go_roundw
                        case rel => exact ⟨q, acc ++ [⟨1, x⟩], _, by omega, by go_num, rfl, by have := HA.out; simp only [List.length_append, List.length_cons, List.length_nil]; omega, A.out, O4.out, G4.out⟩
                        case measure => simp [intOf]; omega
                      · have hqi : (q : Int) < (s.size : Int) := by omega
                        have m3 : decide ((48 : Int) ≤ (s[q].toNat : Int)) = true := decide_eq_true (by omega)
                        have m4 : decide ((s[q].toNat : Int) ≤ 57) = false := decide_eq_false (by omega)
                        have O3 := Lib.hid (World.ownsRow.alloc O.out (.cells #[.int .i64 ((1 : Nat) : Int), .int .i64 ((x : Nat) : Int)] 35))
                        have D1 := Lib.hid (one_sg wr 1 x)
                        have D2 := Lib.hid (cz_one [⟨1, x⟩])
                        have GB := Lib.hid (Below.size G1.out)
                        go_wp2_with (at_builtin; refine wpList_append_own _ rfl _ _ 22 rfl w.heap.size 35 i0 _ 2 16 Tryd.underlying22 hi hz0 hz1 hz2 rfl (by decide) _ _ _ rfl O3.out ⟨wr.heap.size, 0, none⟩ 1 1 (cz [⟨1, x⟩]) rfl rfl (by simpa using D1.out) D2.out (by have := HA.out; unfold maxLen; omega) (by have := HA.out; omega) (by have := GB.out; simp only [size_new]; omega) ?_)
                        intro v' w4 hown' hgrow _
                        have hown2 : w4.ownsRow w.heap.size 35 2 v' (acc ++ [⟨1, x⟩] : List Sg).length (cz (acc ++ [⟨1, x⟩])) := by rw [cz_app, List.length_append]; exact hown'
                        have G4 := Lib.hid (grown_own O3.out (G1.out.alloc (.cells #[.int .i64 ((1 : Nat) : Int), .int .i64 ((x : Nat) : Int)] 35)) hgrow)
                        have O4 := Lib.hid hown2
                        clear hown' hgrow hown2 O3 D1 D2 GB
                        go_wp2_with fail
                        go_roundw
                        case rel => exact ⟨q, acc ++ [⟨1, x⟩], _, by omega, by go_num, rfl, by have := HA.out; simp only [List.length_append, List.length_cons, List.length_nil]; omega, A.out, O4.out, G4.out⟩
                        case measure => simp [intOf]; omega
        · rw [hdr, lx_letter c _ hle, F_F] at hL
          have nl : 97 ≤ s[p].toNat ∧ s[p].toNat ≤ 122 := by rw [hc]; unfold isL at hle; simp at hle; omega
          have n3 : decide ((97 : Int) ≤ (s[p].toNat : Int)) = true := decide_eq_true (by omega)
          have n4 : decide ((s[p].toNat : Int) ≤ 122) = true := decide_eq_true (by omega)
          obtain ⟨zz, hzz⟩ : ∃ zz, c.toNat - 97 = zz := ⟨_, rfl⟩
          rw [hzz] at hL
          have A := Lib.hid hL
          have z1 : IntKind.u8.wrap ((s[p].toNat : Int) - 97) = (zz : Int) := by rw [← hzz, ← hc]; simp only [IntKind.wrap_u8]; omega
          have z2 : ((s[p].toNat : Int) - 97) % 256 = (zz : Int) := by rw [← hzz, ← hc]; omega
          have z3 : zz ≤ 25 := by rw [← hzz, ← hc]; omega
          have z4 : IntKind.i64.wrap (zz : Int) = zz := by simp only [IntKind.wrap_i64]; omega
          clear hL hdr hc hle nl hzz
          have O3 := Lib.hid (World.ownsRow.alloc O.out (.cells #[.int .i64 ((2 : Nat) : Int), .int .i64 ((zz : Nat) : Int)] 35))
          have D1 := Lib.hid (one_sg wr 2 zz)
          have D2 := Lib.hid (cz_one [⟨2, zz⟩])
          have GB := Lib.hid (Below.size G1.out)
          go_wp2_with (at_builtin; refine wpList_append_own _ rfl _ _ 22 rfl w.heap.size 35 i0 _ 2 16 Tryd.underlying22 hi hz0 hz1 hz2 rfl (by decide) _ _ _ rfl O3.out ⟨wr.heap.size, 0, none⟩ 1 1 (cz [⟨2, zz⟩]) rfl rfl (by simpa using D1.out) D2.out (by have := HA.out; unfold maxLen; omega) (by have := HA.out; omega) (by have := GB.out; simp only [size_new]; omega) ?_)
          intro v' w4 hown' hgrow _
          have hown2 : w4.ownsRow w.heap.size 35 2 v' (acc ++ [⟨2, zz⟩] : List Sg).length (cz (acc ++ [⟨2, zz⟩])) := by rw [cz_app, List.length_append]; exact hown'
          have G4 := Lib.hid (grown_own O3.out (G1.out.alloc (.cells #[.int .i64 ((2 : Nat) : Int), .int .i64 ((zz : Nat) : Int)] 35)) hgrow)
          have O4 := Lib.hid hown2
          clear hown' hgrow hown2 O3 D1 D2 GB
          go_wp2_with fail
          go_roundw
          case rel => exact ⟨p + 1, acc ++ [⟨2, zz⟩], _, by omega, by go_num, rfl, by have := HA.out; simp only [List.length_append, List.length_cons, List.length_nil]; omega, A.out, O4.out, G4.out⟩
          case measure => simp [intOf]; omega
    · obtain rfl : p = s.size := by omega
      have hpi : ¬ (s.size : Int) < (s.size : Int) := by omega
      have A := Lib.hid (show lx s.data.toList = (acc, 0) by rw [hL, List.drop_of_length_le (by rw [size_len]; exact Nat.le_refl _), lx_nil, F_ok, List.append_nil])
      clear hL
      go_wp2_with fail
      go_ret2
      exact lexQ_ok HS.out A.out O.out G1.out
    end Go.Proofs.YtiocnagbcbhggaaDoor
