/- LexWrong, walked. -/
import Derived.Test.YtiocnagbcbhggaaDoorLa
namespace Go.Proofs.YtiocnagbcbhggaaDoor
open Go.RowKit SM
set_option linter.unusedSimpArgs false
set_option linter.unusedVariables false

/-- the byte that the kind k begins with. -/
def hb (k : Nat) : Nat := ((tx ⟨k, 0⟩).headD 0).toNat
/-- does c begin a sign that is neither name nor number? -/
def bg (c : Nat) : Bool := (List.range 16).any fun k => decide (hb (k + 3) = c)
theorem bg_no {c : UInt8} (h : bg c.toNat = false) : c ≠ 61 ∧ sg1 c = 0 := by
  have : ∀ n : Fin 256, bg n.1 = false → UInt8.ofNat n.1 ≠ 61 ∧ sg1 (UInt8.ofNat n.1) = 0 := by decide +kernel
  have g := this ⟨c.toNat, c.toNat_lt⟩ h
  simpa using g
theorem bg_none {c : Nat} (h : bg c = false) : ∀ k, 3 ≤ k → k ≤ 18 → hb k ≠ c := by
  intro k h3 h18 e
  have : bg c = true := by
    unfold bg
    rw [List.any_eq_true]
    exact ⟨k - 3, by simp; omega, by rw [Nat.sub_add_cancel h3]; exact decide_eq_true e⟩
  rw [h] at this; cases this
/-- what stands first of a text that goes on with blanks. -/
theorem mk_size (k : Nat) (h3 : 3 ≤ k) (h18 : k ≤ 18) : 0 < (mb k).size ∧ ∀ h : 0 < (mb k).size, ((mb k)[0]'h).toNat = hb k := by
  have h1 := (mk_len k).2
  have h2 : 0 < (mb k).size := by
    rw [mb_size]
    rcases Nat.eq_zero_or_pos (mk k).length with e | e
    · exact absurd ⟨h3, h18⟩ (h1.1 e)
    · exact e
  refine ⟨h2, fun h => ?_⟩
  have := head_at (mb k) h
  rw [mb_list, mk_in ⟨h3, h18⟩] at this
  unfold hb
  rcases e : tx ⟨k, 0⟩ with _ | ⟨c, t⟩
  · rw [e] at this; cases this
  · rw [e] at this
    simp only [List.head?_cons, Option.some.injEq] at this
    rw [← this]; rfl
theorem rtext_mark (k : Nat) (w : World) (h3 : 3 ≤ k) (h18 : k ≤ 18) : Calls Tryd.prog 17 #[.agg #[.int .i64 k, .int .i64 0]] w fun e w' => e = .returned (.string (mb k)) ∧ Grw w w' :=
  rtext_yes ⟨k, 0⟩ (mb k) w (gs_of ⟨h3, h18⟩) (by rw [mb_list, mk_in ⟨h3, h18⟩])

set_option maxHeartbeats 8000000 in
set_option maxRecDepth 100000 in
theorem wrong_walk (a b : ByteArray) (c : UInt8) (w : World) (t : Mks w) (tt : Tab w) (hab : a.size + b.size + 1 ≤ 60) :
    Calls Tryd.prog 7 #[.string a, .string b, .int .u8 c.toNat] w fun e w' => e = .returned (.bool true) ∧ Grw w w' := by
  have z1 : ¬ (60 : Int) < (a.size : Int) + b.size + 1 := by omega
  have za : (a.size : Int) ≤ 60 := by omega
  have zb : (b.size : Int) ≤ 60 := by omega
  have q1 : (((⟨#[32]⟩ : ByteArray).size : Nat) : Int) = 1 := by rw [size_len]; simp
  have L2 := Lib.hid (fun q w t (h : 60 < q.size) => lex_at q ([], 15) 0 w t (by unfold lq; rw [if_pos (by rw [← size_len]; exact h)]) rfl)
  have HT := Lib.hid t
  have HTT := Lib.hid tt
  have HAB := Lib.hid hab
  clear t tt hab
  go_enter Tryd.func7, Tryd.ntmps7
  go_wp2_with fail
  go_loopw [7] (fun v wr => ∃ q : ByteArray, v = .string q ∧ q.size ≤ 61 ∧ Grw w wr) (fun v _ => 61 - (match v with | .string q => q.size | _ => 0))
  case atStart => exact ⟨a, rfl, by have := HAB.out; omega, Grw.rfl' _⟩
  case round =>
    obtain ⟨q, rfl, hq, hg⟩ := hrel
    by_cases hq6 : q.size ≤ 60
    · have hqi : (q.size : Int) ≤ 60 := by omega
      have hap : (q ++ ⟨#[32]⟩ : ByteArray).size = q.size + 1 := by rw [size_len, ba_app, List.length_append, ← size_len]; rfl
      have HAP := Lib.hid hap
      clear hap
      go_wp2_with fail
      go_roundw
      case rel => exact ⟨_, rfl, by rw [HAP.out]; omega, hg⟩
      case measure => simp only [HAP.out]; omega
    · have hqi : ¬ (q.size : Int) ≤ 60 := by omega
      have G1 := Lib.hid hg
      have LQ := Lib.hid (L2.out q wr (mks_grw hg HT.out) (by omega))
      clear hg
      go_wp2_with fail
      with_reducible refine LQ.out.mono ?_
      rintro _ w2 ⟨a2, c2, rfl, _, _, h2⟩
      have G2 := Lib.hid (G1.out.trans h2)
      clear h2 LQ L2
      by_cases lt : 97 ≤ c.toNat ∧ c.toNat ≤ 122
      · have m1 : decide ((97 : Int) ≤ (c.toNat : Int)) = true := decide_eq_true (by omega)
        have m2 : decide ((c.toNat : Int) ≤ 122) = true := decide_eq_true (by omega)
        clear lt
        have WK := Lib.hid (wakes_any w2 (mks_grw G2.out HT.out) (tab_grw G2.out HTT.out))
        go_wp2_with fail
        with_reducible refine WK.out.mono ?_
        rintro _ v8 ⟨rfl, j8⟩
        go_wp2_with fail
        go_ret
        exact ⟨rfl, G2.out.trans j8⟩
      · by_cases dg : 48 ≤ c.toNat ∧ c.toNat ≤ 57
        · have m1 : decide ((97 : Int) ≤ (c.toNat : Int)) = false := decide_eq_false (by omega)
          have m3 : decide ((48 : Int) ≤ (c.toNat : Int)) = true := decide_eq_true (by omega)
          have m4 : decide ((c.toNat : Int) ≤ 57) = true := decide_eq_true (by omega)
          clear lt dg
          have WK := Lib.hid (wakes_any w2 (mks_grw G2.out HT.out) (tab_grw G2.out HTT.out))
          go_wp2_with fail
          with_reducible refine WK.out.mono ?_
          rintro _ v8 ⟨rfl, j8⟩
          go_wp2_with fail
          go_ret
          exact ⟨rfl, G2.out.trans j8⟩
        · have NL : Hid (isL c = false) := Lib.hid (by unfold isL; rw [Bool.eq_false_iff]; intro e; simp only [Bool.and_eq_true, decide_eq_true_eq] at e; exact lt e)
          have ND : Hid (isD c = false) := Lib.hid (by rw [Bool.eq_false_iff]; intro e; exact dg ((isD_iff c).1 e))
          have LA := Lib.hid (fun w t => lex_at a (lx a.data.toList) (lx a.data.toList).1.length w t (by rw [lq_short (by rw [← size_len]; have := HAB.out; omega)]) rfl)
          have ways : (97 ≤ c.toNat ∧ ¬ c.toNat ≤ 122) ∨ (¬ 97 ≤ c.toNat ∧ 48 ≤ c.toNat ∧ ¬ c.toNat ≤ 57) ∨ (¬ 97 ≤ c.toNat ∧ ¬ 48 ≤ c.toNat) := by omega
          clear lt dg
          rcases ways with ⟨n1, n2⟩ | ⟨n1, n2, n3⟩ | ⟨n1, n2⟩
          · have m1 : decide ((97 : Int) ≤ (c.toNat : Int)) = true := decide_eq_true (by omega)
            have m2 : decide ((c.toNat : Int) ≤ 122) = false := decide_eq_false (by omega)
            have m3 : decide ((48 : Int) ≤ (c.toNat : Int)) = true := decide_eq_true (by omega)
            have m4 : decide ((c.toNat : Int) ≤ 57) = false := decide_eq_false (by omega)
            go_wp2_with fail
            go_loopw [10] (fun kv wr => ∃ k : Nat, 3 ≤ k ∧ k ≤ 19 ∧ kv = .int .i64 k ∧ (∀ j, 3 ≤ j → j < k → hb j ≠ c.toNat) ∧ Grw w wr) (fun kv _ => 19 - (intOf kv).toNat)
            case atStart => exact ⟨3, by omega, by omega, rfl, fun j h3 hj => by omega, G2.out⟩
            case round =>
              obtain ⟨k, hk3, hk19, rfl, hno, hg⟩ := hrel
              replace G2 := Lib.hid hg
              have NO := Lib.hid hno
              clear hg hno
              by_cases hk : k ≤ 18
              · have hki : (k : Int) ≤ 18 := by omega
                have RT := fun w => rtext_mark k w hk3 hk
                obtain ⟨s0, s1⟩ := mk_size k hk3 hk
                have s2 := s1 s0
                by_cases e : hb k = c.toNat
                · rw [e] at s2
                  have t1 : (((mb k)[0].toNat : Int) == (c.toNat : Int)) = true := by rw [s2]; simp
                  have t2 : ((mb k)[0].toNat : Int) = (c.toNat : Int) := by rw [s2]
                  clear s1 s2
                  generalize mb k = mq at *
                  replace RT := Lib.hid RT
                  go_wp2_with fail
                  with_reducible refine (RT.out _).mono ?_
                  rintro _ w3 ⟨rfl, h3⟩
                  have G3 := Lib.hid (G2.out.trans h3)
                  clear h3 RT
                  have WK := Lib.hid (wakes_any w3 (mks_grw G3.out HT.out) (tab_grw G3.out HTT.out))
                  go_wp2_with fail
                  with_reducible refine WK.out.mono ?_
                  rintro _ v8 ⟨rfl, j8⟩
                  go_wp2_with fail
                  go_ret
                  exact ⟨rfl, G3.out.trans j8⟩
                · have t1 : (((mb k)[0].toNat : Int) == (c.toNat : Int)) = false := by rw [s2, Bool.eq_false_iff]; intro h; exact e (by have := eq_of_beq h; omega)
                  have t2 : ¬ ((mb k)[0].toNat : Int) = (c.toNat : Int) := by rw [s2]; omega
                  have NN := Lib.hid e
                  clear s1 s2 e
                  generalize mb k = mq at *
                  replace RT := Lib.hid RT
                  go_wp2_with fail
                  with_reducible refine (RT.out _).mono ?_
                  rintro _ w3 ⟨rfl, h3⟩
                  have G3 := Lib.hid (G2.out.trans h3)
                  clear h3 RT
                  go_wp2_with fail
                  go_roundw
                  case rel => exact ⟨k + 1, by omega, by omega, by go_num, fun j h3 hj => by
                      by_cases e : j = k
                      · subst e; exact NN.out
                      · exact NO.out j h3 (by omega), G3.out⟩
                  case measure => simp [intOf]; omega
              · have hki : ¬ (k : Int) ≤ 18 := by omega
                have bgf : bg c.toNat = false := by
                  rw [Bool.eq_false_iff]
                  intro e
                  unfold bg at e
                  rw [List.any_eq_true] at e
                  obtain ⟨j, hj, e⟩ := e
                  exact NO.out (j + 3) (by omega) (by simp at hj; omega) (of_decide_eq_true e)
                obtain ⟨h61, hs1⟩ := bg_no bgf
                clear NO bgf
                have L1 := Lib.hid (LA.out wr (mks_grw G2.out HT.out))
                by_cases a0 : (lx a.data.toList).2 = 0
                · have a1 : (((lx a.data.toList).2 : Nat) : Int) = 0 := by rw [a0]; rfl
                  by_cases c32 : c = 32
                  · have u1 : ((c.toNat : Int) == 32) = true := by rw [c32]; rfl
                    have u2 : (c.toNat : Int) = 32 := by rw [c32]; rfl
                    rw [a0] at L1
                    clear c32 a0 a1 h61 hs1
                    go_wp2_with fail
                    with_reducible refine L1.out.mono ?_
                    rintro _ w3 ⟨a3, c3, rfl, _, _, h3⟩
                    have G3 := Lib.hid (G2.out.trans h3)
                    clear h3 L1
                    have WK := Lib.hid (wakes_any w3 (mks_grw G3.out HT.out) (tab_grw G3.out HTT.out))
                    go_wp2_with fail
                    with_reducible refine WK.out.mono ?_
                    rintro _ v8 ⟨rfl, j8⟩
                    go_wp2_with fail
                    go_ret
                    exact ⟨rfl, G3.out.trans j8⟩
                  · have u1 : ((c.toNat : Int) == 32) = false := by rw [Bool.eq_false_iff]; intro e; exact c32 ((uni c 32).1 (eq_of_beq e))
                    have L3 := Lib.hid (fun w t => lex_at (a ++ ⟨#[c]⟩ ++ b) ([], 2) 0 w t (by
                      have e : (a ++ ⟨#[c]⟩ ++ b).data.toList = a.data.toList ++ c :: b.data.toList := by rw [ba_app, ba_app]; simp
                      rw [e, lq_short (by simp only [List.length_append, List.length_cons]; rw [← size_len, ← size_len]; have := HAB.out; omega)]
                      exact lx_wrong _ _ c a0 c32 NL.out ND.out h61 hs1) rfl)
                    have qc : (((⟨#[c]⟩ : ByteArray).size : Nat) : Int) = 1 := by rw [size_len]; simp
                    have cv := fun (w : World) (blk : Nat) hh => conv_one w blk c hh
                    rw [a0] at L1
                    clear c32 a0 a1 h61 hs1
                    generalize (⟨#[c]⟩ : ByteArray) = cq at *
                    go_wp2_with fail
                    with_reducible refine L1.out.mono ?_
                    rintro _ w3 ⟨a3, c3, rfl, _, _, h3⟩
                    have G3 := Lib.hid (G2.out.trans h3)
                    clear h3 L1
                    have cv2 := cv (w3.alloc (.cells #[.int .u8 (c.toNat : Int)] 5)) w3.heap.size (by simp [go_sem])
                    clear cv
                    go_wp2_with fail
                    with_reducible refine (L3.out _ (mks_grw (G3.out.alloc _) HT.out)).mono ?_
                    rintro _ w4 ⟨a4, c4, rfl, _, _, h4⟩
                    have G4 := Lib.hid ((G3.out.alloc _).trans h4)
                    clear h4 L3 cv2
                    have WK := Lib.hid (wakes_any w4 (mks_grw G4.out HT.out) (tab_grw G4.out HTT.out))
                    go_wp2_with fail
                    with_reducible refine WK.out.mono ?_
                    rintro _ v8 ⟨rfl, j8⟩
                    go_wp2_with fail
                    go_ret
                    exact ⟨rfl, G4.out.trans j8⟩
                · have u1 : ((((lx a.data.toList).2 : Nat) : Int) != 0) = true := by simp; omega
                  obtain ⟨y2, hy2⟩ : ∃ y2, (lx a.data.toList).2 = y2 := ⟨_, rfl⟩
                  rw [hy2] at u1 L1
                  clear a0 h61 hs1 hy2
                  go_wp2_with fail
                  with_reducible refine L1.out.mono ?_
                  rintro _ w3 ⟨a3, c3, rfl, _, _, h3⟩
                  have G3 := Lib.hid (G2.out.trans h3)
                  clear h3 L1
                  have WK := Lib.hid (wakes_any w3 (mks_grw G3.out HT.out) (tab_grw G3.out HTT.out))
                  go_wp2_with fail
                  with_reducible refine WK.out.mono ?_
                  rintro _ v8 ⟨rfl, j8⟩
                  go_wp2_with fail
                  go_ret
                  exact ⟨rfl, G3.out.trans j8⟩
          · have m1 : decide ((97 : Int) ≤ (c.toNat : Int)) = false := decide_eq_false (by omega)
            have m3 : decide ((48 : Int) ≤ (c.toNat : Int)) = true := decide_eq_true (by omega)
            have m4 : decide ((c.toNat : Int) ≤ 57) = false := decide_eq_false (by omega)
            go_wp2_with fail
            go_loopw [10] (fun kv wr => ∃ k : Nat, 3 ≤ k ∧ k ≤ 19 ∧ kv = .int .i64 k ∧ (∀ j, 3 ≤ j → j < k → hb j ≠ c.toNat) ∧ Grw w wr) (fun kv _ => 19 - (intOf kv).toNat)
            case atStart => exact ⟨3, by omega, by omega, rfl, fun j h3 hj => by omega, G2.out⟩
            case round =>
              obtain ⟨k, hk3, hk19, rfl, hno, hg⟩ := hrel
              replace G2 := Lib.hid hg
              have NO := Lib.hid hno
              clear hg hno
              by_cases hk : k ≤ 18
              · have hki : (k : Int) ≤ 18 := by omega
                have RT := fun w => rtext_mark k w hk3 hk
                obtain ⟨s0, s1⟩ := mk_size k hk3 hk
                have s2 := s1 s0
                by_cases e : hb k = c.toNat
                · rw [e] at s2
                  have t1 : (((mb k)[0].toNat : Int) == (c.toNat : Int)) = true := by rw [s2]; simp
                  have t2 : ((mb k)[0].toNat : Int) = (c.toNat : Int) := by rw [s2]
                  clear s1 s2
                  generalize mb k = mq at *
                  replace RT := Lib.hid RT
                  go_wp2_with fail
                  with_reducible refine (RT.out _).mono ?_
                  rintro _ w3 ⟨rfl, h3⟩
                  have G3 := Lib.hid (G2.out.trans h3)
                  clear h3 RT
                  have WK := Lib.hid (wakes_any w3 (mks_grw G3.out HT.out) (tab_grw G3.out HTT.out))
                  go_wp2_with fail
                  with_reducible refine WK.out.mono ?_
                  rintro _ v8 ⟨rfl, j8⟩
                  go_wp2_with fail
                  go_ret
                  exact ⟨rfl, G3.out.trans j8⟩
                · have t1 : (((mb k)[0].toNat : Int) == (c.toNat : Int)) = false := by rw [s2, Bool.eq_false_iff]; intro h; exact e (by have := eq_of_beq h; omega)
                  have t2 : ¬ ((mb k)[0].toNat : Int) = (c.toNat : Int) := by rw [s2]; omega
                  have NN := Lib.hid e
                  clear s1 s2 e
                  generalize mb k = mq at *
                  replace RT := Lib.hid RT
                  go_wp2_with fail
                  with_reducible refine (RT.out _).mono ?_
                  rintro _ w3 ⟨rfl, h3⟩
                  have G3 := Lib.hid (G2.out.trans h3)
                  clear h3 RT
                  go_wp2_with fail
                  go_roundw
                  case rel => exact ⟨k + 1, by omega, by omega, by go_num, fun j h3 hj => by
                      by_cases e : j = k
                      · subst e; exact NN.out
                      · exact NO.out j h3 (by omega), G3.out⟩
                  case measure => simp [intOf]; omega
              · have hki : ¬ (k : Int) ≤ 18 := by omega
                have bgf : bg c.toNat = false := by
                  rw [Bool.eq_false_iff]
                  intro e
                  unfold bg at e
                  rw [List.any_eq_true] at e
                  obtain ⟨j, hj, e⟩ := e
                  exact NO.out (j + 3) (by omega) (by simp at hj; omega) (of_decide_eq_true e)
                obtain ⟨h61, hs1⟩ := bg_no bgf
                clear NO bgf
                have L1 := Lib.hid (LA.out wr (mks_grw G2.out HT.out))
                by_cases a0 : (lx a.data.toList).2 = 0
                · have a1 : (((lx a.data.toList).2 : Nat) : Int) = 0 := by rw [a0]; rfl
                  by_cases c32 : c = 32
                  · have u1 : ((c.toNat : Int) == 32) = true := by rw [c32]; rfl
                    have u2 : (c.toNat : Int) = 32 := by rw [c32]; rfl
                    rw [a0] at L1
                    clear c32 a0 a1 h61 hs1
                    go_wp2_with fail
                    with_reducible refine L1.out.mono ?_
                    rintro _ w3 ⟨a3, c3, rfl, _, _, h3⟩
                    have G3 := Lib.hid (G2.out.trans h3)
                    clear h3 L1
                    have WK := Lib.hid (wakes_any w3 (mks_grw G3.out HT.out) (tab_grw G3.out HTT.out))
                    go_wp2_with fail
                    with_reducible refine WK.out.mono ?_
                    rintro _ v8 ⟨rfl, j8⟩
                    go_wp2_with fail
                    go_ret
                    exact ⟨rfl, G3.out.trans j8⟩
                  · have u1 : ((c.toNat : Int) == 32) = false := by rw [Bool.eq_false_iff]; intro e; exact c32 ((uni c 32).1 (eq_of_beq e))
                    have L3 := Lib.hid (fun w t => lex_at (a ++ ⟨#[c]⟩ ++ b) ([], 2) 0 w t (by
                      have e : (a ++ ⟨#[c]⟩ ++ b).data.toList = a.data.toList ++ c :: b.data.toList := by rw [ba_app, ba_app]; simp
                      rw [e, lq_short (by simp only [List.length_append, List.length_cons]; rw [← size_len, ← size_len]; have := HAB.out; omega)]
                      exact lx_wrong _ _ c a0 c32 NL.out ND.out h61 hs1) rfl)
                    have qc : (((⟨#[c]⟩ : ByteArray).size : Nat) : Int) = 1 := by rw [size_len]; simp
                    have cv := fun (w : World) (blk : Nat) hh => conv_one w blk c hh
                    rw [a0] at L1
                    clear c32 a0 a1 h61 hs1
                    generalize (⟨#[c]⟩ : ByteArray) = cq at *
                    go_wp2_with fail
                    with_reducible refine L1.out.mono ?_
                    rintro _ w3 ⟨a3, c3, rfl, _, _, h3⟩
                    have G3 := Lib.hid (G2.out.trans h3)
                    clear h3 L1
                    have cv2 := cv (w3.alloc (.cells #[.int .u8 (c.toNat : Int)] 5)) w3.heap.size (by simp [go_sem])
                    clear cv
                    go_wp2_with fail
                    with_reducible refine (L3.out _ (mks_grw (G3.out.alloc _) HT.out)).mono ?_
                    rintro _ w4 ⟨a4, c4, rfl, _, _, h4⟩
                    have G4 := Lib.hid ((G3.out.alloc _).trans h4)
                    clear h4 L3 cv2
                    have WK := Lib.hid (wakes_any w4 (mks_grw G4.out HT.out) (tab_grw G4.out HTT.out))
                    go_wp2_with fail
                    with_reducible refine WK.out.mono ?_
                    rintro _ v8 ⟨rfl, j8⟩
                    go_wp2_with fail
                    go_ret
                    exact ⟨rfl, G4.out.trans j8⟩
                · have u1 : ((((lx a.data.toList).2 : Nat) : Int) != 0) = true := by simp; omega
                  obtain ⟨y2, hy2⟩ : ∃ y2, (lx a.data.toList).2 = y2 := ⟨_, rfl⟩
                  rw [hy2] at u1 L1
                  clear a0 h61 hs1 hy2
                  go_wp2_with fail
                  with_reducible refine L1.out.mono ?_
                  rintro _ w3 ⟨a3, c3, rfl, _, _, h3⟩
                  have G3 := Lib.hid (G2.out.trans h3)
                  clear h3 L1
                  have WK := Lib.hid (wakes_any w3 (mks_grw G3.out HT.out) (tab_grw G3.out HTT.out))
                  go_wp2_with fail
                  with_reducible refine WK.out.mono ?_
                  rintro _ v8 ⟨rfl, j8⟩
                  go_wp2_with fail
                  go_ret
                  exact ⟨rfl, G3.out.trans j8⟩
          · have m1 : decide ((97 : Int) ≤ (c.toNat : Int)) = false := decide_eq_false (by omega)
            have m3 : decide ((48 : Int) ≤ (c.toNat : Int)) = false := decide_eq_false (by omega)
            go_wp2_with fail
            go_loopw [10] (fun kv wr => ∃ k : Nat, 3 ≤ k ∧ k ≤ 19 ∧ kv = .int .i64 k ∧ (∀ j, 3 ≤ j → j < k → hb j ≠ c.toNat) ∧ Grw w wr) (fun kv _ => 19 - (intOf kv).toNat)
            case atStart => exact ⟨3, by omega, by omega, rfl, fun j h3 hj => by omega, G2.out⟩
            case round =>
              obtain ⟨k, hk3, hk19, rfl, hno, hg⟩ := hrel
              replace G2 := Lib.hid hg
              have NO := Lib.hid hno
              clear hg hno
              by_cases hk : k ≤ 18
              · have hki : (k : Int) ≤ 18 := by omega
                have RT := fun w => rtext_mark k w hk3 hk
                obtain ⟨s0, s1⟩ := mk_size k hk3 hk
                have s2 := s1 s0
                by_cases e : hb k = c.toNat
                · rw [e] at s2
                  have t1 : (((mb k)[0].toNat : Int) == (c.toNat : Int)) = true := by rw [s2]; simp
                  have t2 : ((mb k)[0].toNat : Int) = (c.toNat : Int) := by rw [s2]
                  clear s1 s2
                  generalize mb k = mq at *
                  replace RT := Lib.hid RT
                  go_wp2_with fail
                  with_reducible refine (RT.out _).mono ?_
                  rintro _ w3 ⟨rfl, h3⟩
                  have G3 := Lib.hid (G2.out.trans h3)
                  clear h3 RT
                  have WK := Lib.hid (wakes_any w3 (mks_grw G3.out HT.out) (tab_grw G3.out HTT.out))
                  go_wp2_with fail
                  with_reducible refine WK.out.mono ?_
                  rintro _ v8 ⟨rfl, j8⟩
                  go_wp2_with fail
                  go_ret
                  exact ⟨rfl, G3.out.trans j8⟩
                · have t1 : (((mb k)[0].toNat : Int) == (c.toNat : Int)) = false := by rw [s2, Bool.eq_false_iff]; intro h; exact e (by have := eq_of_beq h; omega)
                  have t2 : ¬ ((mb k)[0].toNat : Int) = (c.toNat : Int) := by rw [s2]; omega
                  have NN := Lib.hid e
                  clear s1 s2 e
                  generalize mb k = mq at *
                  replace RT := Lib.hid RT
                  go_wp2_with fail
                  with_reducible refine (RT.out _).mono ?_
                  rintro _ w3 ⟨rfl, h3⟩
                  have G3 := Lib.hid (G2.out.trans h3)
                  clear h3 RT
                  go_wp2_with fail
                  go_roundw
                  case rel => exact ⟨k + 1, by omega, by omega, by go_num, fun j h3 hj => by
                      by_cases e : j = k
                      · subst e; exact NN.out
                      · exact NO.out j h3 (by omega), G3.out⟩
                  case measure => simp [intOf]; omega
              · have hki : ¬ (k : Int) ≤ 18 := by omega
                have bgf : bg c.toNat = false := by
                  rw [Bool.eq_false_iff]
                  intro e
                  unfold bg at e
                  rw [List.any_eq_true] at e
                  obtain ⟨j, hj, e⟩ := e
                  exact NO.out (j + 3) (by omega) (by simp at hj; omega) (of_decide_eq_true e)
                obtain ⟨h61, hs1⟩ := bg_no bgf
                clear NO bgf
                have L1 := Lib.hid (LA.out wr (mks_grw G2.out HT.out))
                by_cases a0 : (lx a.data.toList).2 = 0
                · have a1 : (((lx a.data.toList).2 : Nat) : Int) = 0 := by rw [a0]; rfl
                  by_cases c32 : c = 32
                  · have u1 : ((c.toNat : Int) == 32) = true := by rw [c32]; rfl
                    have u2 : (c.toNat : Int) = 32 := by rw [c32]; rfl
                    rw [a0] at L1
                    clear c32 a0 a1 h61 hs1
                    go_wp2_with fail
                    with_reducible refine L1.out.mono ?_
                    rintro _ w3 ⟨a3, c3, rfl, _, _, h3⟩
                    have G3 := Lib.hid (G2.out.trans h3)
                    clear h3 L1
                    have WK := Lib.hid (wakes_any w3 (mks_grw G3.out HT.out) (tab_grw G3.out HTT.out))
                    go_wp2_with fail
                    with_reducible refine WK.out.mono ?_
                    rintro _ v8 ⟨rfl, j8⟩
                    go_wp2_with fail
                    go_ret
                    exact ⟨rfl, G3.out.trans j8⟩
                  · have u1 : ((c.toNat : Int) == 32) = false := by rw [Bool.eq_false_iff]; intro e; exact c32 ((uni c 32).1 (eq_of_beq e))
                    have L3 := Lib.hid (fun w t => lex_at (a ++ ⟨#[c]⟩ ++ b) ([], 2) 0 w t (by
                      have e : (a ++ ⟨#[c]⟩ ++ b).data.toList = a.data.toList ++ c :: b.data.toList := by rw [ba_app, ba_app]; simp
                      rw [e, lq_short (by simp only [List.length_append, List.length_cons]; rw [← size_len, ← size_len]; have := HAB.out; omega)]
                      exact lx_wrong _ _ c a0 c32 NL.out ND.out h61 hs1) rfl)
                    have qc : (((⟨#[c]⟩ : ByteArray).size : Nat) : Int) = 1 := by rw [size_len]; simp
                    have cv := fun (w : World) (blk : Nat) hh => conv_one w blk c hh
                    rw [a0] at L1
                    clear c32 a0 a1 h61 hs1
                    generalize (⟨#[c]⟩ : ByteArray) = cq at *
                    go_wp2_with fail
                    with_reducible refine L1.out.mono ?_
                    rintro _ w3 ⟨a3, c3, rfl, _, _, h3⟩
                    have G3 := Lib.hid (G2.out.trans h3)
                    clear h3 L1
                    have cv2 := cv (w3.alloc (.cells #[.int .u8 (c.toNat : Int)] 5)) w3.heap.size (by simp [go_sem])
                    clear cv
                    go_wp2_with fail
                    with_reducible refine (L3.out _ (mks_grw (G3.out.alloc _) HT.out)).mono ?_
                    rintro _ w4 ⟨a4, c4, rfl, _, _, h4⟩
                    have G4 := Lib.hid ((G3.out.alloc _).trans h4)
                    clear h4 L3 cv2
                    have WK := Lib.hid (wakes_any w4 (mks_grw G4.out HT.out) (tab_grw G4.out HTT.out))
                    go_wp2_with fail
                    with_reducible refine WK.out.mono ?_
                    rintro _ v8 ⟨rfl, j8⟩
                    go_wp2_with fail
                    go_ret
                    exact ⟨rfl, G4.out.trans j8⟩
                · have u1 : ((((lx a.data.toList).2 : Nat) : Int) != 0) = true := by simp; omega
                  obtain ⟨y2, hy2⟩ : ∃ y2, (lx a.data.toList).2 = y2 := ⟨_, rfl⟩
                  rw [hy2] at u1 L1
                  clear a0 h61 hs1 hy2
                  go_wp2_with fail
                  with_reducible refine L1.out.mono ?_
                  rintro _ w3 ⟨a3, c3, rfl, _, _, h3⟩
                  have G3 := Lib.hid (G2.out.trans h3)
                  clear h3 L1
                  have WK := Lib.hid (wakes_any w3 (mks_grw G3.out HT.out) (tab_grw G3.out HTT.out))
                  go_wp2_with fail
                  with_reducible refine WK.out.mono ?_
                  rintro _ v8 ⟨rfl, j8⟩
                  go_wp2_with fail
                  go_ret
                  exact ⟨rfl, G3.out.trans j8⟩

set_option maxHeartbeats 1000000 in
set_option maxRecDepth 100000 in
theorem wrong_long (a b : ByteArray) (c : UInt8) (w : World) (t : Mks w) (tt : Tab w) (hza : a.size ≤ 140737488355328) (hzb : b.size ≤ 140737488355328) (hab : ¬ a.size + b.size + 1 ≤ 60) :
    Calls Tryd.prog 7 #[.string a, .string b, .int .u8 c.toNat] w fun e w' => e = .returned (.bool true) ∧ Grw w w' := by
  have zab : (60 : Int) < (a.size : Int) + b.size + 1 := by omega
  have zad : decide ((60 : Int) < (a.size : Int) + b.size + 1) = true := decide_eq_true zab
  have za : (a.size : Int) ≤ 140737488355328 := by omega
  have zb : (b.size : Int) ≤ 140737488355328 := by omega
  have WK := Lib.hid (wakes_any w t tt)
  clear t tt hza hzb hab
  go_enter Tryd.func7, Tryd.ntmps7
  go_wp2_with fail
  with_reducible refine WK.out.mono ?_
  rintro _ w8 ⟨rfl, h8⟩
  go_wp2_with fail
  go_ret
  exact ⟨rfl, h8⟩
end Go.Proofs.YtiocnagbcbhggaaDoor
