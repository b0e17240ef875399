/- The law TurnFirst, walked. -/
import Derived.Test.YtffoaldfklcfgaaRx
namespace Go.Proofs.Ytffoaldfklcfgaa
open Go.RowKit
set_option linter.unusedSimpArgs false

set_option maxHeartbeats 4000000 in
set_option maxRecDepth 100000 in
theorem first_walk (g : Nat) (ao : Option Addr) (cap : Nat) (ps : List (Nat × Nat)) (w : World) (hg : g < 65536) (hl : Lies w ao (cp .u16 ps)) (hps : ∀ d ∈ ps, d.1 < 65536 ∧ d.2 < 65536) :
    Calls Try.prog 6 #[.int .u16 (g : Nat), .slice ao ps.length cap] w fun e w' => e = .returned (.bool true) ∧ Grw w w' := by
  obtain ⟨i0, hi, hz0, hz1, hz2⟩ := info_parts Try.info24
  obtain ⟨i4, hi4, hz4, hs4, hb4⟩ := info_parts Try.info4
  obtain ⟨n, hn⟩ : ∃ n, ps.length = n := ⟨_, rfl⟩
  rw [hn]
  have WK := Lib.hid wakes_any
  have HN := Lib.hid hn
  have LI := Lib.hid hl
  have HP := Lib.hid hps
  clear hn hl hps
  by_cases hbig : 30 < n
  · have hb1 : decide ((30 : Int) < (n : Int)) = true := by simp; omega
    have hb2 : decide (30 < n) = true := by simp; omega
    clear hi hz0 hz1 hz2 hi4 hz4 hs4 hb4
    go_enter Try.func6, Try.ntmps6
    go_wp2_with fail
    refine (WK.out _).mono ?_
    rintro _ w1 ⟨rfl, hw⟩
    have G := Lib.hid hw
    clear hw
    go_wp2_with fail
    go_ret
    exact ⟨rfl, G.out⟩
  · have hb1 : decide ((30 : Int) < (n : Int)) = false := by simp; omega
    have hb2 : decide (30 < n) = false := by simp; omega
    obtain ⟨L, hL⟩ : ∃ L, jobs 0 ps = L := ⟨_, rfl⟩
    have hLn : L.length = n := by rw [← hL, jobs_len, HN.out]
    have hLat : ∀ j (h : j < ps.length) (h' : j < L.length), L[j] = ⟨(j : Int), (ps[j].1 : Int) % 8, (ps[j].2 : Int)⟩ := by
      intro j h h'
      subst hL
      rw [jobs_at 0 ps j h h']
      congr 1
      congr 1
      omega
    have hid : ∀ j k (hj : j < L.length) (hk : k < L.length), j ≠ k → L[j].id ≠ L[k].id := by
      intro j k hj hk hne
      rw [hLat j (by rw [HN.out]; omega) hj, hLat k (by rw [HN.out]; omega) hk]
      simp only
      omega
    have HL := Lib.hid hLn
    have LA := Lib.hid hLat
    have ID := Lib.hid hid
    obtain ⟨a, ha⟩ : ∃ a : Int, 1 + (g : Int) % 1000 = a := ⟨_, rfl⟩
    have q1 : IntKind.i64.wrap (g : Int) = g := by simp [IntKind.wrap_i64]; omega
    have q3 : IntKind.i64.wrap (1 + (g : Int) % 1000) = a := by rw [ha]; simp [IntKind.wrap_i64]; omega
    clear hL hLn hLat hid ha
    go_enter Try.func6, Try.ntmps6
    go_wp2_with fail
    go_loopw [6, 7] (fun v u wr => ∃ k : Nat, k ≤ n ∧ u = .int .i64 k ∧ wr.ownsRow w.heap.size 24 3 v k (cw (L.take k)) ∧ Grw w wr) (fun _ u _ => n - (intOf u).toNat)
    case atStart => exact ⟨0, Nat.zero_le _, rfl, World.ownsRow_nil _ _ _ _, Grw.rfl' _⟩
    case round =>
      obtain ⟨k, hk, rfl, hown, hg⟩ := hrel
      by_cases hk' : k < n
      · have hki : (k : Int) < (n : Int) := by omega
        have hkp : k < ps.length := by rw [HN.out]; exact hk'
        have hkl : k < L.length := by rw [HL.out]; exact hk'
        obtain ⟨b, off, rfl, c0, c1⟩ := plies_at (LI.out.later hg) hkp
        have hx := LA.out k hkp hkl
        have hb := HP.out _ (List.getElem_mem hkp)
        obtain ⟨d, hd⟩ : ∃ d, ps[k] = d := ⟨_, rfl⟩
        rw [hd] at c0 c1 hx hb
        obtain ⟨p, q⟩ := d
        simp only at c0 c1 hx hb
        have J := Lib.hid (fun w => job_is k p q w hb.1 hb.2)
        obtain ⟨z, hz⟩ : ∃ z, (p : Int) % 8 = z := ⟨_, rfl⟩
        rw [hz] at J hx
        have E : Hid (cw (L.take (k + 1)) = cw (L.take k) ++ cw [⟨(k : Int), z, (q : Int)⟩]) := (by rw [List.take_succ_eq_append_getElem hkl, hx, cw_app] : cw (L.take (k + 1)) = cw (L.take k) ++ cw [⟨(k : Int), z, (q : Int)⟩])
        have O := Lib.hid hown
        have G := Lib.hid hg
        obtain ⟨xs, hxs⟩ : ∃ xs, cw (L.take k) = xs := ⟨_, rfl⟩
        rw [hxs] at E O
        clear hx hb hd hz hown hg hxs hi4 hz4 hs4 hb4
        go_wp2_with fail
        refine (J.out _).mono ?_
        rintro _ w1 ⟨rfl, hw⟩
        have O1 := Lib.hid (own_later (own_later O.out hw) ((Grw.rfl' w1).alloc (.cells #[.int .i64 (k : Int), .int .i64 z, .int .i64 (q : Int)] 24)))
        have G1 := Lib.hid ((G.out.trans hw).alloc (.cells #[.int .i64 (k : Int), .int .i64 z, .int .i64 (q : Int)] 24))
        have D1 := Lib.hid (one_wt w1 ⟨(k : Int), z, (q : Int)⟩)
        have D2 := Lib.hid (cw_one [⟨(k : Int), z, (q : Int)⟩])
        clear hw c0 c1
        go_wp2_with (at_builtin; refine wpList_append_own _ rfl _ _ 25 rfl w.heap.size 24 i0 _ 3 24 Try.underlying25 hi hz0 hz1 hz2 rfl (by decide) _ _ _ rfl O1.out ⟨w1.heap.size, 0, none⟩ 1 1 (cw [⟨(k : Int), z, (q : Int)⟩]) rfl rfl (by simpa using D1.out) D2.out (by unfold maxLen; omega) (by omega) (Below.size G1.out) ?_)
        intro v' w2 hown' hgrow _
        have U := Lib.hid (And.intro hown' (grown_own O1.out G1.out hgrow))
        clear hown' hgrow
        go_wp2_with fail
        go_roundw
        case rel => exact ⟨k + 1, by omega, by go_num, by rw [E.out]; exact U.out.1, U.out.2⟩
        case measure => simp [intOf]; omega
      · have hki : ¬ (k : Int) < (n : Int) := by omega
        obtain rfl : n = k := by omega
        have e : L.take n = L := List.take_of_length_le (by rw [HL.out]; exact Nat.le_refl _)
        rw [e] at hown
        obtain ⟨lo, lc, rfl, hlies⟩ := ownsRow_lies hown
        have LW := Lib.hid hlies
        have G := Lib.hid hg
        have OW := Lib.hid hown
        have hlen : L.length ≤ 1000000 := by rw [HL.out]; omega
        obtain ⟨r, hr⟩ : ∃ r, frs a L = r := ⟨_, rfl⟩
        have F := Lib.hid (first_is a lo lc L n r wr hlies hlen HL.out hr)
        rcases Nat.eq_zero_or_pos n with h0 | h0
        · have hL0 : L = [] := List.eq_nil_of_length_eq_zero (by rw [HL.out]; exact h0)
          have hr' : r = -1 := by rw [← hr, hL0]; rfl
          subst hr'
          have z1 : ((n : Int) == 0) = true := by simp [h0]
          have z2 : (n == 0) = true := by simp [h0]
          clear hlies hg hown e hr hL0 h0 hi hz0 hz1 hz2 hi4 hz4 hs4 hb4
          go_wp2_with fail
          refine F.out.mono ?_
          rintro _ w1 ⟨rfl, hw⟩
          have G1 := Lib.hid (G.out.trans hw)
          clear hw
          go_wp2_with fail
          refine (WK.out _).mono ?_
          rintro _ w2 ⟨rfl, hw⟩
          have G2 := Lib.hid (G1.out.trans hw)
          clear hw
          go_wp2_with fail
          go_ret
          exact ⟨rfl, G2.out⟩
        · obtain ⟨j, hj, hF⟩ := frs_spec a (l := L) (by rw [HL.out]; exact h0)
          have hr' : r = (j : Int) := by rw [← hr]; exact hj
          subst hr'
          have hjn : j < n := by have := hF.lt; rw [HL.out] at this; exact this
          have z1 : ((n : Int) == 0) = false := by simp; omega
          have z2 : (n == 0) = false := by simp; omega
          have z3 : decide ((j : Int) < 0) = false := by simp
          have z4 : decide ((n : Int) ≤ (j : Int)) = false := by simp; omega
          have z5 : decide (n ≤ j) = false := by simp; omega
          have FJ := Lib.hid hF
          clear hlies hg hown e hr hj hF hi hz0 hz1 hz2
          go_wp2_with fail
          refine F.out.mono ?_
          rintro _ w1 ⟨rfl, hw⟩
          have G1 := Lib.hid (G.out.trans hw)
          have LW1 := Lib.hid (LW.out.later hw)
          have OW1 := Lib.hid (own_later OW.out hw)
          clear hw
          go_wp2_with (at_make; refine wpList_make_full _ rfl _ _ 43 rfl 0 4 i4 _ 1 Try.underlying43 hi4 hz4 hs4 .i64 .i64 _ _ n rfl rfl rfl rfl (by rw [hb4]; omega) (by unfold maxLen; omega) (Nat.zero_le _) ?_)
          intro w2 hown2 hgrow2
          have g2 : Grw w1 w2 := (grownBy_frm hgrow2).grw (Grw.rfl' w1) (fun k hk => by cases hk)
          have hlo : ∀ q, lo = some q → q.block < w1.heap.size := by
            intro q hq
            subst hq
            exact (World.ownsRow.lt OW1.out q.block rfl).2
          obtain ⟨tb, htb⟩ : ∃ tb, w1.heap.size = tb := ⟨_, rfl⟩
          rw [htb] at hown2 hlo ⊢
          have T0 : Hid (Told w2 tb n (sn a L 0)) := (⟨by
            rw [bl_none n (sn a L 0) (fun k _ => sn_zero a L k)]
            rw [← toList_madeCells_one, ← Nat.mul_one n]
            simpa using hown2⟩ : Told w2 tb n (sn a L 0))
          have G2 := Lib.hid (G1.out.trans g2)
          have LW2 := Lib.hid (LW1.out.later g2)
          have LO := Lib.hid (And.intro hlo (show w.heap.size ≤ tb by rw [← htb]; exact Below.size G1.out))
          clear hown2 hgrow2 g2 hlo htb hi4 hz4 hs4 hb4 F
          go_wp2_with fail
          go_loopw [10] (fun u wk => ∃ i : Nat, i ≤ n ∧ u = .int .i64 i ∧ Told wk tb n (sn a L i) ∧ Frm (fun q => q = tb) w2 wk) (fun u _ => n - (intOf u).toNat)
          case atStart => exact ⟨0, Nat.zero_le _, rfl, T0.out, Frm.rfl' _ _⟩
          case round =>
            obtain ⟨i, hin, rfl, htold, hfrm⟩ := hrel
            by_cases hi' : i < n
            · have hii : (i : Int) < (n : Int) := by omega
              have hil : i < L.length := by rw [HL.out]; exact hi'
              have hlw := LW2.out.frm hfrm (fun q hq e => by have := LO.out.1 q hq; omega)
              have hxid := LA.out i (by rw [HN.out]; exact hi') hil
              obtain ⟨b, off, rfl, c0, c1, c2⟩ := wlies_at hlw hil
              obtain ⟨m, hm⟩ : ∃ m, ahd a L[i] L = m := ⟨_, rfl⟩
              have hmn : m < n := by rw [← hm, ← HL.out]; exact ahd_lt (List.getElem_mem hil)
              have hnew := sn_new a L hil ID.out
              rw [hm] at hnew
              have hsucc := sn_succ a L hil hm
              have hzero : m = 0 ↔ i = j := by
                constructor
                · intro h
                  have hfi : Fst a L i := by
                    refine ⟨hil, fun q hq => ahd_zero (by rw [hm]; exact h) (List.getElem_mem hq), fun q hq hqi => ?_⟩
                    exact les_tot (ahd_zero (l := L) (by rw [hm]; exact h) (List.getElem_mem hq)) (ID.out q i hq hil (by omega))
                  exact hfi.one FJ.out
                · intro h
                  subst h
                  rw [← hm]
                  exact FJ.out.none
              obtain ⟨x, hx⟩ : ∃ x, L[i] = x := ⟨_, rfl⟩
              rw [hx] at c0 c1 c2 hm
              obtain ⟨xi, xc, xm⟩ := x
              simp only at c0 c1 c2
              have A0 := Lib.hid (ahead_is a xi xc xm (some ⟨b, off, none⟩) lc L n m wr hlw hlen HL.out hm)
              have NW := Lib.hid hnew
              have SU := Lib.hid hsucc
              have TO := Lib.hid htold
              have FR := Lib.hid hfrm
              have x3 : decide ((m : Int) < 0) = false := by simp
              have x4 : decide ((n : Int) ≤ (m : Int)) = false := by simp; omega
              have x5 : decide (n ≤ m) = false := by simp; omega
              clear hm hx hnew hsucc htold hfrm hlw hxid
              by_cases hm0 : m = 0
              · have hij := hzero.1 hm0
                clear hzero
                have y1 : ((m : Int) == 0) = true := by simp [hm0]
                have y2 : ((i : Int) == (j : Int)) = true := by simp [hij]
                have y3 : (m == 0) = true := by simp [hm0]
                have y4 : (i == j) = true := by simp [hij]
                clear hm0 hij
                go_wp2_with fail
                refine A0.out.mono ?_
                rintro _ w3 ⟨rfl, hw⟩
                have f3 : Frm (fun q => q = tb) w2 w3 := FR.out.grw' hw
                have t3 := TO.out.frm (hw.frm (fun _ => False)) (fun e => e)
                have s0 := t3.cell hmn
                rw [NW.out] at s0
                have s1 := t3.fz m
                have S3 := Lib.hid (t3.set m (fun q hq => SU.out q))
                have F3 := Lib.hid f3
                clear hw f3 t3 c0 c1 c2
                go_wp2_with fail
                go_roundw
                case rel => exact ⟨i + 1, by omega, by go_num, S3.out.1, F3.out.trans S3.out.2 (fun _ e => Or.inl e)⟩
                case measure => simp [intOf]; omega
              · have hij : ¬ i = j := fun e => hm0 (hzero.2 e)
                clear hzero
                have y1 : ((m : Int) == 0) = false := by simp; omega
                have y2 : ((i : Int) == (j : Int)) = false := by simp; omega
                have y3 : (m == 0) = false := by simp; omega
                have y4 : (i == j) = false := by simp; omega
                clear hm0 hij
                go_wp2_with fail
                refine A0.out.mono ?_
                rintro _ w3 ⟨rfl, hw⟩
                have f3 : Frm (fun q => q = tb) w2 w3 := FR.out.grw' hw
                have t3 := TO.out.frm (hw.frm (fun _ => False)) (fun e => e)
                have s0 := t3.cell hmn
                rw [NW.out] at s0
                have s1 := t3.fz m
                have S3 := Lib.hid (t3.set m (fun q hq => SU.out q))
                have F3 := Lib.hid f3
                clear hw f3 t3 c0 c1 c2
                go_wp2_with fail
                go_roundw
                case rel => exact ⟨i + 1, by omega, by go_num, S3.out.1, F3.out.trans S3.out.2 (fun _ e => Or.inl e)⟩
                case measure => simp [intOf]; omega
            · have hii : ¬ (i : Int) < (n : Int) := by omega
              have FR := Lib.hid hfrm
              clear htold hfrm
              go_wp2_with fail
              refine (WK.out _).mono ?_
              rintro _ w3 ⟨rfl, hw⟩
              have G3 := Lib.hid ((FR.out.grw G2.out (fun q hq => by subst hq; exact LO.out.2)).trans hw)
              clear hw
              go_wp2_with fail
              go_ret
              exact ⟨rfl, G3.out⟩
end Go.Proofs.Ytffoaldfklcfgaa
