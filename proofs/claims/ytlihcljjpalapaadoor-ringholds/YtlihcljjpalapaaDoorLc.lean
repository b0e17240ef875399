/- The law RingHolds at this program. -/
import Derived.Test.YtlihcljjpalapaaDoorMh
import Derived.Test.YtlihcljjpalapaaDoorLa
import Derived.Test.YtlihcljjpalapaaDoorSb
namespace Go.Proofs.YtlihcljjpalapaaDoor
open Go.RowKit MK
open RG (Du La listR putB putR dropR dropO takeR hasId)
set_option linter.unusedSimpArgs false

theorem mod_is (n : Int) (m : Nat) (r : Int) (w : World) (h0 : 0 < m) (hm : m ≤ 64) (h : n % (m : Int) = r) :
    Calls Tryd.prog 7 #[.int .i64 n, .int .i64 (m : Int)] w fun e w' => e = .returned (.int .i64 r) ∧ w = w' := by rw [← h]; exact mod_any n m w h0 hm
theorem hput (f : Nat → Ac) (i : Nat) (b : Nat) (A : Array Value) (w : World) (h : RingR w b A (hols f i)) (hi : i < 1000) :
    Calls Tryd.prog 8 #[.pointer (some ⟨b, 0, none⟩), .int .i64 ((f i).s % 64), dv ⟨(i : Int), (f i).d.t⟩] w fun e w' => e = .returned (.bool true) ∧ RQ b A w (hols f (i + 1)) w' :=
  put_is b A _ _ _ _ true w h (by rw [hols_len]; exact hi) (hols_put f i).1 (hols_put f i).2
/-- what holds of the ring as it is taken from. -/
structure Hold (w0 w : World) (b : Nat) (A : Array Value) (f : Nat → Ac) (n : Nat) (R : List La) : Prop where
  ring : RingR w b A R
  mine : Mine w0 b A
  grw : Grw w0 w
  frm : From f n R
set_option maxHeartbeats 8000000 in
set_option maxRecDepth 100000 in
theorem holds_walk (ao : Option Addr) (ln cap fr : Nat) (f : Nat → Ac) (w : World) (hln : ln ≤ 9223372036854775807) (hfr : fr < 256) (t : Tab w) (hrow : RowA w ao ln f) :
    Calls Tryd.prog 4 #[.slice ao ln cap, .int .u8 fr] w fun e w' => e = .returned (.bool true) ∧ Grw w w' := by
  have NW := Lib.hid (newR w)
  have RA := Lib.hid hrow
  have TB := Lib.hid t
  obtain ⟨N, hN⟩ : ∃ N, min ln 60 = N := ⟨_, rfl⟩
  have hN1 : N ≤ 60 := by omega
  have hN2 : N ≤ ln := by omega
  have HN := Lib.hid hN
  clear hrow t hN
  go_enter Tryd.func4, Tryd.ntmps4
  go_wp2_with fail
  refine NW.out.mono ?_
  rintro _ w1 ⟨rfl, hr, hg1, _⟩
  obtain ⟨b, hb⟩ : ∃ b, w.heap.size = b := ⟨_, rfl⟩
  obtain ⟨A, hA⟩ : ∃ A, Array.replicate 64 (Value.slice none 0 0) = A := ⟨_, rfl⟩
  have H1 : Hid (RingR w1 b A [] ∧ Mine w b A ∧ Grw w w1) := (by have := mine_new w; rw [hA, hb] at this hr; exact ⟨hr, this, hg1⟩ : RingR w1 b A [] ∧ Mine w b A ∧ Grw w w1)
  rw [hb]
  clear hr hA hb hg1
  go_wp2_with fail
  go_loopw [6, 7] (fun u v wr => ∃ i : Nat, i ≤ N ∧ u = .int .i64 i ∧ v = .int .i64 i ∧ ∃ A', RingR wr b A' (hols f i) ∧ Mine w b A' ∧ Grw w wr) (fun _ v _ => N - (intOf v).toNat)
  case atStart => exact ⟨0, Nat.zero_le _, rfl, rfl, A, H1.out⟩
  case round =>
    obtain ⟨i, hi, rfl, rfl, A', hR⟩ := hrel
    have H := Lib.hid hR
    clear hR
    by_cases hi' : i < N
    · have hii : decide ((i : Int) < (ln : Int)) = true := by simp; omega
      have hi60 : decide ((i : Int) < 60) = true := by simp; omega
      have hil : i < ln := by omega
      have hili : (i : Int) < (ln : Int) := by omega
      obtain ⟨lb, loff, rfl, hc⟩ := (RA.out.later H.out.2.2).at (by omega : 0 < ln)
      obtain ⟨c0, c1, c2, c3⟩ := hc i hil
      have PU := fun u (h : RingR u b A' (hols f i)) => hput f i b A' u h (by omega)
      unfold dv at PU
      simp only at PU
      obtain ⟨x, hx⟩ : ∃ x, (f i).s = x := ⟨_, rfl⟩
      obtain ⟨z, hz⟩ : ∃ z, (f i).d.t = z := ⟨_, rfl⟩
      rw [hx] at c1 PU
      rw [hz] at c3 PU
      obtain ⟨m, hm⟩ : ∃ m, x % 64 = m := ⟨_, rfl⟩
      rw [hm] at PU
      have MO := Lib.hid (fun u => mod_is x 64 m u (by omega) (by omega) hm)
      have PU := Lib.hid PU
      have AF : Hid (∀ u x' : World, u.heap = wr.heap → RQ b A' u (hols f (i + 1)) x' → x'.cell? ⟨lb, loff + i * 4 + 1, none⟩ = some (.int .i64 x) ∧ x'.cell? ⟨lb, loff + i * 4 + 3, none⟩ = some (.int .u64 z)) := (fun u x' hu hq => by
        obtain ⟨_, _, hfrm, _⟩ := hq
        have hlb : lb < w.heap.size := by
          have := RA.out
          rcases this with h | ⟨b', off', e, hb', _⟩
          · omega
          · injection e with e; injection e with e1 e2; omega
        have hn : ¬ foot b A' lb := fun e => by have := H.out.2.1 lb e; omega
        have d1 : u.cell? ⟨lb, loff + i * 4 + 1, none⟩ = some (.int .i64 x) := by rw [World.cell?, hu]; exact c1
        have d3 : u.cell? ⟨lb, loff + i * 4 + 3, none⟩ = some (.int .u64 z) := by rw [World.cell?, hu]; exact c3
        exact ⟨hfrm.cell d1 hn, hfrm.cell d3 hn⟩ : ∀ u x' : World, u.heap = wr.heap → RQ b A' u (hols f (i + 1)) x' → x'.cell? ⟨lb, loff + i * 4 + 1, none⟩ = some (.int .i64 x) ∧ x'.cell? ⟨lb, loff + i * 4 + 3, none⟩ = some (.int .u64 z))
      have HD : Hid (RingR wr.drew b A' (hols f i)) := (H.out.1.later ((Grw.rfl' wr).drew) : RingR wr.drew b A' (hols f i))
      clear hc c0 c2 hx hz hm
      go_wp2_with fail
      go_region_held3 (fun u => u.cell? ⟨lb, loff + i * 4 + 1, none⟩ = some (.int .i64 x) ∧ u.cell? ⟨lb, loff + i * 4 + 3, none⟩ = some (.int .u64 z)) (first | go_keep | exact ⟨hk1, hk3⟩)
        (first | (go_at_call 7; refine (MO.out _).mono ?_; rintro _ w2 ⟨rfl, rfl⟩) | (go_at_call 8; refine (PU.out wr.drew HD.out).mono ?_; rintro _ w2 ⟨rfl, hq⟩; have hk1 := (AF.out wr.drew w2 rfl hq).1; have hk3 := (AF.out wr.drew w2 rfl hq).2))
      obtain ⟨A2, h2⟩ := hq.out H.out.2.1 (H.out.2.2.drew)
      have H2 := Lib.hid h2
      clear hq h2 hk1 hk3 c1 c3
      go_wp2_with fail
      go_roundw
      case rel => exact ⟨i + 1, by omega, by go_num, by go_num, A2, H2.out⟩
      case measure => simp [intOf]; omega
    · obtain rfl : N = i := by omega
      have hN := HN.out
      by_cases hll : ln ≤ 60
      · have hii : ¬ (N : Int) < (ln : Int) := by omega
        have hiin : decide (N < ln) = false := by simp; omega
        clear hN hll
        have LE := Lib.hid (len_is b A' (hols f N) N wr H.out.1 (hols_len f N))
        have hne : ((N : Int) != (N : Int)) = false := by simp
        obtain ⟨a0, ha0⟩ : ∃ a0, fr % 64 = a0 := ⟨_, rfl⟩
        have ha1 : (fr : Int).tmod 64 = (a0 : Int) := by rw [Int.tmod_eq_emod_of_nonneg (by omega)]; omega
        have ha2 : (fr : Int) % 64 = (a0 : Int) := by omega
        have ha3 : a0 < 64 := by omega
        have HO : Hid (Hold w wr b A' f N (hols f N)) := (⟨H.out.1, H.out.2.1, H.out.2.2, from_hols f N⟩ : Hold w wr b A' f N (hols f N))
        have HL := Lib.hid (hols_len f N)
        obtain ⟨R0, hR0⟩ : ∃ R0, hols f N = R0 := ⟨_, rfl⟩
        rw [hR0] at HO HL
        clear ha0 hR0 hi H
        go_wp2_with fail
        refine LE.out.mono ?_
        rintro _ w2 ⟨rfl, rfl⟩
        go_wp2_with fail
        clear ha1 ha2
        go_loopw [6, 8] (fun u v wl => ∃ (n a : Nat) (R : List La) (A2 : Array Value), u = .int .i64 n ∧ v = .int .i64 a ∧ R.length = n ∧ a < 64 ∧ Hold w wl b A2 f N R) (fun u _ _ => (intOf u).toNat)
        case atStart => exact ⟨N, a0, R0, A', rfl, rfl, HL.out, ha3, HO.out⟩
        case round =>
          obtain ⟨n, a, R, A2, rfl, rfl, hRn, ha, hH⟩ := hrel
          have HH := Lib.hid hH
          have RN := Lib.hid hRn
          clear hH hRn
          have hn60 : n ≤ 1000 := by rw [← RN.out]; exact HH.out.ring.few
          by_cases hpos : 0 < n
          · have hposi : decide (0 < (n : Int)) = true := by simp; omega
            have hposj : 0 < (n : Int) := by omega
            obtain ⟨k, hk, hrnd, hlen⟩ := first_found HH.out.ring.good (by rw [RN.out]; exact hpos) a ha
            have FI := Lib.hid (first_R b A2 R (a : Int) (k : Int) true wr HH.out.ring (tab_grw HH.out.grw TB.out) (by unfold mR; rw [hrnd]; rfl) (by unfold mR; rw [hrnd]; rfl))
            have TA := Lib.hid (take_R b A2 R (k : Int) wr HH.out.ring)
            have TL := Lib.hid (take_len (R := R) (k : Int))
            obtain ⟨tl, htl⟩ : ∃ tl, listR R (k : Int) = tl := ⟨_, rfl⟩
            have FR : Hid (∀ i (hi : i < tl.length), ∃ j, j < N ∧ tl[i] = ⟨(j : Int), (f j).d.t⟩ ∧ (f j).s % 64 = (k : Int)) := (by subst htl; exact fun i hi => from_at HH.out.frm hi : ∀ i (hi : i < tl.length), ∃ j, j < N ∧ tl[i] = ⟨(j : Int), (f j).d.t⟩ ∧ (f j).s % 64 = (k : Int))
            have LS : Hid (∀ i (hi : i + 1 < tl.length), RG.less (tl[i]'(by omega)) tl[i + 1] = true) := (by subst htl; exact fun i hi => listR_less HH.out.ring.good (k : Int) hi : ∀ i (hi : i + 1 < tl.length), RG.less (tl[i]'(by omega)) tl[i + 1] = true)
            rw [htl] at TA TL hlen
            clear hrnd htl
            go_wp2_with fail
            refine FI.out.mono ?_
            rintro _ w2 ⟨rfl, rfl⟩
            go_wp2_with fail
            refine TA.out.mono ?_
            rintro _ w2 ⟨v, rfl, hrow, hq⟩
            obtain ⟨A3, hr3, hm3, hg3⟩ := hq.out HH.out.mine HH.out.grw
            have H3 : Hid (Hold w w2 b A3 f N (takeR R (k : Int))) := (⟨hr3, hm3, hg3, from_take HH.out.frm _⟩ : Hold w w2 b A3 f N (takeR R (k : Int)))
            obtain ⟨to, tc, rfl, hlies⟩ := hrow
            have LI := Lib.hid hlies
            obtain ⟨m, hm⟩ : ∃ m, tl.length = m := ⟨_, rfl⟩
            have HM := Lib.hid hm
            rw [hm] at hlen TL ⊢
            have hm0 : ((m : Int) == 0) = false := by simp; omega
            have hmn : m ≤ n := by have := TL.out; have := RN.out; omega
            clear hr3 hm3 hg3 hq hlies hm
            go_wp2_with fail
            go_loopw [12] (fun u wi => ∃ i : Nat, i ≤ m ∧ u = .int .i64 i ∧ Grw w2 wi) (fun u _ => m - (intOf u).toNat)
            case atStart => exact ⟨0, Nat.zero_le _, rfl, Grw.rfl' _⟩
            case round =>
              obtain ⟨i, hi, rfl, hgi⟩ := hrel
              have GI := Lib.hid hgi
              clear hgi
              by_cases hi' : i < m
              · have hii : (i : Int) < (m : Int) := by omega
                have hil : i < tl.length := by rw [HM.out]; exact hi'
                obtain ⟨tb, toff, rfl, t0, t1⟩ := lies_at (LI.out.later GI.out) hil
                obtain ⟨j, hj, hdj, hsj⟩ := FR.out i hil
                rw [hdj] at t0 t1
                obtain ⟨lb, loff, rfl, hc⟩ := (RA.out.later (H3.out.grw.trans GI.out)).at (by omega : 0 < ln)
                obtain ⟨_, l1, _, l3⟩ := hc j (by omega)
                obtain ⟨x, hx⟩ : ∃ x, (f j).s = x := ⟨_, rfl⟩
                obtain ⟨z, hz⟩ : ∃ z, (f j).d.t = z := ⟨_, rfl⟩
                rw [hx] at l1 hsj
                rw [hz] at l3 t0 t1 hdj
                simp only at t0 t1
                have MO := Lib.hid (fun u => mod_is x 64 (k : Int) u (by omega) (by omega) hsj)
                have g1 : Grw wr (wr.alloc (.cells #[.int .i64 (j : Int), .int .u64 z] 31)) := (Grw.rfl' _).alloc _
                have m1 := gw_cell (g1.cell l1)
                have m3 := gw_cell (g1.cell l3)
                have q0 := gw_cell (Kp.new wr (.int .i64 (j : Int)) (.int .u64 z) 31).t.c0
                have q1 := gw_cell (Kp.new wr (.int .i64 (j : Int)) (.int .u64 z) 31).t.c1
                have b1 : decide ((j : Int) < 0) = false := by simp
                have b2 : decide ((ln : Int) ≤ (j : Int)) = false := by simp; omega
                have b2n : decide (ln ≤ j) = false := by simp; omega
                have b3 : ((z : Int) != (z : Int)) = false := by simp
                have b4 : ((k : Int) != (k : Int)) = false := by simp
                have hjl : (j : Int) < (ln : Int) := by omega
                have hjn : j < ln := by omega
                have GX := Lib.hid (GI.out.trans g1)
                clear hc hx hz l1 l3 hsj
                by_cases hi0 : i = 0
                · subst hi0
                  clear hdj
                  simp only [Nat.zero_mul, Nat.add_zero] at t0 t1
                  go_wp2_with fail
                  refine wp_region_grown (by kernel_rfl) (by kernel_rfl) ?_
                  repeat (go_big_quiet_step (first | (go_at_call 7; exact calls_grown_same (MO.out _))))
                  refine wpQuiet_nil ?_
                  rintro _ ⟨q', rfl⟩
                  have GQ := Lib.hid (GX.out.trans q'.h)
                  clear m1 m3 q0 q1 b1 b2 b3 b4
                  go_wp2_with fail
                  go_roundw
                  case rel => exact ⟨1, by omega, by go_num, GQ.out⟩
                  case measure => simp [intOf]; omega
                · have b5 : decide (0 < (i : Int)) = true := by simp; omega
                  have b5n : decide (0 < i) = true := by simp; omega
                  obtain ⟨e, he⟩ : ∃ e, i = e + 1 := ⟨i - 1, by omega⟩
                  have hel : e < tl.length := by omega
                  obtain ⟨tb2, toff2, e2, s0, s1⟩ := lies_at (LI.out.later GI.out) hel
                  injection e2 with e2
                  injection e2 with e2 e3
                  subst e2; subst e3
                  have hless : RG.less tl[e] ⟨(j : Int), z⟩ = true := by
                    have := LS.out e (by omega)
                    simp only [← he] at this
                    rw [hdj] at this
                    exact this
                  obtain ⟨y, hy⟩ : ∃ y, tl[e] = y := ⟨_, rfl⟩
                  rw [hy] at s0 s1 hless
                  have C := Lib.hid (fun w => less_is y ⟨(j : Int), z⟩ true hless w)
                  obtain ⟨yi, yt⟩ := y
                  unfold dv at C
                  simp only at C s0 s1
                  have n0 := gw_cell (g1.cell s0)
                  have n1 := gw_cell (g1.cell s1)
                  have hsub : IntKind.i64.wrap ((i : Int) - 1) = (e : Int) := by rw [IntKind.wrap_i64]; omega
                  have hem : (e : Int) < (m : Int) := by omega
                  have hem' : e < m := by omega
                  clear hdj hy s0 s1 hless he hi0
                  go_wp2_with fail
                  refine wp_region_grown (by kernel_rfl) (by kernel_rfl) ?_
                  repeat (go_big_quiet_step (first | (go_at_call 7; exact calls_grown_same (MO.out _)) | (go_at_call 20; exact calls_grown (C.out _))))
                  refine wpQuiet_nil ?_
                  rintro _ ⟨q', rfl⟩
                  have GQ := Lib.hid (GX.out.trans q'.h)
                  clear m1 m3 q0 q1 b1 b2 b3 b4 b5 n0 n1 hsub
                  go_wp2_with fail
                  go_roundw
                  case rel => exact ⟨i + 1, by omega, by go_num, GQ.out⟩
                  case measure => simp [intOf]; omega
              · have hii : ¬ (i : Int) < (m : Int) := by omega
                have k1 : ((k : Int) + 1).tmod 64 = (((k + 1) % 64 : Nat) : Int) := by rw [Int.tmod_eq_emod_of_nonneg (by omega)]; omega
                have k2 : ((k : Int) + 1) % 64 = (((k + 1) % 64 : Nat) : Int) := by omega
                obtain ⟨kk, hkk⟩ : ∃ kk, (k + 1) % 64 = kk := ⟨_, rfl⟩
                rw [hkk] at k1 k2
                have hkk64 : kk < 64 := by omega
                have HX : Hid (Hold w wr b A3 f N (takeR R (k : Int))) := (⟨H3.out.ring.later GI.out, H3.out.mine, H3.out.grw.trans GI.out, H3.out.frm⟩ : Hold w wr b A3 f N (takeR R (k : Int)))
                have NL : Hid ((takeR R (k : Int)).length = n - m) := (by have := TL.out; have := RN.out; omega : (takeR R (k : Int)).length = n - m)
                clear hkk
                go_wp2_with fail
                refine ⟨⟨n - m, kk, takeR R (k : Int), A3, by go_num, by go_num, NL.out, hkk64, HX.out⟩, by simp [intOf]; omega⟩
          · have hn0 : n = 0 := by omega
            subst hn0
            have hR : R = [] := List.eq_nil_of_length_eq_zero RN.out
            subst hR
            have FI := Lib.hid (first_R b A2 [] (a : Int) 0 false wr HH.out.ring (tab_grw HH.out.grw TB.out) (by rw [show mR [] = 0 from rfl, rnd_zero]; rfl) (by rw [show mR [] = 0 from rfl, rnd_zero]; rfl))
            have L0 := Lib.hid (len_is b A2 [] 0 wr HH.out.ring rfl)
            have M0 := mask_R b A2 [] wr HH.out.ring
            rw [show mR [] = 0 from rfl] at M0
            have M0 := Lib.hid M0
            have WK := Lib.hid (wakes_any wr)
            go_wp2_with fail
            refine FI.out.mono ?_
            rintro _ w2 ⟨rfl, rfl⟩
            go_wp2_with fail
            refine L0.out.mono ?_
            rintro _ w2 ⟨rfl, rfl⟩
            go_wp2_with fail
            refine M0.out.mono ?_
            rintro _ w2 ⟨rfl, rfl⟩
            go_wp2_with fail
            refine WK.out.mono ?_
            rintro _ w2 ⟨rfl, hw2⟩
            have GF := Lib.hid (HH.out.grw.trans hw2)
            clear hw2
            go_wp2_with fail
            go_ret
            exact ⟨rfl, GF.out⟩
      · have hii : (N : Int) < (ln : Int) := by omega
        have hiin : decide (N < ln) = true := by simp; omega
        have hi60 : ¬ (N : Int) < 60 := by omega
        have hi60n : decide (N < 60) = false := by simp; omega
        have hi60d : decide ((N : Int) < 60) = false := by simp; omega
        clear hN hll
        have LE := Lib.hid (len_is b A' (hols f N) N wr H.out.1 (hols_len f N))
        have hne : ((N : Int) != (N : Int)) = false := by simp
        obtain ⟨a0, ha0⟩ : ∃ a0, fr % 64 = a0 := ⟨_, rfl⟩
        have ha1 : (fr : Int).tmod 64 = (a0 : Int) := by rw [Int.tmod_eq_emod_of_nonneg (by omega)]; omega
        have ha2 : (fr : Int) % 64 = (a0 : Int) := by omega
        have ha3 : a0 < 64 := by omega
        have HO : Hid (Hold w wr b A' f N (hols f N)) := (⟨H.out.1, H.out.2.1, H.out.2.2, from_hols f N⟩ : Hold w wr b A' f N (hols f N))
        have HL := Lib.hid (hols_len f N)
        obtain ⟨R0, hR0⟩ : ∃ R0, hols f N = R0 := ⟨_, rfl⟩
        rw [hR0] at HO HL
        clear ha0 hR0 hi H
        go_wp2_with fail
        refine LE.out.mono ?_
        rintro _ w2 ⟨rfl, rfl⟩
        go_wp2_with fail
        clear ha1 ha2
        go_loopw [6, 8] (fun u v wl => ∃ (n a : Nat) (R : List La) (A2 : Array Value), u = .int .i64 n ∧ v = .int .i64 a ∧ R.length = n ∧ a < 64 ∧ Hold w wl b A2 f N R) (fun u _ _ => (intOf u).toNat)
        case atStart => exact ⟨N, a0, R0, A', rfl, rfl, HL.out, ha3, HO.out⟩
        case round =>
          obtain ⟨n, a, R, A2, rfl, rfl, hRn, ha, hH⟩ := hrel
          have HH := Lib.hid hH
          have RN := Lib.hid hRn
          clear hH hRn
          have hn60 : n ≤ 1000 := by rw [← RN.out]; exact HH.out.ring.few
          by_cases hpos : 0 < n
          · have hposi : decide (0 < (n : Int)) = true := by simp; omega
            have hposj : 0 < (n : Int) := by omega
            obtain ⟨k, hk, hrnd, hlen⟩ := first_found HH.out.ring.good (by rw [RN.out]; exact hpos) a ha
            have FI := Lib.hid (first_R b A2 R (a : Int) (k : Int) true wr HH.out.ring (tab_grw HH.out.grw TB.out) (by unfold mR; rw [hrnd]; rfl) (by unfold mR; rw [hrnd]; rfl))
            have TA := Lib.hid (take_R b A2 R (k : Int) wr HH.out.ring)
            have TL := Lib.hid (take_len (R := R) (k : Int))
            obtain ⟨tl, htl⟩ : ∃ tl, listR R (k : Int) = tl := ⟨_, rfl⟩
            have FR : Hid (∀ i (hi : i < tl.length), ∃ j, j < N ∧ tl[i] = ⟨(j : Int), (f j).d.t⟩ ∧ (f j).s % 64 = (k : Int)) := (by subst htl; exact fun i hi => from_at HH.out.frm hi : ∀ i (hi : i < tl.length), ∃ j, j < N ∧ tl[i] = ⟨(j : Int), (f j).d.t⟩ ∧ (f j).s % 64 = (k : Int))
            have LS : Hid (∀ i (hi : i + 1 < tl.length), RG.less (tl[i]'(by omega)) tl[i + 1] = true) := (by subst htl; exact fun i hi => listR_less HH.out.ring.good (k : Int) hi : ∀ i (hi : i + 1 < tl.length), RG.less (tl[i]'(by omega)) tl[i + 1] = true)
            rw [htl] at TA TL hlen
            clear hrnd htl
            go_wp2_with fail
            refine FI.out.mono ?_
            rintro _ w2 ⟨rfl, rfl⟩
            go_wp2_with fail
            refine TA.out.mono ?_
            rintro _ w2 ⟨v, rfl, hrow, hq⟩
            obtain ⟨A3, hr3, hm3, hg3⟩ := hq.out HH.out.mine HH.out.grw
            have H3 : Hid (Hold w w2 b A3 f N (takeR R (k : Int))) := (⟨hr3, hm3, hg3, from_take HH.out.frm _⟩ : Hold w w2 b A3 f N (takeR R (k : Int)))
            obtain ⟨to, tc, rfl, hlies⟩ := hrow
            have LI := Lib.hid hlies
            obtain ⟨m, hm⟩ : ∃ m, tl.length = m := ⟨_, rfl⟩
            have HM := Lib.hid hm
            rw [hm] at hlen TL ⊢
            have hm0 : ((m : Int) == 0) = false := by simp; omega
            have hmn : m ≤ n := by have := TL.out; have := RN.out; omega
            clear hr3 hm3 hg3 hq hlies hm
            go_wp2_with fail
            go_loopw [12] (fun u wi => ∃ i : Nat, i ≤ m ∧ u = .int .i64 i ∧ Grw w2 wi) (fun u _ => m - (intOf u).toNat)
            case atStart => exact ⟨0, Nat.zero_le _, rfl, Grw.rfl' _⟩
            case round =>
              obtain ⟨i, hi, rfl, hgi⟩ := hrel
              have GI := Lib.hid hgi
              clear hgi
              by_cases hi' : i < m
              · have hii : (i : Int) < (m : Int) := by omega
                have hil : i < tl.length := by rw [HM.out]; exact hi'
                obtain ⟨tb, toff, rfl, t0, t1⟩ := lies_at (LI.out.later GI.out) hil
                obtain ⟨j, hj, hdj, hsj⟩ := FR.out i hil
                rw [hdj] at t0 t1
                obtain ⟨lb, loff, rfl, hc⟩ := (RA.out.later (H3.out.grw.trans GI.out)).at (by omega : 0 < ln)
                obtain ⟨_, l1, _, l3⟩ := hc j (by omega)
                obtain ⟨x, hx⟩ : ∃ x, (f j).s = x := ⟨_, rfl⟩
                obtain ⟨z, hz⟩ : ∃ z, (f j).d.t = z := ⟨_, rfl⟩
                rw [hx] at l1 hsj
                rw [hz] at l3 t0 t1 hdj
                simp only at t0 t1
                have MO := Lib.hid (fun u => mod_is x 64 (k : Int) u (by omega) (by omega) hsj)
                have g1 : Grw wr (wr.alloc (.cells #[.int .i64 (j : Int), .int .u64 z] 31)) := (Grw.rfl' _).alloc _
                have m1 := gw_cell (g1.cell l1)
                have m3 := gw_cell (g1.cell l3)
                have q0 := gw_cell (Kp.new wr (.int .i64 (j : Int)) (.int .u64 z) 31).t.c0
                have q1 := gw_cell (Kp.new wr (.int .i64 (j : Int)) (.int .u64 z) 31).t.c1
                have b1 : decide ((j : Int) < 0) = false := by simp
                have b2 : decide ((ln : Int) ≤ (j : Int)) = false := by simp; omega
                have b2n : decide (ln ≤ j) = false := by simp; omega
                have b3 : ((z : Int) != (z : Int)) = false := by simp
                have b4 : ((k : Int) != (k : Int)) = false := by simp
                have hjl : (j : Int) < (ln : Int) := by omega
                have hjn : j < ln := by omega
                have GX := Lib.hid (GI.out.trans g1)
                clear hc hx hz l1 l3 hsj
                by_cases hi0 : i = 0
                · subst hi0
                  clear hdj
                  simp only [Nat.zero_mul, Nat.add_zero] at t0 t1
                  go_wp2_with fail
                  refine wp_region_grown (by kernel_rfl) (by kernel_rfl) ?_
                  repeat (go_big_quiet_step (first | (go_at_call 7; exact calls_grown_same (MO.out _))))
                  refine wpQuiet_nil ?_
                  rintro _ ⟨q', rfl⟩
                  have GQ := Lib.hid (GX.out.trans q'.h)
                  clear m1 m3 q0 q1 b1 b2 b3 b4
                  go_wp2_with fail
                  go_roundw
                  case rel => exact ⟨1, by omega, by go_num, GQ.out⟩
                  case measure => simp [intOf]; omega
                · have b5 : decide (0 < (i : Int)) = true := by simp; omega
                  have b5n : decide (0 < i) = true := by simp; omega
                  obtain ⟨e, he⟩ : ∃ e, i = e + 1 := ⟨i - 1, by omega⟩
                  have hel : e < tl.length := by omega
                  obtain ⟨tb2, toff2, e2, s0, s1⟩ := lies_at (LI.out.later GI.out) hel
                  injection e2 with e2
                  injection e2 with e2 e3
                  subst e2; subst e3
                  have hless : RG.less tl[e] ⟨(j : Int), z⟩ = true := by
                    have := LS.out e (by omega)
                    simp only [← he] at this
                    rw [hdj] at this
                    exact this
                  obtain ⟨y, hy⟩ : ∃ y, tl[e] = y := ⟨_, rfl⟩
                  rw [hy] at s0 s1 hless
                  have C := Lib.hid (fun w => less_is y ⟨(j : Int), z⟩ true hless w)
                  obtain ⟨yi, yt⟩ := y
                  unfold dv at C
                  simp only at C s0 s1
                  have n0 := gw_cell (g1.cell s0)
                  have n1 := gw_cell (g1.cell s1)
                  have hsub : IntKind.i64.wrap ((i : Int) - 1) = (e : Int) := by rw [IntKind.wrap_i64]; omega
                  have hem : (e : Int) < (m : Int) := by omega
                  have hem' : e < m := by omega
                  clear hdj hy s0 s1 hless he hi0
                  go_wp2_with fail
                  refine wp_region_grown (by kernel_rfl) (by kernel_rfl) ?_
                  repeat (go_big_quiet_step (first | (go_at_call 7; exact calls_grown_same (MO.out _)) | (go_at_call 20; exact calls_grown (C.out _))))
                  refine wpQuiet_nil ?_
                  rintro _ ⟨q', rfl⟩
                  have GQ := Lib.hid (GX.out.trans q'.h)
                  clear m1 m3 q0 q1 b1 b2 b3 b4 b5 n0 n1 hsub
                  go_wp2_with fail
                  go_roundw
                  case rel => exact ⟨i + 1, by omega, by go_num, GQ.out⟩
                  case measure => simp [intOf]; omega
              · have hii : ¬ (i : Int) < (m : Int) := by omega
                have k1 : ((k : Int) + 1).tmod 64 = (((k + 1) % 64 : Nat) : Int) := by rw [Int.tmod_eq_emod_of_nonneg (by omega)]; omega
                have k2 : ((k : Int) + 1) % 64 = (((k + 1) % 64 : Nat) : Int) := by omega
                obtain ⟨kk, hkk⟩ : ∃ kk, (k + 1) % 64 = kk := ⟨_, rfl⟩
                rw [hkk] at k1 k2
                have hkk64 : kk < 64 := by omega
                have HX : Hid (Hold w wr b A3 f N (takeR R (k : Int))) := (⟨H3.out.ring.later GI.out, H3.out.mine, H3.out.grw.trans GI.out, H3.out.frm⟩ : Hold w wr b A3 f N (takeR R (k : Int)))
                have NL : Hid ((takeR R (k : Int)).length = n - m) := (by have := TL.out; have := RN.out; omega : (takeR R (k : Int)).length = n - m)
                clear hkk
                go_wp2_with fail
                refine ⟨⟨n - m, kk, takeR R (k : Int), A3, by go_num, by go_num, NL.out, hkk64, HX.out⟩, by simp [intOf]; omega⟩
          · have hn0 : n = 0 := by omega
            subst hn0
            have hR : R = [] := List.eq_nil_of_length_eq_zero RN.out
            subst hR
            have FI := Lib.hid (first_R b A2 [] (a : Int) 0 false wr HH.out.ring (tab_grw HH.out.grw TB.out) (by rw [show mR [] = 0 from rfl, rnd_zero]; rfl) (by rw [show mR [] = 0 from rfl, rnd_zero]; rfl))
            have L0 := Lib.hid (len_is b A2 [] 0 wr HH.out.ring rfl)
            have M0 := mask_R b A2 [] wr HH.out.ring
            rw [show mR [] = 0 from rfl] at M0
            have M0 := Lib.hid M0
            have WK := Lib.hid (wakes_any wr)
            go_wp2_with fail
            refine FI.out.mono ?_
            rintro _ w2 ⟨rfl, rfl⟩
            go_wp2_with fail
            refine L0.out.mono ?_
            rintro _ w2 ⟨rfl, rfl⟩
            go_wp2_with fail
            refine M0.out.mono ?_
            rintro _ w2 ⟨rfl, rfl⟩
            go_wp2_with fail
            refine WK.out.mono ?_
            rintro _ w2 ⟨rfl, hw2⟩
            have GF := Lib.hid (HH.out.grw.trans hw2)
            clear hw2
            go_wp2_with fail
            go_ret
            exact ⟨rfl, GF.out⟩
end Go.Proofs.YtlihcljjpalapaaDoor
