/- The law QueueFair, walked. -/
import Derived.Test.YtdindhmbofddoaaFb
import Derived.Deep.CutRange
import Derived.Deep.DeepCutAuto
namespace Go.Proofs.Ytdindhmbofddoaa
open Go.RowKit
set_option linter.unusedSimpArgs false

set_option maxHeartbeats 4000000 in
set_option maxRecDepth 100000 in
theorem fair_walk (n0 n1 mine : Nat) (ao : Option Addr) (n cap : Nat) (acts : List Wt) (w : World) (h0 : n0 < 65536) (h1 : n1 < 65536) (hm : mine < 256) (ha : Lies w ao (cw acts)) (hn : acts.length = n) (hnn : n ≤ 9223372036854775807) :
    Calls Try.prog 5 #[.agg #[.int .u16 (n0 : Nat), .int .u16 (n1 : Nat)], .int .u8 (mine : Nat), .slice ao n cap] w fun e w' => e = .returned (.bool true) ∧ Grw w w' := by
  obtain ⟨a, hra⟩ : ∃ a : Nat, 1 + n0 % 10 = a := ⟨_, rfl⟩
  obtain ⟨room, hrr⟩ : ∃ r : Nat, 1 + n1 % 12 = r := ⟨_, rfl⟩
  have ra : 1 ≤ a ∧ a ≤ 10 := by omega
  have rr : 1 ≤ room ∧ room ≤ 12 := by omega
  have q1 : IntKind.i64.wrap (n0 : Int) = n0 := by simp [IntKind.wrap_i64]; omega
  have q2 : IntKind.i64.wrap (n1 : Int) = n1 := by simp [IntKind.wrap_i64]; omega
  have q3 : IntKind.i64.wrap (mine : Int) = mine := by simp [IntKind.wrap_i64]; omega
  have q4 : IntKind.i64.wrap (1 + (n0 : Int) % 10) = (a : Int) := by simp [IntKind.wrap_i64]; omega
  have q5 : IntKind.i64.wrap (1 + (n1 : Int) % 12) = (room : Int) := by simp [IntKind.wrap_i64]; omega
  obtain ⟨k7, hk7⟩ : ∃ k : Nat, mine % 7 = k := ⟨_, rfl⟩
  obtain ⟨cl, hcl⟩ : ∃ k : Nat, mine % 8 = k := ⟨_, rfl⟩
  have q6 : (mine : Int) % 7 = (k7 : Int) := by omega
  have q7 : (mine : Int) % 8 = (cl : Int) := by omega
  have k7' : k7 < 7 := by omega
  have cl' : cl < 8 := by omega
  have A := Lib.hid ha
  have HA := Lib.hid (And.intro hn hnn)
  have RA := Lib.hid (And.intro ra rr)
  have m0 := gw_cell (w := w.alloc (.cells #[.int .u16 (n0 : Nat), .int .u16 (n1 : Nat)] 49)) (a := ⟨w.heap.size, 0, none⟩) (v := .int .u16 (n0 : Nat)) (by simp [go_sem])
  have m1 := gw_cell (w := w.alloc (.cells #[.int .u16 (n0 : Nat), .int .u16 (n1 : Nat)] 49)) (a := ⟨w.heap.size, 1, none⟩) (v := .int .u16 (n1 : Nat)) (by simp [go_sem])
  have G0 := Lib.hid ((Grw.rfl' w).alloc (.cells #[.int .u16 (n0 : Nat), .int .u16 (n1 : Nat)] 49))
  clear ha hn hnn hra hrr hk7 hcl ra rr hm h0 h1
  go_enter Try.func5, Try.ntmps5
  go_wp2_with fail
  refine wp_region_grown (by kernel_rfl) (by kernel_rfl) ?_
  repeat (go_big_quiet_step (fail))
  refine wpQuiet_nil ?_
  rintro _ ⟨q, rfl⟩
  obtain ⟨w1, hw1⟩ : ∃ w1, q.x = w1 := ⟨_, rfl⟩
  have G1 := Lib.hid (G0.out.trans q.h)
  rw [hw1] at G1 ⊢
  clear m0 m1 hw1
  go_wp2_with fail
  refine (m_new (a : Int) (room : Int) w w1 G1.out (by have := RA.out; omega) (by have := RA.out; omega) (by omega) (by have := RA.out; omega)).mono ?_
  rintro _ w2 ⟨p, rfl, hq, hp⟩
  have Q2 := Lib.hid hq
  clear hq hp
  go_wp2_with fail
  have P0 : Hid (P1 w (w2.alloc (.cells #[.pointer (some ⟨p, 0, none⟩), .slice ao n cap, .int .i64 0, .int .i64 1, .int .i64 (room : Nat)] 52)) w2.heap.size p ao n cap room (a : Int) 0 0 []) :=
    (⟨⟨0, 1, _, ⟨Q2.out.later ((Grw.rfl' w2).alloc _), ⟨by simp [go_sem], by simp [go_sem], by simp [go_sem], by simp [go_sem], by simp [go_sem], by simp [go_sem], by simp [go_sem]⟩, Below.size Q2.out.g, by
        rintro (e | e)
        · have := World.block_lt_of_cell? _ _ Q2.out.q.c0
          simp only at this
          omega
        · cases e⟩, Nat.zero_le _, Nat.le_refl _, by omega, fun x hx => by cases hx⟩, by simp, Nat.le_refl _, fun x hx => by cases hx⟩ : P1 w (w2.alloc (.cells #[.pointer (some ⟨p, 0, none⟩), .slice ao n cap, .int .i64 0, .int .i64 1, .int .i64 (room : Nat)] 52)) w2.heap.size p ao n cap room (a : Int) 0 0 [])
  obtain ⟨w3, hw3⟩ : ∃ w3, w2.alloc (.cells #[.pointer (some ⟨p, 0, none⟩), .slice ao n cap, .int .i64 0, .int .i64 1, .int .i64 (room : Nat)] 52) = w3 := ⟨_, rfl⟩
  obtain ⟨fb, hfb⟩ : ∃ fb, w2.heap.size = fb := ⟨_, rfl⟩
  rw [hw3, hfb] at P0 ⊢
  clear hw3 hfb
  go_loopw [11] (fun s11 wr => ∃ (i c : Nat) (L : List Wt), s11 = .int .i64 i ∧ i ≤ k7 ∧ P1 w wr fb p ao n cap room (a : Int) (2 * i) c L) (fun s11 _ => k7 - (intOf s11).toNat)
  case atStart => exact ⟨0, 0, [], rfl, Nat.zero_le _, P0.out⟩
  case round =>
    obtain ⟨i, c, L, rfl, hi, hp⟩ := hrel
    have PP := Lib.hid hp
    clear hp
    by_cases ci : i < k7
    · have d1 : decide (i < k7) = true := by simp [ci]
      have q8 : IntKind.i64.wrap ((i : Int) + 1) = ((i + 1 : Nat) : Int) := by simp [IntKind.wrap_i64]; omega
      go_wp2_with fail
      refine (p1_on PP.out A.out HA.out.1 HA.out.2 (by have := RA.out; omega) (by omega)).mono ?_
      rintro _ w4 ⟨rfl, L', hp⟩
      have P4 := Lib.hid hp
      clear hp
      go_wp2_with fail
      refine (p1_take P4.out (by omega)).mono ?_
      rintro _ w5 ⟨u, rfl, c', L'', hp, _⟩
      have P5 := Lib.hid hp
      clear hp
      go_wp2_with fail
      go_roundw
      case rel => exact ⟨i + 1, c', L'', by first | rfl | go_num, by omega, P5.out⟩
      case measure => simp [intOf]; omega
    · have d1 : decide (i < k7) = false := by simp; omega
      obtain ⟨k, id, v, hf, _⟩ := PP.out.fq
      obtain ⟨m, hm⟩ : ∃ m, L.length = m := ⟨_, rfl⟩
      have CL := Lib.hid (len_is hf.m.q hm)
      have HM := Lib.hid hm
      obtain ⟨t, ht⟩ : ∃ t, ((m : Int) == (room : Int)) = t := ⟨_, rfl⟩
      have HT := Lib.hid ht
      clear hf hm
      go_wp2_with fail
      refine CL.out.mono ?_
      rintro _ _ ⟨rfl, rfl⟩
      go_upto_if 50 with fail
      go_cut [] from 51 to 53 (fun wx => ∃ (i c : Nat) (L : List Wt), P1 w wx fb p ao n cap room (a : Int) i c L ∧ L.length < room ∧ i ≤ 20)
      case first =>
        cases t with
        | true =>
          go_wp2_with fail
          refine (p1_take PP.out (by omega)).mono ?_
          rintro _ w5 ⟨u, rfl, c', L'', hp, hl⟩
          have P5 := Lib.hid (And.intro hp hl)
          clear hp hl
          go_wp2_with fail
          go_meet
          case rel => exact ⟨_, c', L'', P5.out.1, by have := HT.out; have := PP.out.len; have := HM.out; have := P5.out.2 (by have := RA.out; simp at *; omega); omega, by omega⟩
        | false =>
          go_wp2_with fail
          go_meet
          case rel => exact ⟨_, c, L, PP.out, by have := HT.out; have := HM.out; have := PP.out.len; simp at *; omega, by omega⟩
      case rest =>
        obtain ⟨j, c, L, hp, hl, hj⟩ := hcut
        have P6 := Lib.hid hp
        have CC := Lib.hid (And.intro hp.cc (And.intro hj hl))
        have PU := Lib.hid (p1_put hp hl (by have := RA.out; omega) cl cl')
        clear hp hl
        go_wp2_with fail
        refine PU.out.mono ?_
        rintro _ w7 ⟨rfl, k, id, v, hf, hk, h1, h2, hj⟩
        have PZ : Hid (P2 w w7 fb p ao n cap room a cl c 0 (L ++ [⟨1, cl, c⟩])) :=
          (⟨⟨k, id, v, hf, hk, h1, by have := CC.out.2.1; omega, hj⟩, InvQ.start (by have := CC.out.2.2; simp; omega) (by simp)⟩ : P2 w w7 fb p ao n cap room a cl c 0 (L ++ [⟨1, cl, c⟩]))
        clear hf hk h1 h2 hj
        go_wp2_with fail
        obtain ⟨B, hB⟩ : ∃ B : Nat, a * 8 + room = B := ⟨_, rfl⟩
        have HB := Lib.hid hB
        have BO := Lib.hid (fun w => bound_is (a : Int) (room : Int) (B : Int) w (by have := RA.out; rw [← hB]; simp only [bnd, lim]; omega))
        have hB2 : B ≤ 100 := by have := RA.out; omega
        clear hB
        go_loopw [12] (fun s12 wr => ∃ (i : Nat) (L : List Wt), s12 = .int .i64 i ∧ i ≤ B ∧ P2 w wr fb p ao n cap room a cl c i L) (fun s12 _ => B - (intOf s12).toNat)
        case atStart => exact ⟨0, _, rfl, Nat.zero_le _, PZ.out⟩
        case round =>
          obtain ⟨i, L2, rfl, hi, hp⟩ := hrel
          have PP := Lib.hid hp
          clear hp
          by_cases ci : i < B
          · have d1 : decide (i < B) = true := by simp [ci]
            have q8 : IntKind.i64.wrap ((i : Int) + 1) = ((i + 1 : Nat) : Int) := by simp [IntKind.wrap_i64]; omega
            go_wp2_with fail
            refine (BO.out _).mono ?_
            rintro _ _ ⟨rfl, rfl⟩
            go_wp2_with fail
            refine (p2_on PP.out A.out HA.out.1 HA.out.2 (by have := RA.out; omega) (by omega) (by have := RA.out; omega) (by have := RA.out; omega) cl' (by have := CC.out; omega)).mono ?_
            rintro _ w8 ⟨rfl, L', hp⟩
            have P8 := Lib.hid hp
            clear hp
            go_wp2_with fail
            refine (p2_take P8.out (by omega) (by have := CC.out; omega)).mono ?_
            rintro _ w9 ⟨x, rfl, hg, hx⟩
            obtain ⟨xi, xc, xm⟩ := x
            have G9 := Lib.hid hg
            have X9 := Lib.hid hx
            clear hg hx
            simp only [wv]
            by_cases cx : xi = 1
            · have d5 : (xi == 1) = true := by simp [cx]
              go_wp2_with fail
              refine (wakes_any _).mono ?_
              rintro _ w10 ⟨rfl, hw⟩
              have GA := Lib.hid ((G9.out.alloc _).trans hw)
              clear hw
              go_wp2_with fail
              go_ret
              exact ⟨rfl, GA.out⟩
            · have d5 : (xi == 1) = false := by simp [cx]
              obtain ⟨L3, h3⟩ := X9.out cx
              have P9 := Lib.hid h3
              clear h3
              go_wp2_with fail
              go_roundw
              case rel =>
                obtain ⟨k, id, v, hf, hk, h1, h2, hj⟩ := P9.out.fq
                exact ⟨i + 1, L3, by first | rfl | go_num, by omega, ⟨k, id, v, hf.later ((Grw.rfl' _).alloc _), hk, h1, h2, hj⟩, P9.out.inv⟩
              case measure => simp [intOf]; omega
          · exfalso
            exact PP.out.no (by have := RA.out; omega) cl' (by have := HB.out; omega)
end Go.Proofs.Ytdindhmbofddoaa
