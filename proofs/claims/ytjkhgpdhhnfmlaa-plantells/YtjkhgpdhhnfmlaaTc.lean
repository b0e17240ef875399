/- PlanTells: the walk of the law at this program, at no more than sixty timers. -/
import Derived.Test.YtjkhgpdhhnfmlaaTe
import Derived.Deep.Cut
import Derived.Deep.CutRange
namespace Go.Proofs.Ytjkhgpdhhnfmlaa
open Go.RowKit
open RG (Du)
open PM
set_option linter.unusedVariables false
set_option linter.unusedSimpArgs false

set_option maxHeartbeats 4000000 in
set_option maxRecDepth 100000 in
theorem tells_walk (ao : Option Addr) (cap t : Nat) (l : List Du) (d : Du) (n : Nat) (w : World) (hl : Lies w ao (cd l)) (hw : Wis l) (hn : l.length = n) (h60 : n ≤ 60) (hcap : n ≤ cap) (hnil : ao = none → n = 0 ∧ cap = 0) :
    Calls Try.prog 3 #[.slice ao n cap, dv d, .int .u64 t] w fun e w' => e = .returned (.bool true) ∧ Grw w w' := by
  obtain ⟨o1, K1, hk1, A8, A11⟩ := ins_both ao cap l d n w hl (by omega) hw hn hcap hnil
  obtain ⟨o2, K2, hk2, A9, A12⟩ := can_both ao cap l d.id n w hl (by omega) hw hn hcap hnil
  obtain ⟨K3, K4, hk3, hk4, A10, A13⟩ := split_both ao cap t l n w hl (by omega) hn
  obtain ⟨o3, A14, A15⟩ := good_both ao cap l n w hl (by omega) hw hn
  obtain ⟨K5, hk5, A17, A18⟩ := sort_both ao cap l n w hl (by omega) hn hnil
  have WK := Lib.hid (fun u => wakes_any u)
  obtain ⟨di, dt⟩ := d
  unfold dv at A8 A11 ⊢
  simp only at A9 A12
  have A8 := Lib.hid A8
  have A9 := Lib.hid A9
  have A10 := Lib.hid A10
  have A11 := Lib.hid A11
  have A12 := Lib.hid A12
  have A13 := Lib.hid A13
  have A14 := Lib.hid A14
  have A15 := Lib.hid A15
  have A17 := Lib.hid A17
  have A18 := Lib.hid A18
  have HK := Lib.hid (And.intro hk1 (And.intro hk2 (And.intro hk3 (And.intro hk4 hk5))))
  have D0 : Hid (Two (w.alloc (.cells #[.int .i64 di, .int .u64 (dt : Nat)] 25)) w.heap.size (.int .i64 di) (.int .u64 (dt : Nat))) := (Two.new w (.int .i64 di) (.int .u64 (dt : Nat)) 25 : Two (w.alloc (.cells #[.int .i64 di, .int .u64 (dt : Nat)] 25)) w.heap.size (.int .i64 di) (.int .u64 (dt : Nat)))
  have G0 := Lib.hid ((Grw.rfl' w).alloc (.cells #[.int .i64 di, .int .u64 (dt : Nat)] 25))
  have h60i : ¬ (60 : Int) < (n : Int) := by omega
  clear hl hw hn h60 hcap hnil hk1 hk2 hk3 hk4 hk5
  go_enter Try.func3, Try.ntmps3
  go_wp2_with fail
  refine (A8.out _ G0.out).mono ?_
  rintro _ w1 ⟨v1, rfl, r1, g1⟩
  obtain ⟨a1, c1, rfl, l1⟩ := r1
  have R1 : Hid (∀ x, Grw w1 x → RowD x (.slice a1 K1.length c1) K1) := (fun x g => ⟨a1, c1, rfl, l1.later g⟩ : ∀ x, Grw w1 x → RowD x (.slice a1 K1.length c1) K1)
  have G1 := Lib.hid (G0.out.trans g1)
  have D1 := Lib.hid (D0.out.later g1 (by have := World.block_lt_of_cell? _ _ D0.out.c0; exact this))
  have e0 := D1.out.c0
  have e1 := D1.out.c1
  clear l1 g1
  go_wp2_with fail
  refine (A9.out _ G1.out).mono ?_
  rintro _ w2 ⟨v2, rfl, r2, g2⟩
  obtain ⟨a2, c2, rfl, l2⟩ := r2
  have R2 : Hid (∀ x, Grw w2 x → RowD x (.slice a2 K2.length c2) K2) := (fun x g => ⟨a2, c2, rfl, l2.later g⟩ : ∀ x, Grw w2 x → RowD x (.slice a2 K2.length c2) K2)
  have R1 : Hid (∀ x, Grw w2 x → RowD x (.slice a1 K1.length c1) K1) := (fun x g => R1.out x (g2.trans g) : ∀ x, Grw w2 x → RowD x (.slice a1 K1.length c1) K1)
  have G2 := Lib.hid (G1.out.trans g2)
  have D2 := Lib.hid (D1.out.later g2 (by have := World.block_lt_of_cell? _ _ D1.out.c0; exact this))
  clear l2 g2 e0 e1
  go_wp2_with fail
  refine (A10.out _ G2.out).mono ?_
  rintro _ w3 ⟨v3, v4, rfl, r3, r4, g3⟩
  obtain ⟨a3, c3, rfl, l3⟩ := r3
  obtain ⟨a4, c4, rfl, l4⟩ := r4
  have R3 : Hid (∀ x, Grw w3 x → RowD x (.slice a3 K3.length c3) K3) := (fun x g => ⟨a3, c3, rfl, l3.later g⟩ : ∀ x, Grw w3 x → RowD x (.slice a3 K3.length c3) K3)
  have R4 : Hid (∀ x, Grw w3 x → RowD x (.slice a4 K4.length c4) K4) := (fun x g => ⟨a4, c4, rfl, l4.later g⟩ : ∀ x, Grw w3 x → RowD x (.slice a4 K4.length c4) K4)
  have R1 : Hid (∀ x, Grw w3 x → RowD x (.slice a1 K1.length c1) K1) := (fun x g => R1.out x (g3.trans g) : ∀ x, Grw w3 x → RowD x (.slice a1 K1.length c1) K1)
  have R2 : Hid (∀ x, Grw w3 x → RowD x (.slice a2 K2.length c2) K2) := (fun x g => R2.out x (g3.trans g) : ∀ x, Grw w3 x → RowD x (.slice a2 K2.length c2) K2)
  have G3 := Lib.hid (G2.out.trans g3)
  have D3 := Lib.hid (D2.out.later g3 (by have := World.block_lt_of_cell? _ _ D2.out.c0; exact this))
  clear l3 l4 g3 D0 D1 D2 G0 G1 G2
  go_upto_region 6 with fail
  go_cut [13, 14, 15] from 39 to 99 (RR w3 o1 o2 K1 K2 K3 K4)
  case first =>
    clear WK A8 A9 A10 A14 A15 A17 A18 R1 R2 R3 R4 HK h60i
    have e0 := D3.out.c0
    have e1 := D3.out.c1
    refine wp_region_any (by kernel_rfl) ?_
    change wpAny _ _ _ _ _ _ _ (World.drew _)
    refine wpAny_ivs putS (FT (.slice ao n cap) (.agg #[.int .i64 di, .int .u64 (dt : Nat)]) (.int .u64 t) (.pointer (some ⟨w.heap.size, 0, none⟩)) (.int .i64 di) o1 o2 K1 K2 K3 K4 w3.heap.size) w3 13 3 (fun j => decide (10 ≤ j)) (fun _ => undef) (by kernel_rfl) (by kernel_rfl) ?start ((Grw.rfl' w3).drew) FT.mono ?put ?late ?step ?fin
    case start => kernel_rfl
    case put =>
      intro i o s v hi ho
      have hi' : i = 0 ∨ i = 1 ∨ i = 2 ∨ i = 3 ∨ i = 4 ∨ i = 5 ∨ i = 6 ∨ i = 7 ∨ i = 8 ∨ i = 9 ∨ i = 10 ∨ i = 11 ∨ i = 12 := by omega
      rcases hi' with rfl | rfl | rfl | rfl | rfl | rfl | rfl | rfl | rfl | rfl | rfl | rfl | rfl <;> simp only [List.getElem?_toArray, List.getElem?_cons_zero, List.getElem?_cons_succ, Option.some.injEq] at ho <;> subst ho
      · exact putS_0 _ s v
      · exact putS_1 _ s v
      · exact putS_2 _ s v
      · exact putS_3 _ s v
      · exact putS_4 _ s v
      · exact putS_5 _ s v
      · exact putS_6 _ s v
      · exact putS_7 _ s v
      · exact putS_8 _ s v
      · exact putS_9 _ s v
      · exact putS_10 _ s v
      · exact putS_11 _ s v
      · exact putS_12 _ s v
    case late =>
      intro l hc i o hi ho hd hoff
      have hsz : i < 16 := by
        rcases Nat.lt_or_ge i 16 with g | g
        · exact g
        · rw [Array.getElem?_eq_none (by exact g)] at ho
          cases ho
      have hi' : i = 13 ∨ i = 14 ∨ i = 15 := by omega
      rcases hi' with rfl | rfl | rfl
      · simp only [List.getElem?_toArray, List.getElem?_cons_zero, List.getElem?_cons_succ, Option.some.injEq] at ho
        subst ho
        have g0 : l.getD 0 false = true := dep_on hd (by kernel_rfl)
        have g1 : l.getD 1 false = true := dep_on hd (by kernel_rfl)
        have g2 : l.getD 2 false = true := dep_on hd (by kernel_rfl)
        have g9 : l.getD 9 false = true := dep_on hd (by kernel_rfl)
        have g10 : l.getD 10 false = true := dep_on hd (by kernel_rfl)
        have g11 : l.getD 11 false = true := dep_on hd (by kernel_rfl)
        have g12 : l.getD 12 false = true := dep_on hd (by kernel_rfl)
        have h9 := hc 9 _ rfl g9
        have g6 : l.getD 6 false = true := dep_on h9 (by kernel_rfl)
        have g7 : l.getD 7 false = true := dep_on h9 (by kernel_rfl)
        have g8 : l.getD 8 false = true := dep_on h9 (by kernel_rfl)
        have h6 := hc 6 _ rfl g6
        have g3 : l.getD 3 false = true := dep_on h6 (by kernel_rfl)
        have g5 : l.getD 5 false = true := dep_on h6 (by kernel_rfl)
        have h5 := hc 5 _ rfl g5
        have g4 : l.getD 4 false = true := dep_on h5 (by kernel_rfl)
        intro j hj
        have hj' : j = 0 ∨ j = 1 ∨ j = 2 ∨ j = 3 ∨ j = 4 ∨ j = 5 ∨ j = 6 ∨ j = 7 ∨ j = 8 ∨ j = 9 ∨ j = 10 ∨ j = 11 ∨ j = 12 := by omega
        rcases hj' with rfl | rfl | rfl | rfl | rfl | rfl | rfl | rfl | rfl | rfl | rfl | rfl | rfl <;> assumption
      · simp only [List.getElem?_toArray, List.getElem?_cons_zero, List.getElem?_cons_succ, Option.some.injEq] at ho
        subst ho
        have g : l.getD 13 false = true := dep_on hd (by kernel_rfl)
        have g2 := hoff 13 (by omega) (by show 13 < 16; omega)
        rw [g] at g2
        cases g2
      · simp only [List.getElem?_toArray, List.getElem?_cons_zero, List.getElem?_cons_succ, Option.some.injEq] at ho
        subst ho
        have g : l.getD 14 false = true := dep_on hd (by kernel_rfl)
        have g2 := hoff 14 (by omega) (by show 14 < 16; omega)
        rw [g] at g2
        cases g2
    case step =>
      intro i o hi ho s w4 hg hf K hK
      have c0 := hg.cell e0
      have c1 := hg.cell e1
      have hi' : i = 0 ∨ i = 1 ∨ i = 2 ∨ i = 3 ∨ i = 4 ∨ i = 5 ∨ i = 6 ∨ i = 7 ∨ i = 8 ∨ i = 9 ∨ i = 10 ∨ i = 11 ∨ i = 12 := by omega
      rcases hi' with rfl | rfl | rfl | rfl | rfl | rfl | rfl | rfl | rfl | rfl | rfl | rfl | rfl <;> simp only [List.getElem?_toArray, List.getElem?_cons_zero, List.getElem?_cons_succ, Option.some.injEq] at ho <;> subst ho
      · -- 0
        refine StepIs.value (w' := w4) (.slice ao n cap) (by kernel_rfl) ?_ (hK _ w4 (Grw.rfl' _) rfl (fun h => absurd h (by decide)))
        rw [ex_move _ _ w4 (.tmp 0) _ (by kernel_rfl)]
        kernel_rfl
      · -- 1
        refine StepIs.value (w' := w4) (.agg #[.int .i64 di, .int .u64 (dt : Nat)]) (by kernel_rfl) ?_ ?_
        · exact ex_load25 _ _ w4 w.heap.size di dt (by kernel_rfl) (by kernel_rfl) c0 c1
        · exact hK _ w4 (Grw.rfl' _) rfl (fun h => absurd h (by decide))
      · -- 2
        have fa : s 0 = .slice ao n cap := hf 0 (by omega) (by kernel_rfl)
        have fb : s 1 = .agg #[.int .i64 di, .int .u64 (dt : Nat)] := hf 1 (by omega) (by kernel_rfl)
        refine StepIs.enter (w' := w4) 11 #[.slice ao n cap, .agg #[.int .i64 di, .int .u64 (dt : Nat)]] (by kernel_rfl) (ex_call11 _ _ w4 39 40 #[22, 25] _ _ (by kernel_rfl) rfl (Eq.trans (b := s 0) (by kernel_rfl) fa) (Eq.trans (b := s 1) (by kernel_rfl) fb)) ?_
        · refine (A11.out _ (G3.out.trans hg)).mono ?_
          rintro _ w5 ⟨v, rfl, r, g5⟩
          obtain ⟨xa, ya, rfl, la⟩ := r
          exact ⟨_, rfl, hK _ w5 g5 ⟨xa, ya, rfl, ⟨xa, ya, rfl, la⟩⟩ (fun h => absurd h (by decide))⟩
      · -- 3
        refine StepIs.value (w' := w4) (.slice ao n cap) (by kernel_rfl) ?_ (hK _ w4 (Grw.rfl' _) rfl (fun h => absurd h (by decide)))
        rw [ex_move _ _ w4 (.tmp 0) _ (by kernel_rfl)]
        kernel_rfl
      · -- 4
        refine StepIs.value (w' := w4) (.pointer (some ⟨w.heap.size, 0, none⟩)) (by kernel_rfl) ?_ ?_
        · exact ex_field _ _ w4 w.heap.size (by kernel_rfl) (by kernel_rfl)
        · exact hK _ w4 (Grw.rfl' _) rfl (fun h => absurd h (by decide))
      · -- 5
        have f4 : s 4 = .pointer (some ⟨w.heap.size, 0, none⟩) := hf 4 (by omega) (by kernel_rfl)
        refine StepIs.value (w' := w4) (.int .i64 di) (by kernel_rfl) ?_ ?_
        · exact ex_load3 _ _ w4 w.heap.size di (by kernel_rfl) (Eq.trans (b := s 4) (by kernel_rfl) f4) c0
        · exact hK _ w4 (Grw.rfl' _) rfl (fun h => absurd h (by decide))
      · -- 6
        have fa : s 3 = .slice ao n cap := hf 3 (by omega) (by kernel_rfl)
        have fb : s 5 = .int .i64 di := hf 5 (by omega) (by kernel_rfl)
        refine StepIs.enter (w' := w4) 12 #[.slice ao n cap, .int .i64 di] (by kernel_rfl) (ex_call12 _ _ w4 42 44 #[22, 3] _ _ (by kernel_rfl) rfl (Eq.trans (b := s 3) (by kernel_rfl) fa) (Eq.trans (b := s 5) (by kernel_rfl) fb)) ?_
        · refine (A12.out _ (G3.out.trans hg)).mono ?_
          rintro _ w5 ⟨v, rfl, r, g5⟩
          obtain ⟨xa, ya, rfl, la⟩ := r
          exact ⟨_, rfl, hK _ w5 g5 ⟨xa, ya, rfl, ⟨xa, ya, rfl, la⟩⟩ (fun h => absurd h (by decide))⟩
      · -- 7
        refine StepIs.value (w' := w4) (.slice ao n cap) (by kernel_rfl) ?_ (hK _ w4 (Grw.rfl' _) rfl (fun h => absurd h (by decide)))
        rw [ex_move _ _ w4 (.tmp 0) _ (by kernel_rfl)]
        kernel_rfl
      · -- 8
        refine StepIs.value (w' := w4) (.int .u64 t) (by kernel_rfl) ?_ (hK _ w4 (Grw.rfl' _) rfl (fun h => absurd h (by decide)))
        rw [ex_move _ _ w4 (.tmp 2) _ (by kernel_rfl)]
        kernel_rfl
      · -- 9
        have fa : s 7 = .slice ao n cap := hf 7 (by omega) (by kernel_rfl)
        have fb : s 8 = .int .u64 t := hf 8 (by omega) (by kernel_rfl)
        refine StepIs.enter (w' := w4) 13 #[.slice ao n cap, .int .u64 t] (by kernel_rfl) (ex_call13 _ _ w4 46 47 #[22, 23] _ _ (by kernel_rfl) rfl (Eq.trans (b := s 7) (by kernel_rfl) fa) (Eq.trans (b := s 8) (by kernel_rfl) fb)) ?_
        · refine (A13.out _ (G3.out.trans hg)).mono ?_
          rintro _ w5 ⟨u, v, rfl, ru, rv, g5⟩
          obtain ⟨xa, ya, rfl, la⟩ := ru
          obtain ⟨xb, yb, rfl, lb⟩ := rv
          exact ⟨_, rfl, hK _ w5 g5 ⟨xa, ya, xb, yb, rfl, ⟨xa, ya, rfl, la⟩, ⟨xb, yb, rfl, lb⟩⟩ (fun h => absurd h (by decide))⟩
      · -- 10
        refine StepIs.value (w' := w4.alloc (.cells #[.slice none 0 0, .bool false] 33)) (.pointer (some ⟨w4.heap.size, 0, none⟩)) (by kernel_rfl) ?_ (hK _ _ ((Grw.rfl' w4).alloc _) ⟨w4.heap.size, rfl, Below.size hg, by rw [size_new]; omega, Two.new w4 _ _ 33⟩ (fun _ j x hj aj hx e => by
          obtain ⟨b, e2, hb⟩ := FT.ptr hx (of_decide_eq_true aj) hj
          rw [e2] at e
          injection e with e
          injection e with e
          injection e with e
          omega))
        · clear hK hf hg c0 c1 A11 A12 A13 D3 G3 e0 e1
          go_simp
      · -- 11
        refine StepIs.value (w' := w4.alloc (.cells #[.slice none 0 0, .bool false] 33)) (.pointer (some ⟨w4.heap.size, 0, none⟩)) (by kernel_rfl) ?_ (hK _ _ ((Grw.rfl' w4).alloc _) ⟨w4.heap.size, rfl, Below.size hg, by rw [size_new]; omega, Two.new w4 _ _ 33⟩ (fun _ j x hj aj hx e => by
          obtain ⟨b, e2, hb⟩ := FT.ptr hx (of_decide_eq_true aj) hj
          rw [e2] at e
          injection e with e
          injection e with e
          injection e with e
          omega))
        · clear hK hf hg c0 c1 A11 A12 A13 D3 G3 e0 e1
          go_simp
      · -- 12
        refine StepIs.value (w' := w4.alloc (.cells #[.slice none 0 0, .slice none 0 0] 37)) (.pointer (some ⟨w4.heap.size, 0, none⟩)) (by kernel_rfl) ?_ (hK _ _ ((Grw.rfl' w4).alloc _) ⟨w4.heap.size, rfl, Below.size hg, by rw [size_new]; omega, Two.new w4 _ _ 37⟩ (fun _ j x hj aj hx e => by
          obtain ⟨b, e2, hb⟩ := FT.ptr hx (of_decide_eq_true aj) hj
          rw [e2] at e
          injection e with e
          injection e with e
          injection e with e
          omega))
        · clear hK hf hg c0 c1 A11 A12 A13 D3 G3 e0 e1
          go_simp
    case fin =>
      intro s w4 hg hf hap
      obtain ⟨x1, y1, f2, r1⟩ := hf 2 (by omega)
      obtain ⟨x2, y2, f6, r2⟩ := hf 6 (by omega)
      obtain ⟨x3, y3, x4, y4, f9, r3, r4⟩ := hf 9 (by omega)
      obtain ⟨b1, f10, z1, zz1, t1⟩ := hf 10 (by omega)
      obtain ⟨b2, f11, z2, zz2, t2⟩ := hf 11 (by omega)
      obtain ⟨b3, f12, z3, zz3, t3⟩ := hf 12 (by omega)
      have n12 : b1 ≠ b2 := fun e => hap 10 11 (by omega) (by omega) rfl rfl (by omega) (by rw [f10, f11, e])
      have n13 : b1 ≠ b3 := fun e => hap 10 12 (by omega) (by omega) rfl rfl (by omega) (by rw [f10, f12, e])
      have n23 : b2 ≠ b3 := fun e => hap 11 12 (by omega) (by omega) rfl rfl (by omega) (by rw [f11, f12, e])
      have T1 := Lib.hid t1
      have T2 := Lib.hid (t2.off n12.symm (.slice x1 K1.length y1) (.bool o1))
      have T3 := Lib.hid ((t3.off n13.symm (.slice x1 K1.length y1) (.bool o1)).off n23.symm (.slice x2 K2.length y2) (.bool o2))
      have U1 := Lib.hid (((t1.set2 (.slice x1 K1.length y1) (.bool o1)).off n12 (.slice x2 K2.length y2) (.bool o2)).off n13 (.slice x3 K3.length y3) (.slice x4 K4.length y4))
      have U2 := Lib.hid ((T2.out.set2 (.slice x2 K2.length y2) (.bool o2)).off n23 (.slice x3 K3.length y3) (.slice x4 K4.length y4))
      have U3 := Lib.hid (T3.out.set2 (.slice x3 K3.length y3) (.slice x4 K4.length y4))
      have OV := Lib.hid (fun v L (r : RowD w4 v L) => ((r.over t1 (fun _ _ e => by cases e) (fun _ _ e => by cases e) (.slice x1 K1.length y1) (.bool o1)).over T2.out (fun _ _ e => by cases e) (fun _ _ e => by cases e) (.slice x2 K2.length y2) (.bool o2)).over T3.out (fun _ _ e => by cases e) (fun _ _ e => by cases e) (.slice x3 K3.length y3) (.slice x4 K4.length y4))
      have GG := Lib.hid (((hg.set2 z1 (.slice x1 K1.length y1) (.bool o1)).set2 z2 (.slice x2 K2.length y2) (.bool o2)).set2 z3 (.slice x3 K3.length y3) (.slice x4 K4.length y4))
      have RS := Lib.hid (And.intro r1 (And.intro r2 (And.intro r3 r4)))
      have p0 := t1.c0
      have p1 := t1.c1
      have p2 := t1.f0
      have p3 := t1.f1
      have q0 := T2.out.c0
      have q1 := T2.out.c1
      have q2 := T2.out.f0
      have q3 := T2.out.f1
      have s0 := T3.out.c0
      have s1 := T3.out.c1
      have s2 := T3.out.f0
      have s3 := T3.out.f1
      clear t1 t2 t3 r1 r2 r3 r4 n12 n13 n23 hap hf z1 z2 z3 zz1 zz2 zz3 hg A11 A12 A13 T1 T2 T3 D3 G3 e0 e1
      simp only [putS, f2, f6, f9, f10, f11, f12]
      refine wpAny_ready (rs := [13]) (by kernel_rfl) (by simp) ?_
      refine AllReady.cons rfl (fun K hK => ?_) AllReady.nil
      go_simp
      refine hK _ _ ?_
      clear hK K
      refine wpAny_ready (rs := [14]) (by kernel_rfl) (by simp) ?_
      refine AllReady.cons rfl (fun K hK => ?_) AllReady.nil
      go_simp
      refine hK _ _ ?_
      clear hK K
      refine wpAny_ready (rs := [15]) (by kernel_rfl) (by simp) ?_
      refine AllReady.cons rfl (fun K hK => ?_) AllReady.nil
      go_simp
      refine hK _ _ ?_
      clear hK K
      refine wpAny_done (by kernel_rfl) ?_ _
      go_wp2_with fail
      go_meet
      case rel => exact ⟨b1, b2, b3, x1, y1, x2, y2, x3, y3, x4, y4, rfl, rfl, rfl, U1.out, U2.out, U3.out, OV.out _ _ RS.out.1, OV.out _ _ RS.out.2.1, OV.out _ _ RS.out.2.2.1, OV.out _ _ RS.out.2.2.2, GG.out⟩
  case rest =>
    obtain ⟨b1, b2, b3, x1, y1, x2, y2, x3, y3, x4, y4, rfl, rfl, rfl, t1, t2, t3, q1, q2, q3, q4, gx⟩ := hcut
    have U := Lib.hid (G3.out.trans gx)
    have T1 : Hid (∀ x, Grw wc x → Two x b1 (.slice x1 K1.length y1) (.bool o1)) := (fun x g => t1.later g (World.block_lt_of_cell? _ _ t1.c0) : ∀ x, Grw wc x → Two x b1 (.slice x1 K1.length y1) (.bool o1))
    have T2 : Hid (∀ x, Grw wc x → Two x b2 (.slice x2 K2.length y2) (.bool o2)) := (fun x g => t2.later g (World.block_lt_of_cell? _ _ t2.c0) : ∀ x, Grw wc x → Two x b2 (.slice x2 K2.length y2) (.bool o2))
    have T3 : Hid (∀ x, Grw wc x → Two x b3 (.slice x3 K3.length y3) (.slice x4 K4.length y4)) := (fun x g => t3.later g (World.block_lt_of_cell? _ _ t3.c0) : ∀ x, Grw wc x → Two x b3 (.slice x3 K3.length y3) (.slice x4 K4.length y4))
    have S1 : Hid (∀ x, Grw wc x → Calls Try.prog 16 #[.slice a1 K1.length c1, .slice x1 K1.length y1] x fun e w' => e = .returned (.bool true) ∧ Grw x w') := (fun x g => dues_same _ _ K1 x (by have := HK.out.1; omega) (R1.out x (gx.trans g)) (q1.later g) : ∀ x, Grw wc x → Calls Try.prog 16 #[.slice a1 K1.length c1, .slice x1 K1.length y1] x fun e w' => e = .returned (.bool true) ∧ Grw x w')
    have S2 : Hid (∀ x, Grw wc x → Calls Try.prog 16 #[.slice a2 K2.length c2, .slice x2 K2.length y2] x fun e w' => e = .returned (.bool true) ∧ Grw x w') := (fun x g => dues_same _ _ K2 x (by have := HK.out.2.1; omega) (R2.out x (gx.trans g)) (q2.later g) : ∀ x, Grw wc x → Calls Try.prog 16 #[.slice a2 K2.length c2, .slice x2 K2.length y2] x fun e w' => e = .returned (.bool true) ∧ Grw x w')
    have S3 : Hid (∀ x, Grw wc x → Calls Try.prog 16 #[.slice a3 K3.length c3, .slice x3 K3.length y3] x fun e w' => e = .returned (.bool true) ∧ Grw x w') := (fun x g => dues_same _ _ K3 x (by have := HK.out.2.2.1; omega) (R3.out x (gx.trans g)) (q3.later g) : ∀ x, Grw wc x → Calls Try.prog 16 #[.slice a3 K3.length c3, .slice x3 K3.length y3] x fun e w' => e = .returned (.bool true) ∧ Grw x w')
    have S4 : Hid (∀ x, Grw wc x → Calls Try.prog 16 #[.slice a4 K4.length c4, .slice x4 K4.length y4] x fun e w' => e = .returned (.bool true) ∧ Grw x w') := (fun x g => dues_same _ _ K4 x (by have := HK.out.2.2.2.1; omega) (R4.out x (gx.trans g)) (q4.later g) : ∀ x, Grw wc x → Calls Try.prog 16 #[.slice a4 K4.length c4, .slice x4 K4.length y4] x fun e w' => e = .returned (.bool true) ∧ Grw x w')
    have S5 : Hid (∀ x a c a' c', RowD x (.slice a K5.length c) K5 → RowD x (.slice a' K5.length c') K5 → Calls Try.prog 16 #[.slice a K5.length c, .slice a' K5.length c'] x fun e w' => e = .returned (.bool true) ∧ Grw x w') := (fun x a c a' c' r r' => dues_same _ _ K5 x (by have := HK.out.2.2.2.2; omega) r r' : ∀ x a c a' c', RowD x (.slice a K5.length c) K5 → RowD x (.slice a' K5.length c') K5 → Calls Try.prog 16 #[.slice a K5.length c, .slice a' K5.length c'] x fun e w' => e = .returned (.bool true) ∧ Grw x w')
    have V0 := Lib.hid (Grw.rfl' wc)
    clear t1 t2 t3 q1 q2 q3 q4 gx R1 R2 R3 R4 HK G3 D3 A8 A9 A10 A11 A12 A13 h60i
    go_wp2_with fail
    refine (A14.out _ (U.out.trans V0.out)).mono ?_
    rintro _ v1 ⟨rfl, h⟩
    have V1 := Lib.hid (V0.out.trans h)
    clear h V0
    go_wp2_with fail
    refine (A15.out _ (U.out.trans V1.out)).mono ?_
    rintro _ v2 ⟨rfl, h⟩
    have V2 := Lib.hid (V1.out.trans h)
    clear h V1
    have m0 := (T1.out _ V2.out).c0
    have m1 := (T1.out _ V2.out).c1
    go_wp2_with fail
    refine (S1.out _ V2.out).mono ?_
    rintro _ v3 ⟨rfl, h⟩
    have V3 := Lib.hid (V2.out.trans h)
    clear h V2
    clear m0 m1
    have m0 := (T2.out _ V3.out).c0
    have m1 := (T2.out _ V3.out).c1
    go_wp2_with fail
    refine (S2.out _ V3.out).mono ?_
    rintro _ v4 ⟨rfl, h⟩
    have V4 := Lib.hid (V3.out.trans h)
    clear h V3
    clear m0 m1
    have m0 := (T3.out _ V4.out).c0
    have m1 := (T3.out _ V4.out).c1
    go_wp2_with fail
    refine (S3.out _ V4.out).mono ?_
    rintro _ v5 ⟨rfl, h⟩
    have V5 := Lib.hid (V4.out.trans h)
    clear h V4
    clear m0 m1
    have m0 := (T3.out _ V5.out).c0
    have m1 := (T3.out _ V5.out).c1
    go_wp2_with fail
    refine (S4.out _ V5.out).mono ?_
    rintro _ v6 ⟨rfl, h⟩
    have V6 := Lib.hid (V5.out.trans h)
    clear h V5
    clear m0 m1 T1 T2 T3 S1 S2 S3 S4
    go_wp2_with fail
    refine (A17.out _ (U.out.trans V6.out)).mono ?_
    rintro _ p1 ⟨u, rfl, ru, h⟩
    obtain ⟨a5, c5, rfl, l5⟩ := ru
    have W1 := Lib.hid (V6.out.trans h)
    have L5 := Lib.hid l5
    clear h l5 V6
    go_wp2_with fail
    refine (A18.out _ (U.out.trans W1.out)).mono ?_
    rintro _ p2 ⟨u, rfl, ru, h⟩
    obtain ⟨a6, c6, rfl, l6⟩ := ru
    have W2 := Lib.hid (W1.out.trans h)
    have S6 := Lib.hid (S5.out p2 a5 c5 a6 c6 ⟨a5, c5, rfl, L5.out.later h⟩ ⟨a6, c6, rfl, l6⟩)
    clear h l6 W1 S5 L5 A14 A15 A17 A18
    go_wp2_with fail
    refine S6.out.mono ?_
    rintro _ p3 ⟨rfl, h⟩
    have W3 := Lib.hid (W2.out.trans h)
    clear h W2 S6
    go_wp2_with fail
    refine (WK.out _).mono ?_
    rintro _ p4 ⟨rfl, h⟩
    have W4 := Lib.hid (U.out.trans (W3.out.trans h))
    clear h W3
    go_wp2_with fail
    go_ret
    exact ⟨rfl, W4.out⟩
end Go.Proofs.Ytjkhgpdhhnfmlaa
