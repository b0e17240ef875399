/- The law WheelPlays, walked: the project's wheel and the document's side by side. -/
import Derived.Test.YtjkhgpdhhnfmlaaDoorJl
import Derived.Test.YtjkhgpdhhnfmlaaDoorJo
import Derived.Test.YtjkhgpdhhnfmlaaDoorSa
import Derived.Deep.LoopGhost
import Derived.Deep.CutRange
import Derived.Deep.CutBlock
import Derived.Deep.RegionHeld3
namespace Go.Proofs.YtjkhgpdhhnfmlaaDoor
open Go.RowKit TM MK
open RG (Du Srt)
open VM (lvl idsD)
set_option linter.unusedSimpArgs false

theorem Grw.of_drew {w x : World} (h : Grw w.drew x) : Grw w x := ((Grw.rfl' w).drew).trans h
theorem HS.start {w w1 : World} {p now : Nat} (h : MW w w1 p now []) (hp : 0 < w.heap.size) : HS w (w1.alloc (.cells #[.slice none 0 0, .int .u64 (now : Nat)] 29)) p now [] w1.heap.size now [] (fun _ => False) := by
  refine ⟨⟨.slice none 0 0, ⟨Kp.new w1 _ _ 29, ⟨none, 0, rfl, Nat.le_refl _, fun _ => ⟨rfl, rfl⟩, Or.inl rfl⟩, fun k hk => by cases hk⟩, h.mf.add ((Grw.rfl' w1).alloc _) (fun k hk => Or.inr ?_), fun k hk => by cases hk⟩, Below.size h.grw, fun k hk => hk.elim, hp⟩
  rcases hk with (c | c) | c
  · rw [c, size_new]; omega
  · cases c
  · exact c.elim
theorem held_nat {a b : Nat} (_ : a < 2 ^ 64) (_ : b < 2 ^ 64) : ∃ t : Nat, t < 2 ^ 64 ∧ heldV (a : Int) (b : Int) = (t : Nat) := by
  unfold heldV
  by_cases h : (a : Int) + (b : Int) < 18446744073709551616
  · rw [if_pos h]; exact ⟨a + b, by omega, by omega⟩
  · rw [if_neg h]; exact ⟨18446744073709551615, by decide, rfl⟩
set_option maxHeartbeats 20000000 in
set_option maxRecDepth 100000 in
theorem plays_walk (now0 : Nat) (ao : Option Addr) (ln cap : Nat) (f : Nat → Ac) (w : World) (hnow : now0 < 2 ^ 64) (hln : ln ≤ 9223372036854775807) (t : Tab w) (hrow : RowA w ao ln f) (fb : ∀ j, j < ln → Wi (f j).i ∧ (f j).t < 2 ^ 64) :
    Calls Tryd.prog 3 #[.int .u64 (now0 : Nat), .slice ao ln cap] w fun e w' => e = .returned (.bool true) ∧ Grw w w' := by
  have NW := Lib.hid (new_M now0 w t hnow)
  have RA := Lib.hid hrow
  have FB := Lib.hid fb
  have TP := Lib.hid (tab_pos t)
  obtain ⟨N, hN⟩ : ∃ N, min ln 60 = N := ⟨_, rfl⟩
  have hN1 : N ≤ 60 := by omega
  have hN2 : N ≤ ln := by omega
  have HN := Lib.hid hN
  clear hrow t hN fb hnow
  go_enter Tryd.func3, Tryd.ntmps3
  go_wp2_with fail
  refine NW.out.mono ?_
  rintro _ w1 ⟨p, rfl, hm⟩
  have H0 := Lib.hid (HS.start hm TP.out)
  obtain ⟨r, hr⟩ : ∃ r, w1.heap.size = r := ⟨_, rfl⟩
  rw [hr] at H0
  clear hm
  go_wp2_with fail
  go_loopw [7] (fun u wr => ∃ (i now : Nat) (L : List Du), i ≤ N ∧ u = .int .i64 i ∧ HS w wr p now L r now L (fun _ => False) ∧ L.length ≤ i) (fun u _ => N - (intOf u).toNat)
  case atStart => exact ⟨0, now0, [], Nat.zero_le _, rfl, H0.out, Nat.le_refl _⟩
  case round =>
    obtain ⟨i, now, L, hi, rfl, hst, hLl⟩ := hrel
    clear hr
    by_cases hi' : i < N
    · have hii : decide ((i : Int) < (ln : Int)) = true := by simp; omega
      have hi60 : decide ((i : Int) < 60) = true := by simp; omega
      have hi61 : (i : Int) < 60 := by omega
      have hil : i < ln := by omega
      have hili : (i : Int) < (ln : Int) := by omega
      obtain ⟨lb, loff, rfl, hc⟩ := (RA.out.later hst.grw).at (by omega : 0 < ln)
      obtain ⟨c0, c1, c2⟩ := hc i hil
      have fbi := FB.out i hil
      obtain ⟨x, hx⟩ : ∃ x, f i = x := ⟨_, rfl⟩
      rw [hx] at c0 c1 c2 fbi
      obtain ⟨xd, xi, xt⟩ := x
      simp only at c0 c1 c2 fbi
      have FI := Lib.hid fbi
      have q6 : IntKind.i64.wrap ((i : Int) + 1) = ((i + 1 : Nat) : Int) := by simp [IntKind.wrap_i64]; omega
      have g0 : Grw wr (wr.alloc (.cells #[.int .i64 xd, .int .i64 xi, .int .u64 (xt : Nat)] 31)) := (Grw.rfl' wr).alloc _
      have C0 : C3 (wr.alloc (.cells #[.int .i64 xd, .int .i64 xi, .int .u64 (xt : Nat)] 31)) wr.heap.size (.int .i64 xd) (.int .i64 xi) (.int .u64 (xt : Nat)) := ⟨by simp [go_sem], by simp [go_sem], by simp [go_sem]⟩
      have S0 : HS w (wr.alloc (.cells #[.int .i64 xd, .int .i64 xi, .int .u64 (xt : Nat)] 31)) p now L r now L (fun k => k = wr.heap.size) := hst.add g0 (fun k hk => Or.inr ⟨by omega, by rw [size_new]; omega⟩)
      obtain ⟨X, hX⟩ : ∃ X, wr.heap.size = X := ⟨_, rfl⟩
      obtain ⟨wx, hwx⟩ : ∃ wx, wr.alloc (.cells #[.int .i64 xd, .int .i64 xi, .int .u64 (xt : Nat)] 31) = wx := ⟨_, rfl⟩
      rw [hX, hwx] at C0 S0
      have BX := Lib.hid S0
      have CX := Lib.hid C0
      have GG := Lib.hid S0.gl
      have x0 := C0.c0
      obtain ⟨q, hq⟩ : ∃ q : Int, xd % 8 = q := ⟨_, rfl⟩
      have q0 := Int.emod_nonneg xd (show (8 : Int) ≠ 0 by decide)
      have q1 := Int.emod_lt_of_pos xd (show (0 : Int) < 8 by decide)
      rw [hq] at q0 q1
      have MO : Hid (∀ w, Calls Tryd.prog 7 #[.int .i64 xd, .int .i64 8] w fun e w' => e = .returned (.int .i64 q) ∧ w = w') := (fun w => by have := mod_any xd 8 w (by decide) (by decide); rw [show ((8 : Nat) : Int) = 8 from rfl, hq] at this; exact this : ∀ w, Calls Tryd.prog 7 #[.int .i64 xd, .int .i64 8] w fun e w' => e = .returned (.int .i64 q) ∧ w = w')
      have HL := Lib.hid (And.intro hLl (And.intro hi' hN1))
      clear hx hq hst hLl hc fbi g0 C0 S0
      go_upto_block 2 with (with_reducible refine (MO.out _).mono ?_; rintro _ _ ⟨rfl, rfl⟩)
      clear hwx hX c0 c1 c2
      go_cut [] from 50 to 183 (fun wy => ∃ (now' : Nat) (L' : List Du), HS w wy p now' L' r now' L' (fun _ => False) ∧ L'.length ≤ i + 1)
      case first =>
        have x1 := CX.out.c1
        have x2 := CX.out.c2
        rcases (show q = 0 ∨ q = 1 ∨ q = 2 ∨ q = 3 ∨ q = 4 ∨ q = 5 ∨ q = 6 ∨ q = 7 by omega) with rfl | rfl | rfl | rfl | rfl | rfl | rfl | rfl
        · as_aux_lemma =>
          obtain ⟨t, ht, eh⟩ := held_nat GG.out.nw FI.out.2
          have HD := fun u => rheld_any (now : Int) (xt : Int) u ⟨by omega, by have := GG.out.nw; omega⟩ ⟨by omega, by have := FI.out.2; omega⟩
          rw [eh] at HD
          have HD := Lib.hid HD
          have HTT := Lib.hid ht
          obtain ⟨v, hv⟩ := BX.out.rw
          have k1 := gw_cell hv.kp.t.c1
          have z2 := gw_cell x2
          clear hv eh ht x0 x1 x2
          go_wp2_with fail
          refine wp_region_grown (by kernel_rfl) (by kernel_rfl) ?_
          repeat (go_big_quiet_step (first | (go_at_call 8; exact calls_grown (HD.out _))))
          refine wpQuiet_nil ?_
          rintro _ ⟨q', rfl⟩
          have B1 := Lib.hid (BX.out.later q'.h)
          have C1 := Lib.hid (CX.out.later q'.h)
          obtain ⟨y, hy⟩ : ∃ y, q'.x = y := ⟨_, rfl⟩
          rw [hy] at B1 C1 ⊢
          clear hy k1 z2
          have x0 := C1.out.c0
          have x1 := C1.out.c1
          have x2 := C1.out.c2
          have BD := Lib.hid (B1.out.later (Grw.rfl' y).drew)
          have CD := Lib.hid (C1.out.later (Grw.rfl' y).drew)
          obtain ⟨m, hm⟩ : ∃ m, (xd.tmod 3 == 0) = m := ⟨_, rfl⟩
          cases m with
          | true =>
            obtain ⟨z, L', hlen, P1, P2⟩ := insert_pair (w0 := w) (p := p) (r := r) (X := fun k => k = X) GG.out xi xt FI.out.1 FI.out.2 (by have := HL.out; omega)
            have P1 := Lib.hid P1
            have P2 := Lib.hid P2
            have HE := Lib.hid hlen
            clear hlen
            go_wp2_with fail
            go_region_held3 (fun u => u.cell? ⟨X, 1, none⟩ = some (.int .i64 xi)) (first | go_keep | exact xa | exact xb)
              (first | (go_at_call 9; refine (P1.out y.drew BD.out).mono ?_; rintro _ y1 ⟨rfl, h1, f1⟩; have xa := (CD.out.frm f1 (fun c => c rfl)).c1; have CA := Lib.hid (CD.out.frm f1 (fun c => c rfl))) | (go_at_call 10; refine (P2.out y1 h1).mono ?_; rintro _ y2 ⟨rfl, h2, f2⟩; have xb := (CA.out.frm f2 (fun c => c rfl)).c1))
            have B2 := Lib.hid h2
            clear h1 h2 f1 f2 xa xb x0 x1 x2
            go_wp2_with fail
            go_meet
            case rel => exact ⟨now, L', B2.out.mono (fun _ c => c.elim), by have := HL.out; have := HE.out; omega⟩
          | false =>
            obtain ⟨z, L', hlen, P1, P2⟩ := insert_pair (w0 := w) (p := p) (r := r) (X := fun k => k = X) GG.out xi t FI.out.1 HTT.out (by have := HL.out; omega)
            have P1 := Lib.hid P1
            have P2 := Lib.hid P2
            have HE := Lib.hid hlen
            clear hlen
            go_wp2_with fail
            go_region_held3 (fun u => u.cell? ⟨X, 1, none⟩ = some (.int .i64 xi)) (first | go_keep | exact xa | exact xb)
              (first | (go_at_call 9; refine (P1.out y.drew BD.out).mono ?_; rintro _ y1 ⟨rfl, h1, f1⟩; have xa := (CD.out.frm f1 (fun c => c rfl)).c1; have CA := Lib.hid (CD.out.frm f1 (fun c => c rfl))) | (go_at_call 10; refine (P2.out y1 h1).mono ?_; rintro _ y2 ⟨rfl, h2, f2⟩; have xb := (CA.out.frm f2 (fun c => c rfl)).c1))
            have B2 := Lib.hid h2
            clear h1 h2 f1 f2 xa xb x0 x1 x2
            go_wp2_with fail
            go_meet
            case rel => exact ⟨now, L', B2.out.mono (fun _ c => c.elim), by have := HL.out; have := HE.out; omega⟩
        · as_aux_lemma =>
          obtain ⟨t, ht, eh⟩ := held_nat GG.out.nw FI.out.2
          have HD := fun u => rheld_any (now : Int) (xt : Int) u ⟨by omega, by have := GG.out.nw; omega⟩ ⟨by omega, by have := FI.out.2; omega⟩
          rw [eh] at HD
          have HD := Lib.hid HD
          have HTT := Lib.hid ht
          obtain ⟨v, hv⟩ := BX.out.rw
          have k1 := gw_cell hv.kp.t.c1
          have z2 := gw_cell x2
          clear hv eh ht x0 x1 x2
          go_wp2_with fail
          refine wp_region_grown (by kernel_rfl) (by kernel_rfl) ?_
          repeat (go_big_quiet_step (first | (go_at_call 8; exact calls_grown (HD.out _))))
          refine wpQuiet_nil ?_
          rintro _ ⟨q', rfl⟩
          have B1 := Lib.hid (BX.out.later q'.h)
          have C1 := Lib.hid (CX.out.later q'.h)
          obtain ⟨y, hy⟩ : ∃ y, q'.x = y := ⟨_, rfl⟩
          rw [hy] at B1 C1 ⊢
          clear hy k1 z2
          have x0 := C1.out.c0
          have x1 := C1.out.c1
          have x2 := C1.out.c2
          have BD := Lib.hid (B1.out.later (Grw.rfl' y).drew)
          have CD := Lib.hid (C1.out.later (Grw.rfl' y).drew)
          obtain ⟨m, hm⟩ : ∃ m, (xd.tmod 3 == 0) = m := ⟨_, rfl⟩
          cases m with
          | true =>
            obtain ⟨z, L', hlen, P1, P2⟩ := insert_pair (w0 := w) (p := p) (r := r) (X := fun k => k = X) GG.out xi xt FI.out.1 FI.out.2 (by have := HL.out; omega)
            have P1 := Lib.hid P1
            have P2 := Lib.hid P2
            have HE := Lib.hid hlen
            clear hlen
            go_wp2_with fail
            go_region_held3 (fun u => u.cell? ⟨X, 1, none⟩ = some (.int .i64 xi)) (first | go_keep | exact xa | exact xb)
              (first | (go_at_call 9; refine (P1.out y.drew BD.out).mono ?_; rintro _ y1 ⟨rfl, h1, f1⟩; have xa := (CD.out.frm f1 (fun c => c rfl)).c1; have CA := Lib.hid (CD.out.frm f1 (fun c => c rfl))) | (go_at_call 10; refine (P2.out y1 h1).mono ?_; rintro _ y2 ⟨rfl, h2, f2⟩; have xb := (CA.out.frm f2 (fun c => c rfl)).c1))
            have B2 := Lib.hid h2
            clear h1 h2 f1 f2 xa xb x0 x1 x2
            go_wp2_with fail
            go_meet
            case rel => exact ⟨now, L', B2.out.mono (fun _ c => c.elim), by have := HL.out; have := HE.out; omega⟩
          | false =>
            obtain ⟨z, L', hlen, P1, P2⟩ := insert_pair (w0 := w) (p := p) (r := r) (X := fun k => k = X) GG.out xi t FI.out.1 HTT.out (by have := HL.out; omega)
            have P1 := Lib.hid P1
            have P2 := Lib.hid P2
            have HE := Lib.hid hlen
            clear hlen
            go_wp2_with fail
            go_region_held3 (fun u => u.cell? ⟨X, 1, none⟩ = some (.int .i64 xi)) (first | go_keep | exact xa | exact xb)
              (first | (go_at_call 9; refine (P1.out y.drew BD.out).mono ?_; rintro _ y1 ⟨rfl, h1, f1⟩; have xa := (CD.out.frm f1 (fun c => c rfl)).c1; have CA := Lib.hid (CD.out.frm f1 (fun c => c rfl))) | (go_at_call 10; refine (P2.out y1 h1).mono ?_; rintro _ y2 ⟨rfl, h2, f2⟩; have xb := (CA.out.frm f2 (fun c => c rfl)).c1))
            have B2 := Lib.hid h2
            clear h1 h2 f1 f2 xa xb x0 x1 x2
            go_wp2_with fail
            go_meet
            case rel => exact ⟨now, L', B2.out.mono (fun _ c => c.elim), by have := HL.out; have := HE.out; omega⟩
        · as_aux_lemma =>
          obtain ⟨t, ht, eh⟩ := held_nat GG.out.nw FI.out.2
          have HD := fun u => rheld_any (now : Int) (xt : Int) u ⟨by omega, by have := GG.out.nw; omega⟩ ⟨by omega, by have := FI.out.2; omega⟩
          rw [eh] at HD
          have HD := Lib.hid HD
          have HTT := Lib.hid ht
          obtain ⟨v, hv⟩ := BX.out.rw
          have k1 := gw_cell hv.kp.t.c1
          have z2 := gw_cell x2
          clear hv eh ht x0 x1 x2
          go_wp2_with fail
          refine wp_region_grown (by kernel_rfl) (by kernel_rfl) ?_
          repeat (go_big_quiet_step (first | (go_at_call 8; exact calls_grown (HD.out _))))
          refine wpQuiet_nil ?_
          rintro _ ⟨q', rfl⟩
          have B1 := Lib.hid (BX.out.later q'.h)
          have C1 := Lib.hid (CX.out.later q'.h)
          obtain ⟨y, hy⟩ : ∃ y, q'.x = y := ⟨_, rfl⟩
          rw [hy] at B1 C1 ⊢
          clear hy k1 z2
          have x0 := C1.out.c0
          have x1 := C1.out.c1
          have x2 := C1.out.c2
          have BD := Lib.hid (B1.out.later (Grw.rfl' y).drew)
          have CD := Lib.hid (C1.out.later (Grw.rfl' y).drew)
          obtain ⟨m, hm⟩ : ∃ m, (xd.tmod 3 == 0) = m := ⟨_, rfl⟩
          cases m with
          | true =>
            obtain ⟨z, L', hlen, P1, P2⟩ := insert_pair (w0 := w) (p := p) (r := r) (X := fun k => k = X) GG.out xi xt FI.out.1 FI.out.2 (by have := HL.out; omega)
            have P1 := Lib.hid P1
            have P2 := Lib.hid P2
            have HE := Lib.hid hlen
            clear hlen
            go_wp2_with fail
            go_region_held3 (fun u => u.cell? ⟨X, 1, none⟩ = some (.int .i64 xi)) (first | go_keep | exact xa | exact xb)
              (first | (go_at_call 9; refine (P1.out y.drew BD.out).mono ?_; rintro _ y1 ⟨rfl, h1, f1⟩; have xa := (CD.out.frm f1 (fun c => c rfl)).c1; have CA := Lib.hid (CD.out.frm f1 (fun c => c rfl))) | (go_at_call 10; refine (P2.out y1 h1).mono ?_; rintro _ y2 ⟨rfl, h2, f2⟩; have xb := (CA.out.frm f2 (fun c => c rfl)).c1))
            have B2 := Lib.hid h2
            clear h1 h2 f1 f2 xa xb x0 x1 x2
            go_wp2_with fail
            go_meet
            case rel => exact ⟨now, L', B2.out.mono (fun _ c => c.elim), by have := HL.out; have := HE.out; omega⟩
          | false =>
            obtain ⟨z, L', hlen, P1, P2⟩ := insert_pair (w0 := w) (p := p) (r := r) (X := fun k => k = X) GG.out xi t FI.out.1 HTT.out (by have := HL.out; omega)
            have P1 := Lib.hid P1
            have P2 := Lib.hid P2
            have HE := Lib.hid hlen
            clear hlen
            go_wp2_with fail
            go_region_held3 (fun u => u.cell? ⟨X, 1, none⟩ = some (.int .i64 xi)) (first | go_keep | exact xa | exact xb)
              (first | (go_at_call 9; refine (P1.out y.drew BD.out).mono ?_; rintro _ y1 ⟨rfl, h1, f1⟩; have xa := (CD.out.frm f1 (fun c => c rfl)).c1; have CA := Lib.hid (CD.out.frm f1 (fun c => c rfl))) | (go_at_call 10; refine (P2.out y1 h1).mono ?_; rintro _ y2 ⟨rfl, h2, f2⟩; have xb := (CA.out.frm f2 (fun c => c rfl)).c1))
            have B2 := Lib.hid h2
            clear h1 h2 f1 f2 xa xb x0 x1 x2
            go_wp2_with fail
            go_meet
            case rel => exact ⟨now, L', B2.out.mono (fun _ c => c.elim), by have := HL.out; have := HE.out; omega⟩
        · as_aux_lemma =>
          obtain ⟨c, o, L', hlen, P1, P2⟩ := cancel_pair (w0 := w) (p := p) (r := r) (X := fun k => k = X) GG.out xi FI.out.1
          have P1 := Lib.hid P1
          have P2 := Lib.hid P2
          have HE := Lib.hid hlen
          clear x0 x2 hlen
          go_wp2_with fail
          refine (P1.out _ BX.out).mono ?_
          rintro _ y1 ⟨rfl, h1, f1⟩
          have B1 := Lib.hid h1
          have C1 := Lib.hid (CX.out.frm f1 (fun c => c rfl))
          clear h1 f1 x1
          have x1 := C1.out.c1
          go_wp2_with fail
          refine (P2.out _ B1.out).mono ?_
          rintro _ y2 ⟨rfl, h2, _⟩
          have B2 := Lib.hid h2
          clear h2 x1
          go_wp2_with fail
          go_meet
          case rel => exact ⟨now, L', B2.out.mono (fun _ c => c.elim), by have := HL.out; have := HE.out; omega⟩
        · as_aux_lemma =>
          obtain ⟨d, o, now', L', hlen, P1, P2⟩ := pop_pair (w0 := w) (p := p) (r := r) (X := fun k => k = X) GG.out xt FI.out.2
          obtain ⟨di, dt⟩ := d
          simp only at P1 P2
          have P1 := Lib.hid P1
          have P2 := Lib.hid P2
          have HE := Lib.hid hlen
          clear x0 x1 hlen
          go_wp2_with fail
          refine (P1.out _ BX.out).mono ?_
          rintro _ y1 ⟨rfl, h1, f1⟩
          have gy : Grw y1 (y1.alloc (.cells #[.int .i64 di, .int .u64 (dt : Nat)] 42)) := (Grw.rfl' y1).alloc _
          have B1 := Lib.hid (h1.add (Y := fun k => k = X ∨ k = y1.heap.size) gy (fun k hk => hk.imp id (fun c => ⟨by omega, by rw [size_new]; omega⟩)))
          have C1 := Lib.hid ((CX.out.frm f1 (fun c => c rfl)).later gy)
          have K1 := Lib.hid (Kp.new y1 (.int .i64 di) (.int .u64 (dt : Nat)) 42)
          obtain ⟨D, hD⟩ : ∃ D, y1.heap.size = D := ⟨_, rfl⟩
          rw [hD] at B1 K1
          clear h1 f1 gy x2
          have x2 := C1.out.c2
          go_wp2_with fail
          refine (P2.out _ _ B1.out).mono ?_
          rintro _ y2 ⟨rfl, h2, f2⟩
          have gz : Grw y2 (y2.alloc (.cells #[.int .i64 di, .int .u64 (dt : Nat)] 42)) := (Grw.rfl' y2).alloc _
          have B2 := Lib.hid (h2.later gz)
          have K2 := (K1.out.frm f2 (fun c => c (Or.inr rfl))).later gz
          have d0 := K2.t.c0
          have d1 := K2.t.c1
          clear h2 f2 gz K2 x2
          go_wp2_with fail
          go_meet
          case rel => exact ⟨now', L', B2.out.mono (fun _ c => c.elim), by have := HL.out; have := HE.out; omega⟩
        · as_aux_lemma =>
          obtain ⟨d, o, now', L', hlen, P1, P2⟩ := pop_pair (w0 := w) (p := p) (r := r) (X := fun k => k = X) GG.out xt FI.out.2
          obtain ⟨di, dt⟩ := d
          simp only at P1 P2
          have P1 := Lib.hid P1
          have P2 := Lib.hid P2
          have HE := Lib.hid hlen
          clear x0 x1 hlen
          go_wp2_with fail
          refine (P1.out _ BX.out).mono ?_
          rintro _ y1 ⟨rfl, h1, f1⟩
          have gy : Grw y1 (y1.alloc (.cells #[.int .i64 di, .int .u64 (dt : Nat)] 42)) := (Grw.rfl' y1).alloc _
          have B1 := Lib.hid (h1.add (Y := fun k => k = X ∨ k = y1.heap.size) gy (fun k hk => hk.imp id (fun c => ⟨by omega, by rw [size_new]; omega⟩)))
          have C1 := Lib.hid ((CX.out.frm f1 (fun c => c rfl)).later gy)
          have K1 := Lib.hid (Kp.new y1 (.int .i64 di) (.int .u64 (dt : Nat)) 42)
          obtain ⟨D, hD⟩ : ∃ D, y1.heap.size = D := ⟨_, rfl⟩
          rw [hD] at B1 K1
          clear h1 f1 gy x2
          have x2 := C1.out.c2
          go_wp2_with fail
          refine (P2.out _ _ B1.out).mono ?_
          rintro _ y2 ⟨rfl, h2, f2⟩
          have gz : Grw y2 (y2.alloc (.cells #[.int .i64 di, .int .u64 (dt : Nat)] 42)) := (Grw.rfl' y2).alloc _
          have B2 := Lib.hid (h2.later gz)
          have K2 := (K1.out.frm f2 (fun c => c (Or.inr rfl))).later gz
          have d0 := K2.t.c0
          have d1 := K2.t.c1
          clear h2 f2 gz K2 x2
          go_wp2_with fail
          go_meet
          case rel => exact ⟨now', L', B2.out.mono (fun _ c => c.elim), by have := HL.out; have := HE.out; omega⟩
        · as_aux_lemma =>
          obtain ⟨er, now', L', T, hlen, htl, P1, P2⟩ := advance_pair (w0 := w) (p := p) (r := r) (X := fun k => k = X) GG.out xt FI.out.2
          have P1 := Lib.hid P1
          have P2 := Lib.hid P2
          have HE := Lib.hid (And.intro hlen htl)
          clear x0 x1 hlen htl
          go_wp2_with fail
          refine (P1.out _ BX.out).mono ?_
          rintro _ y1 ⟨v1, rfl, hrow1, h1, f1⟩
          have B1 := Lib.hid h1
          have C1 := Lib.hid (CX.out.frm f1 (fun c => c rfl))
          have R1 := Lib.hid hrow1
          clear h1 f1 hrow1 x2
          have x2 := C1.out.c2
          go_wp2_with fail
          refine (P2.out _ _ B1.out).mono ?_
          rintro _ y2 ⟨v2, rfl, hrow2, h2, f2⟩
          have B2 := Lib.hid h2
          have DS := Lib.hid (dues_same v1 v2 T y2 (by have := HL.out; have := HE.out; omega) (R1.out.frm f2 (fun k hk c => c (Or.inr hk))) hrow2)
          clear h2 f2 hrow2 x2
          go_wp2_with fail
          refine DS.out.mono ?_
          rintro _ y3 ⟨rfl, h3⟩
          have B3 := Lib.hid (B2.out.later h3)
          clear h3
          go_wp2_with fail
          go_meet
          case rel => exact ⟨now', L', B3.out.mono (fun _ c => c.elim), by have := HL.out; have := HE.out; omega⟩
        · as_aux_lemma =>
          obtain ⟨a, b, c, o, pe1, pe2, P1, P2, P3, P4⟩ := place_pair (w0 := w) (p := p) (r := r) (X := fun k => k = X) GG.out xi FI.out.1
          have P1 := Lib.hid P1
          have P2 := Lib.hid P2
          have P3 := Lib.hid P3
          have P4 := Lib.hid P4
          clear x0 x2
          go_wp2_with fail
          refine (P1.out _ BX.out).mono ?_
          rintro _ y1 ⟨rfl, h1⟩
          have B1 := Lib.hid (BX.out.later h1)
          have C1 := Lib.hid (CX.out.later h1)
          clear h1 x1
          have x1 := C1.out.c1
          go_wp2_with fail
          refine (P2.out _ B1.out).mono ?_
          rintro _ y2 ⟨rfl, h1⟩
          have B2 := Lib.hid (B1.out.later h1)
          have C2 := Lib.hid (C1.out.later h1)
          clear h1 x1
          have x1 := C2.out.c1
          go_wp2_with fail
          refine (P3.out _ B2.out).mono ?_
          rintro _ y3 ⟨rfl, h1⟩
          have B3 := Lib.hid (B2.out.later h1)
          have C3' := Lib.hid (C2.out.later h1)
          clear h1 x1
          have x1 := C3'.out.c1
          go_wp2_with fail
          refine (P4.out _ B3.out).mono ?_
          rintro _ y4 ⟨rfl, h1⟩
          have B4 := Lib.hid (B3.out.later h1)
          clear h1 x1
          go_wp2_with fail
          go_meet
          case rel => exact ⟨now, L, B4.out.mono (fun _ c => c.elim), by have := HL.out; omega⟩
      case rest =>
        clear x0 MO BX CX
        obtain ⟨now', L', st, hl'⟩ := hcut
        have SA := Lib.hid (same_any w _ p now' r L' _ st)
        have ST := Lib.hid st
        have HL' := Lib.hid hl'
        clear st hl'
        go_wp2_with fail
        refine SA.out.mono ?_
        rintro _ y1 ⟨rfl, h1⟩
        have S1 := Lib.hid (ST.out.later h1)
        clear h1
        go_wp2_with fail
        go_roundw
        case rel => exact ⟨i + 1, now', L', by have := HL.out; omega, by go_num, S1.out, by have := HL'.out; omega⟩
        case measure => have := HL.out; simp [intOf]; omega
    · obtain rfl : i = N := by omega
      have G := Lib.hid hst.grw
      have hlast : (¬ i < ln) ∨ (i < ln ∧ ¬ i < 60) := by
        have := HN.out
        omega
      have TB := Lib.hid hst.tab
      have WK := Lib.hid (wakes_any wr hst.tab)
      clear hst
      rcases hlast with d1 | ⟨d1, d2⟩
      · have e1 : decide (i < ln) = false := by simp; omega
        have e2 : decide ((i : Int) < (ln : Int)) = false := by simp; omega
        have e3 : ¬ (i : Int) < (ln : Int) := by omega
        go_wp2_with fail
        refine WK.out.mono ?_
        rintro _ y ⟨rfl, hy⟩
        have GY := Lib.hid (G.out.trans hy)
        clear hy
        go_wp2_with fail
        go_ret
        exact ⟨rfl, GY.out⟩
      · have e1 : decide (i < ln) = true := by simp; omega
        have e2 : decide ((i : Int) < (ln : Int)) = true := by simp; omega
        have e3 : (i : Int) < (ln : Int) := by omega
        have e4 : decide (i < 60) = false := by simp; omega
        have e5 : decide ((i : Int) < 60) = false := by simp; omega
        have e6 : ¬ (i : Int) < 60 := by omega
        go_wp2_with fail
        refine WK.out.mono ?_
        rintro _ y ⟨rfl, hy⟩
        have GY := Lib.hid (G.out.trans hy)
        clear hy
        go_wp2_with fail
        go_ret
        exact ⟨rfl, GY.out⟩
end Go.Proofs.YtjkhgpdhhnfmlaaDoor
