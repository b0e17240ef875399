/- sort.insertionSort, siftDown, heapSort, reverseRange at the queue's line. -/
import Derived.Test.YtdindhmbofddoaaQd
import Derived.Test.YtdindhmbofddoaaSm
namespace Go.Proofs.Ytdindhmbofddoaa
open Go.RowKit
set_option linter.unusedSimpArgs false

/-- the line at hand, come of l at w by exchanges from lo to hi. -/
structure LS (b o : Nat) (a : Int) (g cap lo hi : Nat) (w : World) (l : List Wt) (x : World) (m : List Wt) : Prop where
  r : LR b o a g cap x m
  f : Frm (fun k => k = g) w x
  p : PI lo hi l m
theorem LS.start {b o : Nat} {a : Int} {g cap lo hi : Nat} {w : World} {l : List Wt} (h : LR b o a g cap w l) : LS b o a g cap lo hi w l w l := ⟨h, Frm.rfl' _ _, PI.refl _ _ _⟩
theorem LS.later {b o : Nat} {a : Int} {g cap lo hi : Nat} {w x y : World} {l m : List Wt} (h : LS b o a g cap lo hi w l x m) (k : Grw x y) : LS b o a g cap lo hi w l y m :=
  ⟨h.r.keep (k.frm (fun _ => False)) (fun e => e) (fun e => e), h.f.grw' k, h.p⟩
theorem LS.trans {b o : Nat} {a : Int} {g cap lo hi : Nat} {w x y : World} {l m n : List Wt} (h : LS b o a g cap lo hi w l x m) (k : LS b o a g cap lo hi x m y n) : LS b o a g cap lo hi w l y n :=
  ⟨k.r, h.f.trans k.f (fun _ e => Or.inl e), h.p.trans k.p⟩
theorem LS.mono {b o : Nat} {a : Int} {g cap lo hi lo' hi' : Nat} {w x : World} {l m : List Wt} (h : LS b o a g cap lo hi w l x m) (h0 : lo' ≤ lo) (h1 : hi ≤ hi') : LS b o a g cap lo' hi' w l x m := ⟨h.r, h.f, h.p.mono h0 h1⟩
theorem LS.len {b o : Nat} {a : Int} {g cap lo hi : Nat} {w x : World} {l m : List Wt} (h : LS b o a g cap lo hi w l x m) : m.length = l.length := h.p.len
theorem less_at (b o : Nat) (a : Int) (g cap : Nat) (l : List Wt) (i j : Nat) (t : Bool) (w : World) (h : LR b o a g cap w l) (hi : i < l.length) (hj : j < l.length) (e : les a (gt l i) (gt l j) = t) :
    Calls Try.prog 81 #[.pointer (some ⟨b, o, none⟩), .int .i64 i, .int .i64 j] w fun e w' => e = .returned (.bool t) ∧ Grw w w' := by
  rw [gt_at hi, gt_at hj] at e
  exact e ▸ line_less b o a g cap l i j w h hi hj
theorem swap_at (b o : Nat) (a : Int) (g cap lo hi : Nat) (l : List Wt) (i j : Nat) (w : World) (h : LR b o a g cap w l) (hh : hi ≤ l.length) (i0 : lo ≤ i) (i1 : i < hi) (j0 : lo ≤ j) (j1 : j < hi) :
    Calls Try.prog 84 #[.pointer (some ⟨b, o, none⟩), .int .i64 i, .int .i64 j] w fun e w' => e = .returned (.tuple #[]) ∧ LS b o a g cap lo hi w l w' (swp l i j) :=
  (line_swap b o a g cap l i j w h (by omega) (by omega)).mono fun _ _ ⟨he, hr, hf⟩ => ⟨he, hr, hf, PI.swap hh i0 i1 j0 j1⟩
theorem sl_less (b o : Nat) : ∀ w, Sem.run Try.prog (method (Try.prog.types.size + 100) 62 (.pointer (some ⟨b, o, none⟩)) "Less") w = .ok (81, .pointer (some ⟨b, o, none⟩)) w := fun _ => by kernel_rfl
theorem sl_swap (b o : Nat) : ∀ w, Sem.run Try.prog (method (Try.prog.types.size + 100) 62 (.pointer (some ⟨b, o, none⟩)) "Swap") w = .ok (84, .pointer (some ⟨b, o, none⟩)) w := fun _ => by kernel_rfl

set_option maxHeartbeats 2000000 in
set_option maxRecDepth 100000 in
theorem insertion_is (b o : Nat) (a : Int) (g cap lo hi : Nat) (l : List Wt) (w : World) (h : LR b o a g cap w l) (hlh : lo ≤ hi) (hh : hi ≤ l.length) (hsz : l.length ≤ 1000000) :
    Calls Try.prog 48 #[.iface 62 (.pointer (some ⟨b, o, none⟩)), .int .i64 lo, .int .i64 hi] w fun e w' => e = .returned (.tuple #[]) ∧ ∃ m, LS b o a g cap lo hi w l w' m ∧ Srtd a lo hi m := by
  have H := Lib.hid h
  have HL := Lib.hid (And.intro hh hsz)
  have mL := sl_less b o
  have mS := sl_swap b o
  have hh1 : hi ≤ 1000000 := by omega
  have q0 : IntKind.i64.wrap ((lo : Int) + 1) = ((lo + 1 : Nat) : Int) := by simp [IntKind.wrap_i64]; omega
  clear h hh hsz
  go_enter Try.func48, Try.ntmps48
  go_wp2_with fail
  go_loopw [6] (fun s6 wr => ∃ (i : Nat) (m : List Wt), s6 = .int .i64 i ∧ lo + 1 ≤ i ∧ (i ≤ hi ∨ i = lo + 1) ∧ LS b o a g cap lo hi w l wr m ∧ Srtd a lo i m) (fun s6 _ => hi + 2 - (intOf s6).toNat)
  case atStart => exact ⟨lo + 1, l, by first | rfl | go_num, Nat.le_refl _, Or.inr rfl, LS.start H.out, Srtd.small a (Nat.le_refl _) l⟩
  case round =>
    obtain ⟨i, m, rfl, hi0, hi1, hs, ht⟩ := hrel
    have S := Lib.hid hs
    have T := Lib.hid ht
    clear hs ht
    by_cases ci : i < hi
    · have d1 : decide (i < hi) = true := by simp [ci]
      have q1 : IntKind.i64.wrap ((i : Int) + 1) = ((i + 1 : Nat) : Int) := by simp [IntKind.wrap_i64]; omega
      go_wp2_with fail
      go_loopw [7] (fun s7 wi => ∃ (j : Nat) (n : List Wt), s7 = .int .i64 j ∧ lo ≤ j ∧ j ≤ i ∧ LS b o a g cap lo hi w l wi n ∧ Ins a lo i j n) (fun s7 _ => (intOf s7).toNat)
      case atStart => exact ⟨i, m, rfl, by omega, Nat.le_refl _, S.out, Ins.start T.out⟩
      case round =>
        obtain ⟨j, n, rfl, hj0, hj1, hs, ht⟩ := hrel
        have SI := Lib.hid hs
        have TI := Lib.hid ht
        have hnl := hs.len
        have NL := Lib.hid hnl
        clear hs ht hnl
        by_cases cj : lo < j
        · have d2 : decide (lo < j) = true := by simp [cj]
          obtain ⟨k, rfl⟩ : ∃ k, j = k + 1 := ⟨j - 1, by omega⟩
          have q2 : IntKind.i64.wrap (((k + 1 : Nat) : Int) - 1) = (k : Int) := by simp [IntKind.wrap_i64]; omega
          obtain ⟨t, htt⟩ : ∃ t, les a (gt n (k + 1)) (gt n k) = t := ⟨_, rfl⟩
          have C := Lib.hid (fun w h => less_at b o a g cap n (k + 1) k t w h (by have := NL.out; have := HL.out; omega) (by have := NL.out; have := HL.out; omega) htt)
          have W := Lib.hid (fun w h => swap_at b o a g cap lo hi n (k + 1) k w h (by have := NL.out; have := HL.out; omega) (by omega) (by omega) (by omega) (by omega))
          have TT := Lib.hid htt
          obtain ⟨j, hj⟩ : ∃ j, k + 1 = j := ⟨_, rfl⟩
          have HJ := Lib.hid hj
          rw [hj] at C W q2 d2 ⊢
          clear htt hj
          cases t with
          | false =>
            go_wp2_with fail
            refine (C.out _ SI.out.r).mono ?_
            rintro _ w1 ⟨rfl, hw⟩
            have S1 := Lib.hid (SI.out.later hw)
            clear hw
            go_wp2_with fail
            refine ⟨⟨i + 1, n, by first | rfl | go_num, by omega, Or.inl (by omega), S1.out, TI.out.stop cj hj1 (by have := TT.out; exact this)⟩, by simp [intOf]; omega⟩
          | true =>
            go_wp2_with fail
            refine (C.out _ SI.out.r).mono ?_
            rintro _ w1 ⟨rfl, hw⟩
            have S1 := Lib.hid (SI.out.later hw)
            clear hw
            go_wp2_with fail
            refine (W.out _ S1.out.r).mono ?_
            rintro _ w2 ⟨rfl, h2⟩
            have S2 := Lib.hid (S1.out.trans h2)
            clear h2
            go_wp2_with fail
            have hj := HJ.out
            subst hj
            refine ⟨⟨k, _, rfl, by omega, by omega, S2.out, by have := TI.out.step cj hj1 (by have := NL.out; have := HL.out; omega) (by have := TT.out; exact this); exact this⟩, by simp [intOf]⟩
        · have d2 : decide (lo < j) = false := by simp; omega
          obtain rfl : j = lo := by omega
          go_wp2_with fail
          refine ⟨⟨i + 1, n, by first | rfl | go_num, by omega, Or.inl (by omega), SI.out, TI.out.low⟩, by simp [intOf]; omega⟩
    · have d1 : decide (i < hi) = false := by simp; omega
      go_wp2_with fail
      go_end0
      exact ⟨rfl, m, S.out, fun p q h0 h1 h2 => T.out p q h0 h1 (by omega)⟩

set_option maxHeartbeats 2000000 in
set_option maxRecDepth 100000 in
theorem reverse_is (b o : Nat) (a : Int) (g cap lo hi : Nat) (l : List Wt) (w : World) (h : LR b o a g cap w l) (hlh : lo < hi) (hh : hi ≤ l.length) (hsz : l.length ≤ 1000000) :
    Calls Try.prog 52 #[.iface 62 (.pointer (some ⟨b, o, none⟩)), .int .i64 lo, .int .i64 hi] w fun e w' => e = .returned (.tuple #[]) ∧ ∃ m, LS b o a g cap lo hi w l w' m := by
  have H := Lib.hid h
  have HL := Lib.hid (And.intro hh hsz)
  have mS := sl_swap b o
  have hh1 : hi ≤ 1000000 := by omega
  have q0 : IntKind.i64.wrap ((hi : Int) - 1) = ((hi - 1 : Nat) : Int) := by simp [IntKind.wrap_i64]; omega
  clear h hh hsz
  go_enter Try.func52, Try.ntmps52
  go_wp2_with fail
  go_loopw [6, 7] (fun s6 s7 wr => ∃ (i j : Nat) (m : List Wt), s6 = .int .i64 i ∧ s7 = .int .i64 j ∧ lo ≤ i ∧ j < hi ∧ (i ≤ j + 1) ∧ LS b o a g cap lo hi w l wr m) (fun _ s7 _ => (intOf s7).toNat)
  case atStart => exact ⟨lo, hi - 1, l, rfl, by first | rfl | go_num, Nat.le_refl _, by omega, by omega, LS.start H.out⟩
  case round =>
    obtain ⟨i, j, m, rfl, rfl, hi0, hj0, hij, hs⟩ := hrel
    have S := Lib.hid hs
    have ML := Lib.hid hs.len
    clear hs
    by_cases ci : i < j
    · have d1 : decide (i < j) = true := by simp [ci]
      have q1 : IntKind.i64.wrap ((i : Int) + 1) = ((i + 1 : Nat) : Int) := by simp [IntKind.wrap_i64]; omega
      have q2 : IntKind.i64.wrap ((j : Int) - 1) = ((j - 1 : Nat) : Int) := by simp [IntKind.wrap_i64]; omega
      have W := Lib.hid (fun w h => swap_at b o a g cap lo hi m i j w h (by have := ML.out; have := HL.out; omega) (by omega) (by omega) (by omega) (by omega))
      go_wp2_with fail
      refine (W.out _ S.out.r).mono ?_
      rintro _ w2 ⟨rfl, h2⟩
      have S2 := Lib.hid (S.out.trans h2)
      clear h2
      go_wp2_with fail
      refine ⟨⟨i + 1, j - 1, _, by first | rfl | go_num, by first | rfl | go_num, by omega, by omega, by omega, S2.out⟩, by simp [intOf]; omega⟩
    · have d1 : decide (i < j) = false := by simp; omega
      go_wp2_with fail
      go_end0
      exact ⟨rfl, m, S.out⟩

set_option maxHeartbeats 4000000 in
set_option maxRecDepth 100000 in
theorem sift_is (b o : Nat) (a : Int) (g cap f lo hi : Nat) (l : List Wt) (w : World) (h : LR b o a g cap w l) (hlh : lo ≤ hi) (hh : f + hi ≤ l.length) (hsz : l.length ≤ 1000000) (hd : MD a f lo hi lo l) :
    Calls Try.prog 57 #[.iface 62 (.pointer (some ⟨b, o, none⟩)), .int .i64 lo, .int .i64 hi, .int .i64 f] w fun e w' => e = .returned (.tuple #[]) ∧ ∃ m, LS b o a g cap f (f + hi) w l w' m ∧ MH a f lo hi m := by
  have H := Lib.hid h
  have HD0 := Lib.hid hd
  have HL := Lib.hid (And.intro hh hsz)
  have mL := sl_less b o
  have mS := sl_swap b o
  have hh1 : f + hi ≤ 1000000 := by omega
  clear h hd hh hsz
  go_enter Try.func57, Try.ntmps57
  go_wp2_with fail
  go_loopw [8] (fun s8 wr => ∃ (r : Nat) (m : List Wt), s8 = .int .i64 r ∧ lo ≤ r ∧ r ≤ hi ∧ LS b o a g cap f (f + hi) w l wr m ∧ MD a f lo hi r m) (fun s8 _ => hi - (intOf s8).toNat)
  case atStart => exact ⟨lo, l, rfl, Nat.le_refl _, hlh, LS.start H.out, HD0.out⟩
  case round =>
    obtain ⟨r, m, rfl, hr0, hr1, hs, ht⟩ := hrel
    have S := Lib.hid hs
    have T := Lib.hid ht
    have ML := Lib.hid hs.len
    clear hs ht
    have q1 : IntKind.i64.wrap (2 * (r : Int)) = 2 * (r : Int) := by simp [IntKind.wrap_i64]; omega
    have q2 : IntKind.i64.wrap (2 * (r : Int) + 1) = ((2 * r + 1 : Nat) : Int) := by simp [IntKind.wrap_i64]; omega
    have q3 : IntKind.i64.wrap (((2 * r + 1 : Nat) : Int) + 1) = ((2 * r + 2 : Nat) : Int) := by simp [IntKind.wrap_i64]; omega
    have q4 : IntKind.i64.wrap ((f : Int) + (r : Int)) = ((f + r : Nat) : Int) := by simp [IntKind.wrap_i64]; omega
    have q5 : IntKind.i64.wrap ((f : Int) + ((2 * r + 1 : Nat) : Int)) = ((f + (2 * r + 1) : Nat) : Int) := by simp [IntKind.wrap_i64]; omega
    have q6 : IntKind.i64.wrap (((f + (2 * r + 1) : Nat) : Int) + 1) = ((f + (2 * r + 2) : Nat) : Int) := by simp [IntKind.wrap_i64]; omega
    have q7 : IntKind.i64.wrap ((f : Int) + ((2 * r + 2 : Nat) : Int)) = ((f + (2 * r + 2) : Nat) : Int) := by simp [IntKind.wrap_i64]; omega
    obtain ⟨c1, hc1⟩ : ∃ c, 2 * r + 1 = c := ⟨_, rfl⟩
    obtain ⟨c2, hc2⟩ : ∃ c, 2 * r + 2 = c := ⟨_, rfl⟩
    rw [hc1] at q2 q3 q5 q6
    rw [hc2] at q3 q6 q7
    obtain ⟨fr, hfr⟩ : ∃ c, f + r = c := ⟨_, rfl⟩
    obtain ⟨f1, hf1⟩ : ∃ c, f + c1 = c := ⟨_, rfl⟩
    obtain ⟨f2, hf2⟩ : ∃ c, f + c2 = c := ⟨_, rfl⟩
    rw [hfr] at q4
    rw [hf1] at q5 q6
    rw [hf2] at q6 q7
    have N := Lib.hid (And.intro hc1 (And.intro hc2 (And.intro hfr (And.intro hf1 hf2))))
    clear hc1 hc2 hfr hf1 hf2
    by_cases e1 : hi ≤ c1
    · have d1 : decide (hi ≤ c1) = true := by simp [e1]
      go_wp2_with fail
      go_end0; exact ⟨rfl, m, S.out, T.out.leaf (by have := N.out.1; omega)⟩
    · have d1 : decide (hi ≤ c1) = false := by simp; omega
      by_cases e2 : c2 < hi
      · have d2 : decide (c2 < hi) = true := by simp [e2]
        obtain ⟨u, hu⟩ : ∃ u, les a (gt m f1) (gt m f2) = u := ⟨_, rfl⟩
        have C0 := Lib.hid (fun w h => less_at b o a g cap m f1 f2 u w h (by have := N.out; have := ML.out; have := HL.out; omega) (by have := N.out; have := ML.out; have := HL.out; omega) hu)
        cases u with
        | false =>
          have CH := Lib.hid (show MC a f hi r c1 m from N.out.1 ▸ mc_left (by have := N.out.2.1; omega) (by rw [N.out.1, N.out.2.1, N.out.2.2.2.1, N.out.2.2.2.2]; exact hu))
          clear hu
          go_wp2_with fail
          refine (C0.out _ S.out.r).mono ?_
          rintro _ w4 ⟨rfl, hw⟩
          have S4 := Lib.hid (S.out.later hw)
          clear hw
          obtain ⟨t, ht⟩ : ∃ t, les a (gt m fr) (gt m f1) = t := ⟨_, rfl⟩
          have C := Lib.hid (fun w h => less_at b o a g cap m fr f1 t w h (by have := N.out; have := CH.out.lt; have := ML.out; have := HL.out; omega) (by have := N.out; have := CH.out.lt; have := ML.out; have := HL.out; omega) ht)
          have W := Lib.hid (fun w h => swap_at b o a g cap f (f + hi) m fr f1 w h (by have := ML.out; have := HL.out; omega) (by have := N.out; omega) (by have := N.out; have := CH.out.lt; have := CH.out.par; omega) (by have := N.out; omega) (by have := N.out; have := CH.out.lt; omega))
          have HT := Lib.hid ht
          clear ht
          cases t with
          | false =>
            go_wp2_with fail
            refine (C.out _ S4.out.r).mono ?_
            rintro _ w5 ⟨rfl, hw⟩
            have S5 := Lib.hid (S4.out.later hw)
            clear hw
            go_wp2_with fail
            exact bodyPost_ret (results_none rfl _ _ _) rfl ⟨rfl, m, S5.out, T.out.done CH.out (by obtain ⟨n1, n2, n3, n4, n5⟩ := N.out; subst n3; have := HT.out; rwa [show f1 = f + c1 by omega] at this)⟩
          | true =>
            go_wp2_with fail
            refine (C.out _ S4.out.r).mono ?_
            rintro _ w5 ⟨rfl, hw⟩
            have S5 := Lib.hid (S4.out.later hw)
            clear hw
            go_wp2_with fail
            refine (W.out _ S5.out.r).mono ?_
            rintro _ w6 ⟨rfl, h6⟩
            have S6 := Lib.hid (S5.out.trans h6)
            clear h6
            go_wp2_with fail
            have hc := CH.out
            have hp := hc.par
            have h0 := hc.pos
            have hl := hc.lt
            have D := T.out.down hc (by have := ML.out; have := HL.out; omega) hr0 (by obtain ⟨n1, n2, n3, n4, n5⟩ := N.out; subst n3; have := HT.out; rwa [show f1 = f + c1 by omega] at this)
            refine ⟨⟨c1, swp m fr f1, rfl, by omega, by omega, S6.out, ?_⟩, by simp [intOf]; omega⟩
            obtain ⟨n1, n2, n3, n4, n5⟩ := N.out
            subst n3
            rwa [show f + c1 = f1 by omega] at D
        | true =>
          have CH := Lib.hid (show MC a f hi r c2 m from N.out.2.1 ▸ mc_right (by have := N.out.2.1; omega) (by rw [N.out.1, N.out.2.1, N.out.2.2.2.1, N.out.2.2.2.2]; exact hu))
          clear hu
          go_wp2_with fail
          refine (C0.out _ S.out.r).mono ?_
          rintro _ w4 ⟨rfl, hw⟩
          have S4 := Lib.hid (S.out.later hw)
          clear hw
          obtain ⟨t, ht⟩ : ∃ t, les a (gt m fr) (gt m f2) = t := ⟨_, rfl⟩
          have C := Lib.hid (fun w h => less_at b o a g cap m fr f2 t w h (by have := N.out; have := CH.out.lt; have := ML.out; have := HL.out; omega) (by have := N.out; have := CH.out.lt; have := ML.out; have := HL.out; omega) ht)
          have W := Lib.hid (fun w h => swap_at b o a g cap f (f + hi) m fr f2 w h (by have := ML.out; have := HL.out; omega) (by have := N.out; omega) (by have := N.out; have := CH.out.lt; have := CH.out.par; omega) (by have := N.out; omega) (by have := N.out; have := CH.out.lt; omega))
          have HT := Lib.hid ht
          clear ht
          cases t with
          | false =>
            go_wp2_with fail
            refine (C.out _ S4.out.r).mono ?_
            rintro _ w5 ⟨rfl, hw⟩
            have S5 := Lib.hid (S4.out.later hw)
            clear hw
            go_wp2_with fail
            exact bodyPost_ret (results_none rfl _ _ _) rfl ⟨rfl, m, S5.out, T.out.done CH.out (by obtain ⟨n1, n2, n3, n4, n5⟩ := N.out; subst n3; have := HT.out; rwa [show f2 = f + c2 by omega] at this)⟩
          | true =>
            go_wp2_with fail
            refine (C.out _ S4.out.r).mono ?_
            rintro _ w5 ⟨rfl, hw⟩
            have S5 := Lib.hid (S4.out.later hw)
            clear hw
            go_wp2_with fail
            refine (W.out _ S5.out.r).mono ?_
            rintro _ w6 ⟨rfl, h6⟩
            have S6 := Lib.hid (S5.out.trans h6)
            clear h6
            go_wp2_with fail
            have hc := CH.out
            have hp := hc.par
            have h0 := hc.pos
            have hl := hc.lt
            have D := T.out.down hc (by have := ML.out; have := HL.out; omega) hr0 (by obtain ⟨n1, n2, n3, n4, n5⟩ := N.out; subst n3; have := HT.out; rwa [show f2 = f + c2 by omega] at this)
            refine ⟨⟨c2, swp m fr f2, rfl, by omega, by omega, S6.out, ?_⟩, by simp [intOf]; omega⟩
            obtain ⟨n1, n2, n3, n4, n5⟩ := N.out
            subst n3
            rwa [show f + c2 = f2 by omega] at D
      · have d2 : decide (c2 < hi) = false := by simp; omega
        have CH := Lib.hid (show MC a f hi r c1 m from N.out.1 ▸ mc_one (by have := N.out.1; omega) (by have := N.out.2.1; omega))
        obtain ⟨t, ht⟩ : ∃ t, les a (gt m fr) (gt m f1) = t := ⟨_, rfl⟩
        have C := Lib.hid (fun w h => less_at b o a g cap m fr f1 t w h (by have := N.out; have := CH.out.lt; have := ML.out; have := HL.out; omega) (by have := N.out; have := CH.out.lt; have := ML.out; have := HL.out; omega) ht)
        have W := Lib.hid (fun w h => swap_at b o a g cap f (f + hi) m fr f1 w h (by have := ML.out; have := HL.out; omega) (by have := N.out; omega) (by have := N.out; have := CH.out.lt; have := CH.out.par; omega) (by have := N.out; omega) (by have := N.out; have := CH.out.lt; omega))
        have HT := Lib.hid ht
        clear ht
        cases t with
        | false =>
          go_wp2_with fail
          refine (C.out _ S.out.r).mono ?_
          rintro _ w5 ⟨rfl, hw⟩
          have S5 := Lib.hid (S.out.later hw)
          clear hw
          go_wp2_with fail
          exact bodyPost_ret (results_none rfl _ _ _) rfl ⟨rfl, m, S5.out, T.out.done CH.out (by obtain ⟨n1, n2, n3, n4, n5⟩ := N.out; subst n3; have := HT.out; rwa [show f1 = f + c1 by omega] at this)⟩
        | true =>
          go_wp2_with fail
          refine (C.out _ S.out.r).mono ?_
          rintro _ w5 ⟨rfl, hw⟩
          have S5 := Lib.hid (S.out.later hw)
          clear hw
          go_wp2_with fail
          refine (W.out _ S5.out.r).mono ?_
          rintro _ w6 ⟨rfl, h6⟩
          have S6 := Lib.hid (S5.out.trans h6)
          clear h6
          go_wp2_with fail
          have hc := CH.out
          have hp := hc.par
          have h0 := hc.pos
          have hl := hc.lt
          have D := T.out.down hc (by have := ML.out; have := HL.out; omega) hr0 (by obtain ⟨n1, n2, n3, n4, n5⟩ := N.out; subst n3; have := HT.out; rwa [show f1 = f + c1 by omega] at this)
          refine ⟨⟨c1, swp m fr f1, rfl, by omega, by omega, S6.out, ?_⟩, by simp [intOf]; omega⟩
          obtain ⟨n1, n2, n3, n4, n5⟩ := N.out
          subst n3
          rwa [show f + c1 = f1 by omega] at D
end Go.Proofs.Ytdindhmbofddoaa
