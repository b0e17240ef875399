/- The law RingPlays at this program. -/
import Derived.Test.YtlihcljjpalapaaDoorLe
import Derived.Test.YtlihcljjpalapaaDoorLd
import Derived.Test.YtlihcljjpalapaaDoorSg
namespace Go.Proofs.YtlihcljjpalapaaDoor
open Go.RowKit MK
open RG (Du La listR putB putR dropR dropO takeR hasId inSlot)
set_option linter.unusedSimpArgs false

theorem mod5_is (n : Int) (r : Int) (w : World) (h : n % 5 = r) : Calls Tryd.prog 7 #[.int .i64 n, .int .i64 5] w fun e w' => e = .returned (.int .i64 r) ∧ w = w' := by rw [← h]; exact mod_any n 5 w (by omega) (by omega)
theorem rput_is (q : Nat) (v : Value) (R R' : List La) (s : Int) (d : Du) (o : Bool) (w : World) (h : RefL w q v R) (hf : R.length < 1000) (h1 : putB R s d = o) (h2 : putR R s d = R') :
    Calls Tryd.prog 9 #[.pointer (some ⟨q, 0, none⟩), .int .i64 s, dv d] w fun e w' => e = .returned (.bool o) ∧ RefQ q v w R' w' := by rw [← h1, ← h2]; exact rput_R q v R s d w h hf
theorem drop_is (b : Nat) (A : Array Value) (R R' : List La) (i : Int) (v : Int) (o : Bool) (w : World) (h : RingR w b A R) (h1 : ov (dropO R i) = v) (h2 : (dropO R i).isSome = o) (h3 : dropR R i = R') :
    Calls Tryd.prog 10 #[.pointer (some ⟨b, 0, none⟩), .int .i64 i] w fun e w' => e = .returned (.tuple #[.int .i64 v, .bool o]) ∧ RQ b A w R' w' := by rw [← h1, ← h2, ← h3]; exact drop_R b A R i w h
theorem rdrop_is (q : Nat) (v : Value) (R R' : List La) (i : Int) (z : Int) (o : Bool) (w : World) (h : RefL w q v R) (g : RG.Good R) (h1 : ov (dropO R i) = z) (h2 : (dropO R i).isSome = o) (h3 : dropR R i = R') :
    Calls Tryd.prog 11 #[.pointer (some ⟨q, 0, none⟩), .int .i64 i] w fun e w' => e = .returned (.agg #[.int .i64 z, .bool o]) ∧ RefQ q v w R' w' := by rw [← h1, ← h2, ← h3]; exact rdrop_R q v R i w h g
theorem clone_at {w y : World} {v : Value} {d : Du} {l : List Du} (h : y.ownsRow w.heap.size 31 2 v (d :: l).length (cd (d :: l))) :
    ∃ lb cap, v = .slice (some ⟨lb, 0, none⟩) (d :: l).length cap ∧ w.heap.size ≤ lb ∧ y.cell? ⟨lb, 0, none⟩ = some (.int .i64 d.id) ∧ y.cell? ⟨lb, 1, none⟩ = some (.int .u64 (d.t : Nat)) ∧ y.frozen? ⟨lb, 0, none⟩ = false ∧ y.frozen? ⟨lb, 1, none⟩ = false := by
  rcases h.2 with ⟨_, h2⟩ | ⟨g, cap, cur, rfl, hb, _⟩
  · simp at h2
  · refine ⟨g, cap, rfl, hb, ?_, ?_, h.frozenAt 0, h.frozenAt 1⟩
    · rw [h.cellAt 0 (by simp only [List.length_cons]; omega)]; rfl
    · rw [h.cellAt 1 (by simp only [List.length_cons]; omega)]; rfl
set_option maxHeartbeats 16000000 in
set_option maxRecDepth 100000 in
theorem plays_walk (ao : Option Addr) (ln cap : Nat) (f : Nat → Ac) (w : World) (hln : ln ≤ 9223372036854775807) (t : Tab w) (hrow : RowA w ao ln f) :
    Calls Tryd.prog 3 #[.slice ao ln cap] w fun e w' => e = .returned (.bool true) ∧ Grw w w' := by
  have NW := Lib.hid (newR w)
  have RA := Lib.hid hrow
  have TB := Lib.hid t
  obtain ⟨N, hN⟩ : ∃ N, min ln 60 = N := ⟨_, rfl⟩
  have hN1 : N ≤ 60 := by omega
  have hN2 : N ≤ ln := by omega
  have HN := Lib.hid hN
  clear hrow t hN
  go_enter Tryd.func3, Tryd.ntmps3
  go_wp2_with fail
  refine NW.out.mono ?_
  rintro _ w1 ⟨rfl, hr, hg1, hsz1⟩
  clear hsz1
  have HB : Hid (∃ A v R, Both w (w1.alloc (.cells #[.slice none 0 0] 28)) w.heap.size A w1.heap.size v R ∧ R.length ≤ 0) := (⟨_, _, [], ⟨hr.later ((Grw.rfl' _).alloc _), ref_new w1, mine_new w, (fun g hg => by
      rcases hg with rfl | hg
      · exact Below.size hg1
      · cases hg), (fun g hg c => by
      rcases c with rfl | c
      · have := hr.ring.foot_lt hg
        omega
      · cases c), hg1.alloc _⟩, Nat.le_refl _⟩ : ∃ A v R, Both w (w1.alloc (.cells #[.slice none 0 0] 28)) w.heap.size A w1.heap.size v R ∧ R.length ≤ 0)
  obtain ⟨b, hb⟩ : ∃ b, w.heap.size = b := ⟨_, rfl⟩
  obtain ⟨q, hq⟩ : ∃ q, w1.heap.size = q := ⟨_, rfl⟩
  have HB' : Hid (∃ A v R, Both w (w1.alloc (.cells #[.slice none 0 0] 28)) b A q v R ∧ R.length ≤ 0) := (by have := HB.out; rw [hb, hq] at this; exact this : ∃ A v R, Both w (w1.alloc (.cells #[.slice none 0 0] 28)) b A q v R ∧ R.length ≤ 0)
  rw [hb]
  clear hr hg1 HB hb
  go_wp2_with fail
  go_loopw [5] (fun u wr => ∃ i : Nat, i ≤ N ∧ u = .int .i64 i ∧ ∃ A v R, Both w wr b A q v R ∧ R.length ≤ i) (fun u _ => N - (intOf u).toNat)
  case atStart => exact ⟨0, Nat.zero_le _, rfl, HB'.out⟩
  case round =>
    obtain ⟨i, hi, rfl, hst⟩ := hrel
    by_cases hi' : i < N
    · obtain ⟨A, v, R, hB, hRl⟩ := hst
      have hii : decide ((i : Int) < (ln : Int)) = true := by simp; omega
      have hi60 : decide ((i : Int) < 60) = true := by simp; omega
      have hil : i < ln := by omega
      have hili : (i : Int) < (ln : Int) := by omega
      obtain ⟨lb, loff, rfl, hc⟩ := (RA.out.later hB.grw).at (by omega : 0 < ln)
      obtain ⟨c0, c1, c2, c3⟩ := hc i hil
      have HBo := Lib.hid hB
      obtain ⟨x, hx⟩ : ∃ x, f i = x := ⟨_, rfl⟩
      rw [hx] at c0 c1 c2 c3
      have XN := X4.new wr x
      have g0 : Grw wr (wr.alloc (.cells #[.int .i64 x.dd, .int .i64 x.s, .int .i64 x.d.id, .int .u64 (x.d.t : Nat)] 33)) := (Grw.rfl' _).alloc _
      obtain ⟨xd, xs, xi, xt⟩ := x
      simp only at c0 c1 c2 c3 XN g0
      obtain ⟨wx, hwx⟩ : ∃ wx, wr.alloc (.cells #[.int .i64 xd, .int .i64 xs, .int .i64 xi, .int .u64 xt] 33) = wx := ⟨_, rfl⟩
      rw [hwx] at XN g0
      obtain ⟨X, hX⟩ : ∃ X, wr.heap.size = X := ⟨_, rfl⟩
      have NF : Hid (¬ foot b A X ∧ ¬ rfoot q v X) := (⟨fun e => by have := HBo.out.ring.ring.foot_lt e; omega, fun e => by have := HBo.out.ref.foot_lt e; omega⟩ : ¬ foot b A X ∧ ¬ rfoot q v X)
      rw [hX] at XN
      have BY := Lib.hid (HBo.out.later g0)
      have BX := Lib.hid (HBo.out.later g0.drew)
      have XY := Lib.hid XN
      have XX : Hid (X4 wx.drew X ⟨xd, xs, ⟨xi, xt⟩⟩) := (XN : X4 wx X ⟨xd, xs, ⟨xi, xt⟩⟩)
      have x0 : wx.cell? ⟨X, 0, none⟩ = some (.int .i64 xd) := XN.1
      have x1 : wx.cell? ⟨X, 1, none⟩ = some (.int .i64 xs) := XN.2.1
      have x2 : wx.cell? ⟨X, 2, none⟩ = some (.int .i64 xi) := XN.2.2.1
      have x3 : wx.cell? ⟨X, 3, none⟩ = some (.int .u64 xt) := XN.2.2.2
      obtain ⟨e8, he8⟩ : ∃ e8, i % 8 = e8 := ⟨_, rfl⟩
      have h81 : (i : Int).tmod 8 = (e8 : Int) := by rw [Int.tmod_eq_emod_of_nonneg (by omega)]; omega
      have h82 : (i : Int) % 8 = (e8 : Int) := by omega
      obtain ⟨c, hcm⟩ : ∃ c, xd % 5 = c := ⟨_, rfl⟩
      have hcr : c = 0 ∨ c = 1 ∨ c = 2 ∨ c = 3 ∨ c = 4 := by omega
      have MO := Lib.hid (mod5_is xd c wx hcm)
      clear hc hB hx XN g0 he8 hcm
      go_wp2_with fail
      refine MO.out.mono ?_
      rintro _ w2 ⟨rfl, rfl⟩
      clear c0 c1 c2 c3 hwx hX
      rcases hcr with rfl | rfl | rfl | rfl | rfl
      · skip
        obtain ⟨o, ho⟩ : ∃ o, putB R xs ⟨xi, xt⟩ = o := ⟨_, rfl⟩
        obtain ⟨R', hR'⟩ : ∃ R', putR R xs ⟨xi, xt⟩ = R' := ⟨_, rfl⟩
        have hl' : R'.length ≤ i + 1 := by rw [← hR']; exact Nat.le_trans (putR_len R xs _) (by omega)
        have P1 := fun u (h : RingR u b A R) => put_is b A R R' xs ⟨xi, xt⟩ o u h (by omega) ho hR'
        have P2 := fun u (h : RefL u q v R) => rput_is q v R R' xs ⟨xi, xt⟩ o u h (by omega) ho hR'
        unfold dv at P1 P2
        simp only at P1 P2
        have P1 := Lib.hid P1
        have P2 := Lib.hid P2
        have hoo : (o != o) = false := by simp
        clear ho hR'
        go_wp2_with fail
        go_region_held3 (fun u => u.cell? ⟨X, 1, none⟩ = some (.int .i64 xs) ∧ u.cell? ⟨X, 2, none⟩ = some (.int .i64 xi) ∧ u.cell? ⟨X, 3, none⟩ = some (.int .u64 xt)) (first | go_keep | exact ⟨xa.2.1, xa.2.2.1, xa.2.2.2⟩ | exact ⟨xb.2.1, xb.2.2.1, xb.2.2.2⟩)
          (first | (go_at_call 8; refine (P1.out wx.drew BX.out.ring).mono ?_; rintro _ y1 ⟨rfl, hq1⟩; have xa := RQ.x4 hq1 XX.out NF.out.1) | (go_at_call 9; refine (P2.out y1 (BX.out.ref1 hq1)).mono ?_; rintro _ y2 ⟨rfl, hq2⟩; have xb := RefQ.x4 hq2 xa NF.out.2))
        have HB : Hid (∃ A v R, Both w y2 b A q v R ∧ R.length ≤ i + 1) := (let ⟨A', v', hB⟩ := BX.out.step hq1 hq2; ⟨A', v', R', hB, hl'⟩ : ∃ A v R, Both w y2 b A q v R ∧ R.length ≤ i + 1)
        clear hq1 hq2 xa xb
        obtain ⟨A9, v9, R9, hb9, hl9⟩ := HB.out
        have B9 := Lib.hid hb9
        have SA := Lib.hid (same_any b A9 q v9 R9 y2 hb9.ring hb9.ref (tab_grw hb9.grw TB.out))
        clear hb9
        by_cases h7 : e8 = 7
        · subst h7
          go_wp2_with fail
          refine SA.out.mono ?_
          rintro _ w9 ⟨rfl, hg9⟩
          have B10 := Lib.hid (B9.out.later hg9)
          clear hg9
          go_wp2_with fail
          go_roundw
          case rel => exact ⟨i + 1, by omega, by go_num, A9, v9, R9, B10.out, hl9⟩
          case measure => simp [intOf]; omega
        · have t7 : ((e8 : Int) == 7) = false := by simp; omega
          go_wp2_with fail
          go_roundw
          case rel => exact ⟨i + 1, by omega, by go_num, A9, v9, R9, B9.out, hl9⟩
          case measure => simp [intOf]; omega
      · skip
        obtain ⟨o, ho⟩ : ∃ o, putB R xs ⟨xi, xt⟩ = o := ⟨_, rfl⟩
        obtain ⟨R', hR'⟩ : ∃ R', putR R xs ⟨xi, xt⟩ = R' := ⟨_, rfl⟩
        have hl' : R'.length ≤ i + 1 := by rw [← hR']; exact Nat.le_trans (putR_len R xs _) (by omega)
        have P1 := fun u (h : RingR u b A R) => put_is b A R R' xs ⟨xi, xt⟩ o u h (by omega) ho hR'
        have P2 := fun u (h : RefL u q v R) => rput_is q v R R' xs ⟨xi, xt⟩ o u h (by omega) ho hR'
        unfold dv at P1 P2
        simp only at P1 P2
        have P1 := Lib.hid P1
        have P2 := Lib.hid P2
        have hoo : (o != o) = false := by simp
        clear ho hR'
        go_wp2_with fail
        go_region_held3 (fun u => u.cell? ⟨X, 1, none⟩ = some (.int .i64 xs) ∧ u.cell? ⟨X, 2, none⟩ = some (.int .i64 xi) ∧ u.cell? ⟨X, 3, none⟩ = some (.int .u64 xt)) (first | go_keep | exact ⟨xa.2.1, xa.2.2.1, xa.2.2.2⟩ | exact ⟨xb.2.1, xb.2.2.1, xb.2.2.2⟩)
          (first | (go_at_call 8; refine (P1.out wx.drew BX.out.ring).mono ?_; rintro _ y1 ⟨rfl, hq1⟩; have xa := RQ.x4 hq1 XX.out NF.out.1) | (go_at_call 9; refine (P2.out y1 (BX.out.ref1 hq1)).mono ?_; rintro _ y2 ⟨rfl, hq2⟩; have xb := RefQ.x4 hq2 xa NF.out.2))
        have HB : Hid (∃ A v R, Both w y2 b A q v R ∧ R.length ≤ i + 1) := (let ⟨A', v', hB⟩ := BX.out.step hq1 hq2; ⟨A', v', R', hB, hl'⟩ : ∃ A v R, Both w y2 b A q v R ∧ R.length ≤ i + 1)
        clear hq1 hq2 xa xb
        obtain ⟨A9, v9, R9, hb9, hl9⟩ := HB.out
        have B9 := Lib.hid hb9
        have SA := Lib.hid (same_any b A9 q v9 R9 y2 hb9.ring hb9.ref (tab_grw hb9.grw TB.out))
        clear hb9
        by_cases h7 : e8 = 7
        · subst h7
          go_wp2_with fail
          refine SA.out.mono ?_
          rintro _ w9 ⟨rfl, hg9⟩
          have B10 := Lib.hid (B9.out.later hg9)
          clear hg9
          go_wp2_with fail
          go_roundw
          case rel => exact ⟨i + 1, by omega, by go_num, A9, v9, R9, B10.out, hl9⟩
          case measure => simp [intOf]; omega
        · have t7 : ((e8 : Int) == 7) = false := by simp; omega
          go_wp2_with fail
          go_roundw
          case rel => exact ⟨i + 1, by omega, by go_num, A9, v9, R9, B9.out, hl9⟩
          case measure => simp [intOf]; omega
      · skip
        obtain ⟨z, hz⟩ : ∃ z, ov (dropO R xi) = z := ⟨_, rfl⟩
        obtain ⟨o, ho⟩ : ∃ o, (dropO R xi).isSome = o := ⟨_, rfl⟩
        obtain ⟨R', hR'⟩ : ∃ R', dropR R xi = R' := ⟨_, rfl⟩
        have hl' : R'.length ≤ i + 1 := by rw [← hR']; exact Nat.le_trans (dropR_len R xi) (by omega)
        have P1 := Lib.hid (fun u (h : RingR u b A R) => drop_is b A R R' xi z o u h hz ho hR')
        have P2 := Lib.hid (fun u (h : RefL u q v R) => rdrop_is q v R R' xi z o u h BX.out.ring.good hz ho hR')
        have hzz : (z != z) = false := by simp
        have hoo : (o != o) = false := by simp
        have BW : Hid (Both w wx b A q v R) := BY.out
        clear hz ho hR'
        go_wp2_with fail
        refine (P1.out wx BY.out.ring).mono ?_
        rintro _ y1 ⟨rfl, hq1⟩
        have xa := RQ.x4 hq1 XY.out NF.out.1
        have xa0 := xa.2.2.1
        clear x0 x1 x2 x3
        go_wp2_with fail
        refine (P2.out y1 (BY.out.ref1 hq1)).mono ?_
        rintro _ y2 ⟨rfl, hq2⟩
        have HB : Hid (∃ A v R, Both w y2 b A q v R ∧ R.length ≤ i + 1) := (let ⟨A', v', hB⟩ := BY.out.step hq1 hq2; ⟨A', v', R', hB, hl'⟩ : ∃ A v R, Both w y2 b A q v R ∧ R.length ≤ i + 1)
        clear hq1 hq2 xa xa0
        obtain ⟨A9, v9, R9, hb9, hl9⟩ := HB.out
        have B9 := Lib.hid hb9
        have SA := Lib.hid (same_any b A9 q v9 R9 y2 hb9.ring hb9.ref (tab_grw hb9.grw TB.out))
        clear hb9
        by_cases h7 : e8 = 7
        · subst h7
          go_wp2_with fail
          refine SA.out.mono ?_
          rintro _ w9 ⟨rfl, hg9⟩
          have B10 := Lib.hid (B9.out.later hg9)
          clear hg9
          go_wp2_with fail
          go_roundw
          case rel => exact ⟨i + 1, by omega, by go_num, A9, v9, R9, B10.out, hl9⟩
          case measure => simp [intOf]; omega
        · have t7 : ((e8 : Int) == 7) = false := by simp; omega
          go_wp2_with fail
          go_roundw
          case rel => exact ⟨i + 1, by omega, by go_num, A9, v9, R9, B9.out, hl9⟩
          case measure => simp [intOf]; omega
      · skip
        obtain ⟨tl, htl⟩ : ∃ tl, listR R xs = tl := ⟨_, rfl⟩
        obtain ⟨R', hR'⟩ : ∃ R', takeR R xs = R' := ⟨_, rfl⟩
        have hl' : R'.length ≤ i + 1 := by rw [← hR']; exact Nat.le_trans (takeR_len R xs) (by omega)
        have htb : tl.length ≤ 1000000 := by rw [← htl]; exact Nat.le_trans (listR_len R xs) (by omega)
        have P1 := fun u (h : RingR u b A R) => take_R2 b A R xs u h
        have P2 := fun u (h : RefL u q v R) => rtake_R q v R xs u h
        unfold RtakeQ at P2
        rw [htl, hR'] at P1 P2
        have P1 := Lib.hid P1
        have P2 := Lib.hid P2
        clear htl hR'
        go_wp2_with fail
        go_region_held3 (fun u => u.cell? ⟨X, 1, none⟩ = some (.int .i64 xs) ∧ u.cell? ⟨X, 2, none⟩ = some (.int .i64 xi) ∧ u.cell? ⟨X, 3, none⟩ = some (.int .u64 xt)) (first | go_keep | exact ⟨xa.2.1, xa.2.2.1, xa.2.2.2⟩ | exact ⟨xb.2.1, xb.2.2.1, xb.2.2.2⟩ | exact ⟨xc.2.1, xc.2.2.1, xc.2.2.2⟩)
          (first | (go_at_call 13; refine (P1.out wx.drew BX.out.ring).mono ?_; rintro _ y1 ⟨v1, rfl, hr1, hq1, hf1⟩; have xa := RQ.x4 hq1 XX.out NF.out.1) | (go_at_call 14; refine (P2.out y1 (BX.out.ref1 hq1)).mono ?_; rintro _ y2 ⟨v2, rfl, hr2, hq2⟩; have xb := RefQ.x4 hq2 xa NF.out.2; have hr1' := RefQ.row hq2 hr1 (fun g e => BX.out.dis g (hf1 g e))) | (go_at_call 12; refine (dues_is v1 v2 tl y2 htb hr1' hr2).mono ?_; rintro _ y3 ⟨rfl, hg3⟩; have xc := X4.frm xb (hg3.frm (fun _ => False)) (fun e => e)))
        have HB : Hid (∃ A v R, Both w y3 b A q v R ∧ R.length ≤ i + 1) := (let ⟨A', v', hB⟩ := BX.out.step hq1 hq2; ⟨A', v', R', hB.later hg3, hl'⟩ : ∃ A v R, Both w y3 b A q v R ∧ R.length ≤ i + 1)
        clear hq1 hq2 xa xb xc hr1 hr2 hr1' hf1 hg3
        obtain ⟨A9, v9, R9, hb9, hl9⟩ := HB.out
        have B9 := Lib.hid hb9
        have SA := Lib.hid (same_any b A9 q v9 R9 y3 hb9.ring hb9.ref (tab_grw hb9.grw TB.out))
        clear hb9
        by_cases h7 : e8 = 7
        · subst h7
          go_wp2_with fail
          refine SA.out.mono ?_
          rintro _ w9 ⟨rfl, hg9⟩
          have B10 := Lib.hid (B9.out.later hg9)
          clear hg9
          go_wp2_with fail
          go_roundw
          case rel => exact ⟨i + 1, by omega, by go_num, A9, v9, R9, B10.out, hl9⟩
          case measure => simp [intOf]; omega
        · have t7 : ((e8 : Int) == 7) = false := by simp; omega
          go_wp2_with fail
          go_roundw
          case rel => exact ⟨i + 1, by omega, by go_num, A9, v9, R9, B9.out, hl9⟩
          case measure => simp [intOf]; omega
      · skip
        have P1 := Lib.hid (fun u (h : RingR u b A R) => list_R b A R xs u h)
        obtain ⟨tl, htl⟩ : ∃ tl, listR R xs = tl := ⟨_, rfl⟩
        rw [htl] at P1
        clear htl
        go_wp2_with fail
        refine (P1.out wx BY.out.ring).mono ?_
        rintro _ y1 ⟨v1, rfl, ho1, hg1⟩
        clear x0 x1 x2 x3
        rcases tl with _ | ⟨d0, tl⟩
        · obtain ⟨ao1, cap1, rfl, _⟩ := ownsRow_lies ho1
          have HB : Hid (∃ A v R, Both w y1 b A q v R ∧ R.length ≤ i + 1) := (⟨A, v, R, BY.out.later hg1, by omega⟩ : ∃ A v R, Both w y1 b A q v R ∧ R.length ≤ i + 1)
          clear ho1 hg1
          obtain ⟨A9, v9, R9, hb9, hl9⟩ := HB.out
          have B9 := Lib.hid hb9
          have SA := Lib.hid (same_any b A9 q v9 R9 y1 hb9.ring hb9.ref (tab_grw hb9.grw TB.out))
          clear hb9
          by_cases h7 : e8 = 7
          · subst h7
            go_wp2_with fail
            refine SA.out.mono ?_
            rintro _ w9 ⟨rfl, hg9⟩
            have B10 := Lib.hid (B9.out.later hg9)
            clear hg9
            go_wp2_with fail
            go_roundw
            case rel => exact ⟨i + 1, by omega, by go_num, A9, v9, R9, B10.out, hl9⟩
            case measure => simp [intOf]; omega
          · have t7 : ((e8 : Int) == 7) = false := by simp; omega
            go_wp2_with fail
            go_roundw
            case rel => exact ⟨i + 1, by omega, by go_num, A9, v9, R9, B9.out, hl9⟩
            case measure => simp [intOf]; omega
        · obtain ⟨lb, cap1, hv1, hlb, hc0, hc1, hf0, hf1⟩ := clone_at ho1
          subst hv1
          have hlen : decide (0 < ((d0 :: tl).length : Int)) = true := by rw [decide_eq_true_eq, List.length_cons]; omega
          have HB : Hid (∃ A v R, Both w ((y1.setCell ⟨lb, 0, none⟩ (.int .i64 0)).setCell ⟨lb, 1, none⟩ (.int .u64 0)) b A q v R ∧ R.length ≤ i + 1) := (⟨A, v, R, BY.out.later (hg1.set2 hlb _ _), by omega⟩ : ∃ A v R, Both w ((y1.setCell ⟨lb, 0, none⟩ (.int .i64 0)).setCell ⟨lb, 1, none⟩ (.int .u64 0)) b A q v R ∧ R.length ≤ i + 1)
          obtain ⟨m, hm⟩ : ∃ m, (d0 :: tl).length = m + 1 := ⟨tl.length, rfl⟩
          rw [hm] at hlen ⊢
          clear ho1 hg1 hm
          obtain ⟨A9, v9, R9, hb9, hl9⟩ := HB.out
          have B9 := Lib.hid hb9
          have SA := Lib.hid (same_any b A9 q v9 R9 ((y1.setCell ⟨lb, 0, none⟩ (.int .i64 0)).setCell ⟨lb, 1, none⟩ (.int .u64 0)) hb9.ring hb9.ref (tab_grw hb9.grw TB.out))
          clear hb9
          by_cases h7 : e8 = 7
          · subst h7
            go_wp2_with fail
            refine SA.out.mono ?_
            rintro _ w9 ⟨rfl, hg9⟩
            have B10 := Lib.hid (B9.out.later hg9)
            clear hg9
            go_wp2_with fail
            go_roundw
            case rel => exact ⟨i + 1, by omega, by go_num, A9, v9, R9, B10.out, hl9⟩
            case measure => simp [intOf]; omega
          · have t7 : ((e8 : Int) == 7) = false := by simp; omega
            go_wp2_with fail
            go_roundw
            case rel => exact ⟨i + 1, by omega, by go_num, A9, v9, R9, B9.out, hl9⟩
            case measure => simp [intOf]; omega
    · obtain rfl : N = i := by omega
      have hN := HN.out
      by_cases hll : ln ≤ 60
      · have hii : ¬ (N : Int) < (ln : Int) := by omega
        have hiin : decide (N < ln) = false := by simp; omega
        clear hN hll
        obtain ⟨A9, v9, R9, hb9, _⟩ := hst
        have B9 := Lib.hid hb9
        have SA := Lib.hid (same_any b A9 q v9 R9 wr hb9.ring hb9.ref (tab_grw hb9.grw TB.out))
        have WK := Lib.hid (fun u => wakes_any u)
        clear hb9
        go_wp2_with fail
        refine SA.out.mono ?_
        rintro _ w9 ⟨rfl, hg9⟩
        have G9 := Lib.hid (B9.out.grw.trans hg9)
        clear hg9
        go_wp2_with fail
        refine (WK.out _).mono ?_
        rintro _ w10 ⟨rfl, hg10⟩
        have G10 := Lib.hid (G9.out.trans hg10)
        clear hg10
        go_wp2_with fail
        go_ret
        exact ⟨rfl, G10.out⟩
      · have hii : (N : Int) < (ln : Int) := by omega
        have hiin : decide (N < ln) = true := by simp; omega
        have hi60 : ¬ (N : Int) < 60 := by omega
        have hi60n : decide (N < 60) = false := by simp; omega
        have hi60d : decide ((N : Int) < 60) = false := by simp; omega
        clear hN hll
        obtain ⟨A9, v9, R9, hb9, _⟩ := hst
        have B9 := Lib.hid hb9
        have SA := Lib.hid (same_any b A9 q v9 R9 wr hb9.ring hb9.ref (tab_grw hb9.grw TB.out))
        have WK := Lib.hid (fun u => wakes_any u)
        clear hb9
        go_wp2_with fail
        refine SA.out.mono ?_
        rintro _ w9 ⟨rfl, hg9⟩
        have G9 := Lib.hid (B9.out.grw.trans hg9)
        clear hg9
        go_wp2_with fail
        refine (WK.out _).mono ?_
        rintro _ w10 ⟨rfl, hg10⟩
        have G10 := Lib.hid (G9.out.trans hg10)
        clear hg10
        go_wp2_with fail
        go_ret
        exact ⟨rfl, G10.out⟩
end Go.Proofs.YtlihcljjpalapaaDoor
