/- sort.breakPatterns at the queue's line. -/
import Derived.Test.YtlopijcpnfkcgaaGreatQSa
import Derived.Test.YtlopijcpnfkcgaaGreatQShelf
import Derived.Laws.Bits64b
namespace Go.Proofs.YtlopijcpnfkcgaaGreat
namespace QQ
open Go.RowKit
set_option linter.unusedSimpArgs false

theorem LS.off {b o : Nat} {a : Int} {g cap lo hi : Nat} {w x y : World} {l m : List Wt} (h : LS b o a g cap lo hi w l x m) {F : Nat → Prop} (f : Frm F x y) (hF : ∀ k, F k → w.heap.size ≤ k) (hb : b < w.heap.size) (hg : g < w.heap.size) : LS b o a g cap lo hi w l y m :=
  ⟨h.r.keep f (fun e => by have := hF b e; omega) (fun e => by have := hF g e; omega), h.f.trans f (fun k e => Or.inr (hF k e)), h.p⟩
/-- the random number in block q. -/
structure RX (w : World) (q x : Nat) : Prop where
  c : w.cell? ⟨q, 0, none⟩ = some (.int .u64 (x : Nat))
  f : w.frozen? ⟨q, 0, none⟩ = false
  lt : x < 18446744073709551616
theorem RX.keep {w y : World} {q x : Nat} (h : RX w q x) {F : Nat → Prop} (f : Frm F w y) (hn : ¬ F q) : RX y q x := ⟨f.cell h.c hn, frz_frm f h.c hn h.f, h.lt⟩
theorem next_is (q x : Nat) (w : World) (h : RX w q x) : Calls Tryz.prog 90 #[.pointer (some ⟨q, 0, none⟩)] w fun e w' => ∃ y : Nat, e = .returned (.int .u64 (y : Nat)) ∧ RX w' q y ∧ Frm (fun k => k = q) w w' := by
  have := Any.xorshift_Next Tryz.xnext q 0 x h.lt w h.c h.f
  change Calls Tryz.prog 90 _ w _ at this
  refine this.mono ?_
  rintro e w' ⟨he, rfl⟩
  refine ⟨_, he, ⟨?_, ?_, Sort.xorNextN_lt x h.lt⟩, ?_⟩
  · rw [World.cell?_drewN]; exact World.cell?_setCell_same _ _ _ h.c
  · rw [World.frozen?_drewN]; simp [h.f]
  · exact ((Frm.rfl' (fun k => k = q) w).set _ _ (Or.inl rfl)).drewN 3
theorem npt_is (n : Nat) (hn : 1 ≤ n) (hb : n ≤ 1000000) (w : World) : ∃ M : Nat, 1 ≤ M ∧ M ≤ 2 * n ∧ Calls Tryz.prog 89 #[.int .i64 n] w fun e w' => e = .returned (.int .u64 (M : Nat)) ∧ w = w' := by
  refine ⟨1 <<< Sort.bitsLen n, ?_, ?_, ?_⟩
  · rw [Nat.one_shiftLeft]; exact Nat.two_pow_pos _
  · rw [Nat.one_shiftLeft]; exact Sort.two_pow_bitsLen_le (by omega)
  · have := Any.nextPowerOfTwo Tryz.npt n (by omega) w
    change Calls Tryz.prog 89 _ w _ at this
    exact this.mono fun _ _ ⟨he, hw⟩ => ⟨he, hw.symm⟩
set_option maxHeartbeats 2000000 in
set_option maxRecDepth 100000 in
theorem break_is (b o : Nat) (a : Int) (g cap lo hi : Nat) (l : List Wt) (w : World) (h : LR b o a g cap w l) (hlh : lo ≤ hi) (hh : hi ≤ l.length) (hsz : l.length ≤ 1000000) :
    Calls Tryz.prog 81 #[.iface 109 (.pointer (some ⟨b, o, none⟩)), .int .i64 lo, .int .i64 hi] w fun e w' => e = .returned (.tuple #[]) ∧ ∃ m, LS b o a g cap lo hi w l w' m := by
  have gb := World.block_lt_of_cell? _ _ h.c0
  have gg := (h.row.lt g rfl).2
  simp only at gb
  obtain ⟨n, hn⟩ : ∃ n, hi = lo + n := ⟨hi - lo, by omega⟩
  subst hn
  have H := Lib.hid h
  have HL := Lib.hid (And.intro hh hsz)
  have HG := Lib.hid (And.intro gb gg)
  have mS := sl_swap b o
  have hb1 : lo + n ≤ 1000000 := by omega
  have q0 : IntKind.i64.wrap (((lo + n : Nat) : Int) - (lo : Int)) = (n : Int) := by simp [IntKind.wrap_i64]; omega
  obtain ⟨hb, hhb⟩ : ∃ hb, lo + n = hb := ⟨_, rfl⟩
  have HB := Lib.hid hhb
  rw [hhb] at q0 ⊢
  clear h hh hsz gb gg hlh hhb
  by_cases c8 : 8 ≤ n
  · have d8 : decide (8 ≤ n) = true := by simp [c8]
    have d8i : decide ((8 : Int) ≤ (n : Int)) = true := by simp; omega
    obtain ⟨M, hM1, hM2, hMc⟩ := npt_is n (by omega) (by omega) (w.alloc (.cells #[.int .u64 (n : Nat)] 150))
    have NP := Lib.hid hMc
    clear hMc
    have q1 : IntKind.u64.wrap (n : Int) = (n : Int) := by simp [IntKind.wrap, IntKind.bits, IntKind.signed]; omega
    obtain ⟨r, hr⟩ : ∃ r, n / 4 = r := ⟨_, rfl⟩
    have q2 : (n : Int) / 4 = (r : Int) := by omega
    have q3 : Int.tdiv (n : Int) 4 = (r : Int) := by rw [Int.tdiv_eq_ediv_of_nonneg (by omega)]; omega
    have q4 : IntKind.i64.wrap (r : Int) = (r : Int) := by simp [IntKind.wrap_i64]; omega
    have q5 : IntKind.i64.wrap ((r : Int) * 2) = ((2 * r : Nat) : Int) := by simp [IntKind.wrap_i64]; omega
    have q6 : IntKind.i64.wrap ((lo : Int) + ((2 * r : Nat) : Int)) = ((lo + 2 * r : Nat) : Int) := by simp [IntKind.wrap_i64]; omega
    have q7 : IntKind.i64.wrap (((lo + 2 * r : Nat) : Int) - 1) = ((lo + 2 * r - 1 : Nat) : Int) := by simp [IntKind.wrap_i64]; omega
    have q8 : IntKind.i64.wrap (((lo + 2 * r : Nat) : Int) + 1) = ((lo + 2 * r + 1 : Nat) : Int) := by simp [IntKind.wrap_i64]; omega
    have q9 : IntKind.u64.wrap ((M : Int) - 1) = ((M - 1 : Nat) : Int) := by simp [IntKind.wrap, IntKind.bits, IntKind.signed]; omega
    have HR := Lib.hid (show 2 ≤ r ∧ lo + 2 * r + 1 < hb from ⟨by omega, by have := HB.out; omega⟩)
    obtain ⟨r2, hr2⟩ : ∃ c, 2 * r = c := ⟨_, rfl⟩
    rw [hr2] at q5 q6 q7 q8 HR
    obtain ⟨c2, hc2⟩ : ∃ c, lo + r2 = c := ⟨_, rfl⟩
    rw [hc2] at q6 q7 q8 HR
    obtain ⟨ca, hca⟩ : ∃ c, c2 - 1 = c := ⟨_, rfl⟩
    obtain ⟨cb, hcb⟩ : ∃ c, c2 + 1 = c := ⟨_, rfl⟩
    rw [hca] at q7
    rw [hcb] at q8 HR
    have HC := Lib.hid (show lo ≤ ca ∧ ca + 2 = cb from ⟨by omega, by omega⟩)
    have X0 : Hid (RX (w.alloc (.cells #[.int .u64 (n : Nat)] 150)) w.heap.size n) := (⟨by simp [go_sem], by simp [go_sem], by omega⟩ : RX (w.alloc (.cells #[.int .u64 (n : Nat)] 150)) w.heap.size n)
    have S0 := Lib.hid ((LS.start (lo := lo) (hi := hb) H.out).later ((Grw.rfl' w).alloc (.cells #[.int .u64 (n : Nat)] 150)))
    clear hr hr2 hc2 hca hcb
    go_enter Tryz.func81, Tryz.ntmps81
    go_wp2_with fail
    refine NP.out.mono ?_
    rintro _ _ ⟨rfl, rfl⟩
    go_wp2_with fail
    go_loopw [9] (fun s9 wr => ∃ (i x : Nat) (m : List Wt), s9 = .int .i64 i ∧ ca ≤ i ∧ i ≤ cb + 1 ∧ LS b o a g cap lo hb w l wr m ∧ RX wr w.heap.size x) (fun s9 _ => cb + 1 - (intOf s9).toNat)
    case atStart => exact ⟨ca, n, l, rfl, Nat.le_refl _, by have := HC.out; omega, S0.out, X0.out⟩
    case round =>
      obtain ⟨i, x, m, rfl, hi0, hi1, hs, hx⟩ := hrel
      have S := Lib.hid hs
      have X := Lib.hid hx
      have ML := Lib.hid hs.len
      clear hs hx
      by_cases ci : i ≤ cb
      · have d1 : decide (i ≤ cb) = true := by simp [ci]
        have qi : IntKind.i64.wrap ((i : Int) + 1) = ((i + 1 : Nat) : Int) := by have := HR.out; simp [IntKind.wrap_i64]; have := HB.out; omega
        go_wp2_with fail
        refine (next_is w.heap.size x _ X.out).mono ?_
        rintro _ w1 ⟨y, rfl, hy, hf⟩
        have Y := Lib.hid hy
        have S1 := Lib.hid (S.out.off hf (fun k e => by rw [e]; exact Nat.le_refl _) HG.out.1 HG.out.2)
        obtain ⟨O, hO⟩ : ∃ O : Nat, y &&& (M - 1) = O := ⟨_, rfl⟩
        have lO : O ≤ M - 1 := by rw [← hO]; exact Nat.and_le_right
        have eA : bits .and .u64 (y : Int) ((M - 1 : Nat) : Int) = (O : Int) := by rw [bits_and_u64_nat _ _ hy.lt (by omega), hO]
        have eA2 : bits .and .u64 (y : Int) ((M : Int) - 1) = (O : Int) := by rw [show ((M : Int) - 1) = ((M - 1 : Nat) : Int) by omega]; exact eA
        have eO : IntKind.i64.wrap (O : Int) = (O : Int) := by simp [IntKind.wrap_i64]; omega
        clear hf hO hy
        by_cases cO : n ≤ O
        · have d2 : decide (n ≤ O) = true := by simp [cO]
          have q10 : IntKind.i64.wrap ((O : Int) - (n : Int)) = ((O - n : Nat) : Int) := by simp [IntKind.wrap_i64]; omega
          obtain ⟨P, hP⟩ : ∃ P, O - n = P := ⟨_, rfl⟩
          have HP := Lib.hid (show P < n by omega)
          rw [hP] at q10
          have q11 : IntKind.i64.wrap ((lo : Int) + (P : Int)) = ((lo + P : Nat) : Int) := by have := HP.out; simp [IntKind.wrap_i64]; omega
          obtain ⟨Z, hZ⟩ : ∃ Z, lo + P = Z := ⟨_, rfl⟩
          rw [hZ] at q11
          have W := Lib.hid (fun w h => swap_at b o a g cap lo hb m i Z w h (by have := ML.out; have := HL.out; have := HB.out; omega) (by have := HC.out; omega) (by have := HR.out; omega) (by omega) (by have := HP.out; have := HB.out; omega))
          clear hP hZ
          go_wp2_with fail
          refine (W.out _ S1.out.r).mono ?_
          rintro _ w2 ⟨rfl, h2⟩
          have S2 := Lib.hid (S1.out.trans h2)
          have Y2 := Lib.hid (Y.out.keep h2.f (fun e => by have := HG.out; omega))
          clear h2
          go_wp2_with fail
          exact ⟨⟨i + 1, y, _, by first | rfl | go_num, by omega, by omega, S2.out, Y2.out⟩, by simp [intOf]; omega⟩
        · have d2 : decide (n ≤ O) = false := by simp; omega
          have q11 : IntKind.i64.wrap ((lo : Int) + (O : Int)) = ((lo + O : Nat) : Int) := by simp [IntKind.wrap_i64]; omega
          obtain ⟨Z, hZ⟩ : ∃ Z, lo + O = Z := ⟨_, rfl⟩
          rw [hZ] at q11
          have W := Lib.hid (fun w h => swap_at b o a g cap lo hb m i Z w h (by have := ML.out; have := HL.out; have := HB.out; omega) (by have := HC.out; omega) (by have := HR.out; omega) (by omega) (by have := HB.out; omega))
          clear hZ
          go_wp2_with fail
          refine (W.out _ S1.out.r).mono ?_
          rintro _ w2 ⟨rfl, h2⟩
          have S2 := Lib.hid (S1.out.trans h2)
          have Y2 := Lib.hid (Y.out.keep h2.f (fun e => by have := HG.out; omega))
          clear h2
          go_wp2_with fail
          exact ⟨⟨i + 1, y, _, by first | rfl | go_num, by omega, by omega, S2.out, Y2.out⟩, by simp [intOf]; omega⟩
      · have d1 : decide (i ≤ cb) = false := by simp; omega
        go_wp2_with fail
        go_end0
        exact ⟨rfl, m, S.out⟩
  · have d8 : decide (8 ≤ n) = false := by simp; omega
    have d8i : decide ((8 : Int) ≤ (n : Int)) = false := by simp; omega
    go_enter Tryz.func81, Tryz.ntmps81
    go_wp2_with fail
    go_end0
    exact ⟨rfl, l, LS.start H.out⟩
end QQ
end Go.Proofs.YtlopijcpnfkcgaaGreat
