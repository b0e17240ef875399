/- sort.heapSort at the queue's line. -/
import Derived.Test.YtdindhmbofddoaaSa
namespace Go.Proofs.Ytdindhmbofddoaa
open Go.RowKit
set_option linter.unusedSimpArgs false

set_option maxHeartbeats 4000000 in
set_option maxRecDepth 100000 in
theorem heapsort_is (b o : Nat) (a : Int) (g cap lo hi : Nat) (l : List Wt) (w : World) (h : LR b o a g cap w l) (hlh : lo ≤ hi) (hh : hi ≤ l.length) (hsz : l.length ≤ 1000000) :
    Calls Try.prog 49 #[.iface 62 (.pointer (some ⟨b, o, none⟩)), .int .i64 lo, .int .i64 hi] w fun e w' => e = .returned (.tuple #[]) ∧ ∃ m, LS b o a g cap lo hi w l w' m ∧ Srtd a lo hi m := by
  obtain ⟨n, rfl⟩ : ∃ n, hi = lo + n := ⟨hi - lo, by omega⟩
  have H := Lib.hid h
  have HL := Lib.hid (And.intro hh hsz)
  have mS := sl_swap b o
  have hh1 : lo + n ≤ 1000000 := by omega
  have q0 : IntKind.i64.wrap (((lo + n : Nat) : Int) - (lo : Int)) = (n : Int) := by simp [IntKind.wrap_i64]; omega
  have q1 : IntKind.i64.wrap ((n : Int) - 1) = (n : Int) - 1 := by simp [IntKind.wrap_i64]; omega
  obtain ⟨z0, hz0⟩ : ∃ z0 : Int, ((n : Int) - 1).tdiv 2 = z0 := ⟨_, rfl⟩
  have hz1 : z0 + 1 = (((n - 1) / 2 + 1 : Nat) : Int) := by
    rcases Nat.eq_zero_or_pos n with c | c
    · subst c; rw [← hz0]; rfl
    · rw [← hz0, show (n : Int) - 1 = ((n - 1 : Nat) : Int) by omega, Int.tdiv_eq_ediv_of_nonneg (by omega)]; omega
  have q2 : IntKind.i64.wrap z0 = z0 := by simp [IntKind.wrap_i64]; omega
  have Z0 := Lib.hid hz1
  obtain ⟨hb, hhb⟩ : ∃ hb, lo + n = hb := ⟨_, rfl⟩
  have HB := Lib.hid hhb
  rw [hhb] at q0 hh1 ⊢
  clear h hh hsz hz1 hlh hhb
  go_enter Try.func49, Try.ntmps49
  go_wp2_with fail
  go_loopw [9] (fun s9 wr => ∃ (z : Int) (i : Nat) (m : List Wt), s9 = .int .i64 z ∧ z + 1 = (i : Int) ∧ i ≤ (n - 1) / 2 + 1 ∧ LS b o a g cap lo hb w l wr m ∧ MH a lo i n m) (fun s9 _ => (intOf s9 + 1).toNat)
  case atStart => exact ⟨z0, (n - 1) / 2 + 1, l, rfl, Z0.out, Nat.le_refl _, LS.start H.out, fun k h0 h1 h2 => by omega⟩
  case round =>
    obtain ⟨z, i, m, rfl, hzi, hi6, hs, ht⟩ := hrel
    have S := Lib.hid hs
    have T := Lib.hid ht
    have ML := Lib.hid hs.len
    clear hs ht
    by_cases ci : i = 0
    · subst ci
      obtain rfl : z = -1 := by omega
      have q3 : IntKind.i64.wrap ((n : Int) - 1) = (n : Int) - 1 := q1
      go_wp2_with fail
      go_loopw [10] (fun s10 wi => ∃ (y : Int) (j : Nat) (k : List Wt), s10 = .int .i64 y ∧ y + 1 = (j : Int) ∧ j ≤ n ∧ LS b o a g cap lo hb w l wi k ∧ Tail a lo n j k ∧ MH a lo 0 j k) (fun s10 _ => (intOf s10 + 1).toNat)
      case atStart => exact ⟨(n : Int) - 1, n, m, rfl, by omega, Nat.le_refl _, S.out, fun p q h0 h1 h2 => by omega, T.out⟩
      case round =>
        obtain ⟨y, j, k, rfl, hyj, hjn, hs, ht, hm⟩ := hrel
        have SI := Lib.hid hs
        have TI := Lib.hid (And.intro ht hm)
        have KL := Lib.hid hs.len
        clear hs ht hm
        by_cases cj : j = 0
        · subst cj
          obtain rfl : y = -1 := by omega
          go_wp2_with fail
          go_end0
          exact ⟨rfl, k, SI.out, by have := TI.out.1.done; rwa [HB.out] at this⟩
        · obtain ⟨j, rfl⟩ : ∃ j', j = j' + 1 := ⟨j - 1, by omega⟩
          obtain rfl : y = (j : Int) := by omega
          have q4 : IntKind.i64.wrap ((lo : Int) + (j : Int)) = ((lo + j : Nat) : Int) := by have hB := HB.out; simp [IntKind.wrap_i64]; omega
          have q5 : IntKind.i64.wrap ((j : Int) - 1) = (j : Int) - 1 := by have hB := HB.out; simp [IntKind.wrap_i64]; omega
          obtain ⟨lj, hlj⟩ : ∃ c, lo + j = c := ⟨_, rfl⟩
          have W := Lib.hid (fun w h => swap_at b o a g cap lo hb k lo lj w h (by have := KL.out; have := HL.out; have := HB.out; omega) (Nat.le_refl _) (by have := HB.out; omega) (by omega) (by have := HB.out; omega))
          have TS := TI.out.1.swap TI.out.2 (by omega) (by have := KL.out; have := HL.out; have := HB.out; omega)
          rw [hlj] at q4 TS
          have TT := Lib.hid TS
          have HJ := Lib.hid hlj
          clear TS hlj
          go_wp2_with fail
          refine (W.out _ SI.out.r).mono ?_
          rintro _ w2 ⟨rfl, h2⟩
          have S2 := Lib.hid (SI.out.trans h2)
          have SF := Lib.hid (sift_is b o a g cap lo 0 j (swp k lo lj) w2 h2.r (Nat.zero_le _) (by rw [swp_len]; have := KL.out; have := HL.out; have := HB.out; omega) (by rw [swp_len]; have := KL.out; have := HL.out; omega) TT.out.2)
          clear h2
          go_wp2_with fail
          refine SF.out.mono ?_
          rintro _ w3 ⟨rfl, k3, h3, hm3⟩
          have S3 := Lib.hid (S2.out.trans (h3.mono (Nat.le_refl _) (by have := HB.out; omega)))
          have T3 := Lib.hid (And.intro (TT.out.1.perm h3.p) hm3)
          clear h3 hm3
          go_wp2_with fail
          refine ⟨⟨(j : Int) - 1, j, k3, by first | rfl | go_num, by omega, by omega, S3.out, T3.out⟩, by simp [intOf] <;> omega⟩
    · obtain ⟨j, rfl⟩ : ∃ j', i = j' + 1 := ⟨i - 1, by omega⟩
      obtain rfl : z = (j : Int) := by omega
      have q5 : IntKind.i64.wrap ((j : Int) - 1) = (j : Int) - 1 := by have hB := HB.out; simp [IntKind.wrap_i64]; omega
      have cjn : j ≤ n := by omega
      have SF := Lib.hid (sift_is b o a g cap lo j n m wr S.out.r cjn (by have := ML.out; have := HL.out; have := HB.out; omega) (by have := ML.out; have := HL.out; omega) (MD.start T.out))
      go_wp2_with fail
      refine SF.out.mono ?_
      rintro _ w3 ⟨rfl, k3, h3, hm3⟩
      have S3 := Lib.hid (S.out.trans (h3.mono (Nat.le_refl _) (by have := HB.out; omega)))
      have T3 := Lib.hid hm3
      clear h3 hm3
      go_wp2_with fail
      refine ⟨⟨(j : Int) - 1, j, k3, by first | rfl | go_num, by omega, by omega, S3.out, T3.out⟩, by simp [intOf] <;> omega⟩
end Go.Proofs.Ytdindhmbofddoaa
