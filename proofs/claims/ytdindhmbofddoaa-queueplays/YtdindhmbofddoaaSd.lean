/- sort.choosePivot at the queue's line. -/
import Derived.Test.YtdindhmbofddoaaSc
namespace Go.Proofs.Ytdindhmbofddoaa
open Go.RowKit
set_option linter.unusedSimpArgs false

set_option maxHeartbeats 2000000 in
set_option maxRecDepth 100000 in
theorem pivot_is (b o : Nat) (a : Int) (g cap lo hi : Nat) (l : List Wt) (w : World) (h : LR b o a g cap w l) (hlh : lo < hi) (hh : hi ≤ l.length) (hsz : l.length ≤ 1000000) :
    Calls Try.prog 51 #[.iface 62 (.pointer (some ⟨b, o, none⟩)), .int .i64 lo, .int .i64 hi] w fun e w' => ∃ p t : Nat, e = .returned (.tuple #[.int .i64 p, .int .i64 t]) ∧ (lo ≤ p ∧ p < hi) ∧ t ≤ 2 ∧ Grw w w' := by
  have gb := World.block_lt_of_cell? _ _ h.c0
  have gg := (h.row.lt g rfl).2
  simp only at gb
  have g0 : ∀ u, Grw w (w.alloc u) := fun u => (Grw.rfl' w).alloc u
  have H := Lib.hid (h.keep ((g0 (.cells #[.int .i64 0] 3)).frm (fun _ => False)) (fun e => e) (fun e => e))
  have S : Hid (SC (w.alloc (.cells #[.int .i64 0] 3)) w.heap.size 0) := (⟨by simp [go_sem], by simp [go_sem]⟩ : SC (w.alloc (.cells #[.int .i64 0] 3)) w.heap.size 0)
  have F0 := Lib.hid ((g0 (.cells #[.int .i64 0] 3)).frm (fun k => k = w.heap.size))
  have NB := Lib.hid (show w.heap.size ≠ b ∧ w.heap.size ≠ g from ⟨by omega, by omega⟩)
  obtain ⟨n, hn⟩ : ∃ n, hi = lo + n := ⟨hi - lo, by omega⟩
  subst hn
  have HL := Lib.hid (And.intro hh hsz)
  have hb1 : lo + n ≤ 1000000 := by omega
  have hn1 : 1 ≤ n := by omega
  have q0 : IntKind.i64.wrap (((lo + n : Nat) : Int) - (lo : Int)) = (n : Int) := by simp [IntKind.wrap_i64]; omega
  obtain ⟨r, hr⟩ : ∃ r, n / 4 = r := ⟨_, rfl⟩
  have q1 : (n : Int) / 4 = (r : Int) := by omega
  have q2 : Int.tdiv (n : Int) 4 = (r : Int) := by rw [Int.tdiv_eq_ediv_of_nonneg (by omega)]; omega
  have q3 : IntKind.i64.wrap (r : Int) = (r : Int) := by simp [IntKind.wrap_i64]; omega
  have q4 : IntKind.i64.wrap ((r : Int) * 2) = ((2 * r : Nat) : Int) := by simp [IntKind.wrap_i64]; omega
  have q5 : IntKind.i64.wrap ((r : Int) * 3) = ((3 * r : Nat) : Int) := by simp [IntKind.wrap_i64]; omega
  have q6 : IntKind.i64.wrap ((lo : Int) + (r : Int)) = ((lo + r : Nat) : Int) := by simp [IntKind.wrap_i64]; omega
  have q7 : IntKind.i64.wrap ((lo : Int) + ((2 * r : Nat) : Int)) = ((lo + 2 * r : Nat) : Int) := by simp [IntKind.wrap_i64]; omega
  have q8 : IntKind.i64.wrap ((lo : Int) + ((3 * r : Nat) : Int)) = ((lo + 3 * r : Nat) : Int) := by simp [IntKind.wrap_i64]; omega
  obtain ⟨r2, hr2⟩ : ∃ c, 2 * r = c := ⟨_, rfl⟩
  obtain ⟨r3, hr3⟩ : ∃ c, 3 * r = c := ⟨_, rfl⟩
  rw [hr2] at q4 q7
  rw [hr3] at q5 q8
  obtain ⟨i, hi⟩ : ∃ c, lo + r = c := ⟨_, rfl⟩
  obtain ⟨j, hj⟩ : ∃ c, lo + r2 = c := ⟨_, rfl⟩
  obtain ⟨k, hk⟩ : ∃ c, lo + r3 = c := ⟨_, rfl⟩
  rw [hi] at q6
  rw [hj] at q7
  rw [hk] at q8
  have N := Lib.hid (show i = lo + n / 4 ∧ j = lo + 2 * (n / 4) ∧ k = lo + 3 * (n / 4) from ⟨by omega, by omega, by omega⟩)
  obtain ⟨hb, hhb⟩ : ∃ hb, lo + n = hb := ⟨_, rfl⟩
  have HB := Lib.hid hhb
  rw [hhb] at q0 ⊢
  clear h hh hsz gb gg g0 hr hr2 hr3 hi hj hk hlh hhb
  by_cases c8 : 8 ≤ n
  · have d8 : decide (8 ≤ n) = true := by simp [c8]
    have d8i : decide ((8 : Int) ≤ (n : Int)) = true := by simp; omega
    by_cases c50 : 50 ≤ n
    · have d50 : decide (50 ≤ n) = true := by simp [c50]
      have d50i : decide ((50 : Int) ≤ (n : Int)) = true := by simp; omega
      go_enter Try.func51, Try.ntmps51
      go_wp2_with fail
      refine (adjacent_is b o a g cap i w.heap.size 0 l _ H.out (by have := N.out; omega) (by have := N.out; have := HL.out; omega) HL.out.2 S.out (by omega) NB.out.1 NB.out.2).mono ?_
      rintro _ w1 ⟨x1, rfl, hx, hq⟩
      have R1 := Lib.hid hq.r
      have F1 := Lib.hid ((F0.out).trans hq.f (fun _ e => Or.inl e))
      obtain ⟨s1, hs1, cs⟩ := hq.s
      have C1 := Lib.hid cs
      have X1 := Lib.hid hx
      clear hq cs hx
      go_wp2_with fail
      refine (adjacent_is b o a g cap j w.heap.size s1 l w1 R1.out (by have := N.out; omega) (by have := N.out; have := HL.out; omega) HL.out.2 C1.out (by omega) NB.out.1 NB.out.2).mono ?_
      rintro _ w2 ⟨x2, rfl, hx, hq⟩
      have R2 := Lib.hid hq.r
      have F2 := Lib.hid ((F1.out).trans hq.f (fun _ e => Or.inl e))
      obtain ⟨s2, hs2, cs⟩ := hq.s
      have C2 := Lib.hid cs
      have X2 := Lib.hid hx
      clear hq cs hx
      go_wp2_with fail
      refine (adjacent_is b o a g cap k w.heap.size s2 l w2 R2.out (by have := N.out; omega) (by have := N.out; have := HL.out; omega) HL.out.2 C2.out (by omega) NB.out.1 NB.out.2).mono ?_
      rintro _ w3 ⟨x3, rfl, hx, hq⟩
      have R3 := Lib.hid hq.r
      have F3 := Lib.hid ((F2.out).trans hq.f (fun _ e => Or.inl e))
      obtain ⟨s3, hs3, cs⟩ := hq.s
      have C3 := Lib.hid cs
      have X3 := Lib.hid hx
      clear hq cs hx
      go_wp2_with fail
      refine (median_is b o a g cap x1 x2 x3 w.heap.size s3 l w3 R3.out (by have := N.out; have := HL.out; have := X1.out; omega) (by have := N.out; have := HL.out; have := X2.out; omega) (by have := N.out; have := HL.out; have := X3.out; omega) C3.out (by omega) NB.out.1 NB.out.2).mono ?_
      rintro _ w4 ⟨x4, rfl, hx, hq⟩
      have F4 := Lib.hid ((F3.out).trans hq.f (fun _ e => Or.inl e))
      obtain ⟨sv, hsv, cs⟩ := hq.s
      have CS := Lib.hid cs
      have X4 := Lib.hid hx
      clear hq cs hx
      have G := Lib.hid (Frm.grw (Grw.rfl' w) (F4.out) (fun k e => by subst e; exact Nat.le_refl _))
      have cS := CS.out.c
      by_cases c0 : sv = 0
      · have d5 : ((sv : Int) == 0) = true := by simp; omega
        go_wp2_with fail
        exact bodyPost_ret (v := .tuple #[.int .i64 x4, .int .i64 1]) (by simp [results, Try.results51, go_sem]) rfl ⟨x4, 1, rfl, by have := X4.out; have := X1.out; have := X2.out; have := X3.out; have := N.out; have := HB.out; omega, by omega, G.out⟩
      · have d5 : ((sv : Int) == 0) = false := by simp; omega
        by_cases c12 : sv = 12
        · have d6 : ((sv : Int) == 12) = true := by simp; omega
          go_wp2_with fail
          exact bodyPost_ret (v := .tuple #[.int .i64 x4, .int .i64 2]) (by simp [results, Try.results51, go_sem]) rfl ⟨x4, 2, rfl, by have := X4.out; have := X1.out; have := X2.out; have := X3.out; have := N.out; have := HB.out; omega, by omega, G.out⟩
        · have d6 : ((sv : Int) == 12) = false := by simp; omega
          go_wp2_with fail
          exact bodyPost_ret (v := .tuple #[.int .i64 x4, .int .i64 0]) (by simp [results, Try.results51, go_sem]) rfl ⟨x4, 0, rfl, by have := X4.out; have := X1.out; have := X2.out; have := X3.out; have := N.out; have := HB.out; omega, by omega, G.out⟩
    · have d50 : decide (50 ≤ n) = false := by simp; omega
      have d50i : decide ((50 : Int) ≤ (n : Int)) = false := by simp; omega
      go_enter Try.func51, Try.ntmps51
      go_wp2_with fail
      refine (median_is b o a g cap i j k w.heap.size 0 l _ H.out (by have := N.out; have := HL.out; omega) (by have := N.out; have := HL.out; omega) (by have := N.out; have := HL.out; omega) S.out (by omega) NB.out.1 NB.out.2).mono ?_
      rintro _ w4 ⟨x4, rfl, hx, hq⟩
      have F4 := Lib.hid ((F0.out).trans hq.f (fun _ e => Or.inl e))
      obtain ⟨sv, hsv, cs⟩ := hq.s
      have CS := Lib.hid cs
      have X4 := Lib.hid hx
      clear hq cs hx
      have G := Lib.hid (Frm.grw (Grw.rfl' w) (F4.out) (fun k e => by subst e; exact Nat.le_refl _))
      have cS := CS.out.c
      by_cases c0 : sv = 0
      · have d5 : ((sv : Int) == 0) = true := by simp; omega
        go_wp2_with fail
        exact bodyPost_ret (v := .tuple #[.int .i64 x4, .int .i64 1]) (by simp [results, Try.results51, go_sem]) rfl ⟨x4, 1, rfl, by have := X4.out; have := N.out; have := HB.out; omega, by omega, G.out⟩
      · have d5 : ((sv : Int) == 0) = false := by simp; omega
        by_cases c12 : sv = 12
        · have d6 : ((sv : Int) == 12) = true := by simp; omega
          go_wp2_with fail
          exact bodyPost_ret (v := .tuple #[.int .i64 x4, .int .i64 2]) (by simp [results, Try.results51, go_sem]) rfl ⟨x4, 2, rfl, by have := X4.out; have := N.out; have := HB.out; omega, by omega, G.out⟩
        · have d6 : ((sv : Int) == 12) = false := by simp; omega
          go_wp2_with fail
          exact bodyPost_ret (v := .tuple #[.int .i64 x4, .int .i64 0]) (by simp [results, Try.results51, go_sem]) rfl ⟨x4, 0, rfl, by have := X4.out; have := N.out; have := HB.out; omega, by omega, G.out⟩
  · have d8 : decide (8 ≤ n) = false := by simp; omega
    have d8i : decide ((8 : Int) ≤ (n : Int)) = false := by simp; omega
    have G := Lib.hid (Frm.grw (Grw.rfl' w) F0.out (fun k e => by subst e; exact Nat.le_refl _))
    go_enter Try.func51, Try.ntmps51
    go_wp2_with fail
    exact bodyPost_ret (v := .tuple #[.int .i64 j, .int .i64 1]) (by simp [results, Try.results51, go_sem]) rfl ⟨j, 1, rfl, by have := N.out; have := HB.out; omega, by omega, G.out⟩
end Go.Proofs.Ytdindhmbofddoaa
