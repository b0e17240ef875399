/- The contracts of lex.Good, of the document's Good and Digits at this program. -/
import Derived.Test.YtiocnagbcbhggaaDoorLz
import Derived.Lib.ItoaMem
import Derived.RegionTactic
import Derived.Deep.RegionWith
import Derived.Laws.Runes
namespace Go.Proofs.YtiocnagbcbhggaaDoor
open Go.RowKit SM
set_option linter.unusedSimpArgs false

/-- a sign as it comes in. -/
structure Zs where
  k : Int
  n : Int
def up (s : Sg) : Zs := ⟨s.k, s.n⟩
/-- may it be written? -/
def gz (z : Zs) : Bool := if z.k = 1 then decide (0 ≤ z.n) && decide (z.n ≤ 2147483647) else if z.k = 2 then decide (0 ≤ z.n) && decide (z.n < 26) else decide (z.n = 0) && decide (3 ≤ z.k) && decide (z.k ≤ 18)
theorem gz_up (s : Sg) : gz (up s) = gs s := by
  unfold gz gs up maxN
  obtain ⟨k, n⟩ := s
  simp only
  by_cases h1 : k = 1
  · subst h1
    have : ((n : Int) ≤ 2147483647) ↔ n ≤ 2147483647 := by omega
    simp [this]
  · by_cases h2 : k = 2
    · subst h2
      have : ((n : Int) < 26) ↔ n < 26 := by omega
      simp [this]
    · have a1 : ¬ (k : Int) = 1 := by omega
      have a2 : ¬ (k : Int) = 2 := by omega
      rw [if_neg a1, if_neg a2]
      rw [Bool.eq_iff_iff]
      simp only [Bool.and_eq_true, Bool.or_eq_true, decide_eq_true_eq, beq_iff_eq]
      omega
theorem gz_good {z : Zs} (h : gz z = true) : ∃ s : Sg, gs s = true ∧ z = up s := by
  obtain ⟨k, n⟩ := z
  have h0 : 0 ≤ k ∧ 0 ≤ n := by
    unfold gz at h
    simp only at h
    split at h
    · simp at h; omega
    · split at h
      · simp at h; omega
      · simp at h; omega
  refine ⟨⟨k.toNat, n.toNat⟩, ?_, ?_⟩
  · rw [← gz_up]
    have : up ⟨k.toNat, n.toNat⟩ = ⟨k, n⟩ := by unfold up; simp only [Zs.mk.injEq]; omega
    rw [this]; exact h
  · unfold up; simp only [Zs.mk.injEq]; omega

set_option maxHeartbeats 2000000 in
set_option maxRecDepth 100000 in
theorem good_is (k n : Int) (b : Bool) (w : World) (t : Mks w) (h : gz ⟨k, n⟩ = b) :
    Calls Tryd.prog 15 #[.agg #[.int .i64 k, .int .i64 n]] w fun e w' => e = .returned (.bool b) ∧ Grw w w' := by
  unfold gz at h
  simp only at h
  by_cases c1 : k = 1
  · subst c1
    rw [if_pos rfl] at h
    clear t
    by_cases d0 : 0 ≤ n
    · have e0 : decide (0 ≤ n) = true := decide_eq_true d0
      by_cases d1 : n ≤ 2147483647
      · have e1 : decide (n ≤ 2147483647) = true := decide_eq_true d1
        rw [e0, e1] at h
        subst h
        go_enter Tryd.func15, Tryd.ntmps15
        go_wp2_with fail
        all_goals (go_ret; first | exact ⟨rfl, (Grw.rfl' _).alloc _⟩ | exact ⟨rfl, ((Grw.rfl' _).alloc _).drewN _⟩)
      · have e1 : decide (n ≤ 2147483647) = false := decide_eq_false d1
        rw [e0, e1] at h
        subst h
        go_enter Tryd.func15, Tryd.ntmps15
        go_wp2_with fail
        all_goals (go_ret; first | exact ⟨rfl, (Grw.rfl' _).alloc _⟩ | exact ⟨rfl, ((Grw.rfl' _).alloc _).drewN _⟩)
    · have e0 : decide (0 ≤ n) = false := decide_eq_false d0
      rw [e0] at h
      simp only [Bool.false_and] at h
      subst h
      go_enter Tryd.func15, Tryd.ntmps15
      go_wp2_with fail
      all_goals (go_ret; first | exact ⟨rfl, (Grw.rfl' _).alloc _⟩ | exact ⟨rfl, ((Grw.rfl' _).alloc _).drewN _⟩)
  · rw [if_neg c1] at h
    have b1 : (k == 1) = false := by simpa using c1
    by_cases c2 : k = 2
    · subst c2
      rw [if_pos rfl] at h
      clear t c1 b1
      by_cases d0 : 0 ≤ n
      · have e0 : decide (0 ≤ n) = true := decide_eq_true d0
        by_cases d1 : n < 26
        · have e1 : decide (n < 26) = true := decide_eq_true d1
          rw [e0, e1] at h
          subst h
          go_enter Tryd.func15, Tryd.ntmps15
          go_wp2_with fail
          all_goals (go_ret; first | exact ⟨rfl, (Grw.rfl' _).alloc _⟩ | exact ⟨rfl, ((Grw.rfl' _).alloc _).drewN _⟩)
        · have e1 : decide (n < 26) = false := decide_eq_false d1
          rw [e0, e1] at h
          subst h
          go_enter Tryd.func15, Tryd.ntmps15
          go_wp2_with fail
          all_goals (go_ret; first | exact ⟨rfl, (Grw.rfl' _).alloc _⟩ | exact ⟨rfl, ((Grw.rfl' _).alloc _).drewN _⟩)
      · have e0 : decide (0 ≤ n) = false := decide_eq_false d0
        rw [e0] at h
        simp only [Bool.false_and] at h
        subst h
        go_enter Tryd.func15, Tryd.ntmps15
        go_wp2_with fail
        all_goals (go_ret; first | exact ⟨rfl, (Grw.rfl' _).alloc _⟩ | exact ⟨rfl, ((Grw.rfl' _).alloc _).drewN _⟩)
    · rw [if_neg c2] at h
      have b2 : (k == 2) = false := by simpa using c2
      by_cases d0 : n = 0
      · subst d0
        have I : ∀ w, Mks w → Calls Tryd.prog 22 #[.int .i64 k] w fun e w' => e = .returned (.bool b) ∧ Grw w w' := by
          intro w t
          by_cases c3 : 3 ≤ k ∧ k ≤ 18
          · rw [decide_eq_true c3.1, decide_eq_true c3.2] at h
            obtain ⟨m, rfl⟩ := Int.eq_ofNat_of_zero_le (show 0 ≤ k by omega)
            subst h
            exact isMark_in m w t (by omega)
          · have : b = false := by
              rw [← h, Bool.eq_false_iff]
              intro e
              simp only [Bool.and_eq_true, decide_eq_true_eq] at e
              exact c3 ⟨e.1.2, e.2⟩
            subst this
            exact isMark_out k w t c3
        have I := Lib.hid I
        have HT := Lib.hid t
        clear t h c1 c2
        go_enter Tryd.func15, Tryd.ntmps15
        go_wp2_with fail
        refine (I.out _ (mks_grw (by first | exact (Grw.rfl' _).alloc _ | exact ((Grw.rfl' _).alloc _).drew | exact ((Grw.rfl' _).alloc _).drewN _) HT.out)).mono ?_
        rintro _ w2 ⟨rfl, hw2⟩
        go_wp2_with fail
        go_ret
        exact ⟨rfl, Grw.two hw2⟩
      · have e0 : (n == 0) = false := by simpa using d0
        rw [decide_eq_false d0] at h
        simp only [Bool.false_and] at h
        subst h
        clear t c1 c2
        go_enter Tryd.func15, Tryd.ntmps15
        go_wp2_with fail
        all_goals (go_ret; first | exact ⟨rfl, (Grw.rfl' _).alloc _⟩ | exact ⟨rfl, ((Grw.rfl' _).alloc _).drewN _⟩)

set_option maxHeartbeats 2000000 in
set_option maxRecDepth 100000 in
theorem rgood_is (k n : Int) (b : Bool) (w : World) (h : gz ⟨k, n⟩ = b) :
    Calls Tryd.prog 16 #[.agg #[.int .i64 k, .int .i64 n]] w fun e w' => e = .returned (.bool b) ∧ Grw w w' := by
  unfold gz at h
  simp only at h
  by_cases c1 : k = 1
  · subst c1
    rw [if_pos rfl] at h
    rcases d0 : decide (0 ≤ n) with _ | _ <;> rcases d1 : decide (n ≤ 2147483647) with _ | _ <;> rw [d0, d1] at h <;> subst h
    all_goals
      go_enter Tryd.func16, Tryd.ntmps16
      go_wp2_with fail
      all_goals (go_ret; first | exact ⟨rfl, (Grw.rfl' _).alloc _⟩ | exact ⟨rfl, ((Grw.rfl' _).alloc _).drewN _⟩)
  · rw [if_neg c1] at h
    have b1 : (k == 1) = false := by simpa using c1
    by_cases c2 : k = 2
    · subst c2
      rw [if_pos rfl] at h
      rcases d0 : decide (0 ≤ n) with _ | _ <;> rcases d1 : decide (n < 26) with _ | _ <;> rw [d0, d1] at h <;> subst h
      all_goals
        go_enter Tryd.func16, Tryd.ntmps16
        go_wp2_with fail
        all_goals (go_ret; first | exact ⟨rfl, (Grw.rfl' _).alloc _⟩ | exact ⟨rfl, ((Grw.rfl' _).alloc _).drewN _⟩)
    · rw [if_neg c2] at h
      have b2 : (k == 2) = false := by simpa using c2
      rcases d0 : decide (3 ≤ k) with _ | _
      · rw [d0] at h
        simp only [Bool.and_false, Bool.false_and] at h
        subst h
        clear c1 c2
        go_enter Tryd.func16, Tryd.ntmps16
        go_wp2_with fail
        all_goals (go_ret; first | exact ⟨rfl, (Grw.rfl' _).alloc _⟩ | exact ⟨rfl, ((Grw.rfl' _).alloc _).drewN _⟩)
      · rcases d1 : decide (k ≤ 18) with _ | _
        · rw [d0, d1] at h
          simp only [Bool.and_false, Bool.false_and] at h
          subst h
          clear c1 c2
          go_enter Tryd.func16, Tryd.ntmps16
          go_wp2_with fail
          all_goals (go_ret; first | exact ⟨rfl, (Grw.rfl' _).alloc _⟩ | exact ⟨rfl, ((Grw.rfl' _).alloc _).drewN _⟩)
        · rcases d2 : decide (n = 0) with _ | _
          · have d3 : (n == 0) = false := by simpa using d2
            rw [d0, d1, d2] at h
            simp only [Bool.and_false, Bool.false_and] at h
            subst h
            clear c1 c2
            go_enter Tryd.func16, Tryd.ntmps16
            go_wp2_with fail
            all_goals (go_ret; first | exact ⟨rfl, (Grw.rfl' _).alloc _⟩ | exact ⟨rfl, ((Grw.rfl' _).alloc _).drewN _⟩)
          · have d3 : n = 0 := of_decide_eq_true d2
            subst d3
            rw [d0, d1] at h
            simp only [decide_true, Bool.and_self] at h
            subst h
            clear c1 c2
            go_enter Tryd.func16, Tryd.ntmps16
            go_wp2_with fail
            all_goals (go_ret; first | exact ⟨rfl, (Grw.rfl' _).alloc _⟩ | exact ⟨rfl, ((Grw.rfl' _).alloc _).drewN _⟩)

/-! ### the document's Digits -/
theorem dec_len (u : Nat) (hu : u < 18446744073709551616) : (Lib.decDigits u).length ≤ 20 := by
  rw [Lib.decDigits_length]
  by_cases h : u = 0
  · subst h; rw [Lib.nDigits_small (by omega)]; omega
  · have := Lib.numDigits_eq u (by omega) hu; split at this <;> omega
theorem conv_one (w : World) (blk : Nat) (c : UInt8) (h : w.cell? ⟨blk, 0, none⟩ = some (.int .u8 (c.toNat : Int))) : (convert 45 9 (.slice (some ⟨blk, 0, none⟩) 1 1)).run Tryd.prog w = .ok (.string ⟨#[c]⟩) w := by
  have g := run_convert_bytes_back (P := Tryd.prog) w 45 9 5 ⟨blk, 0, none⟩ 1 [c] Tryd.underlying45 Tryd.underlying5 Tryd.underlying9 (fun j hj => by
    have : j = 0 := by simpa using hj
    subst this
    exact h)
  exact g

set_option maxHeartbeats 1000000 in
set_option maxRecDepth 100000 in
theorem digits_lt (x : Nat) (w : World) (h : x < 10) :
    Calls Tryd.prog 18 #[.int .u64 x] w fun e w' => e = .returned (.string ⟨(Lib.decDigits x).toArray⟩) ∧ Grw w w' := by
  rw [Lib.decDigits_one h]
  have hc : ((UInt8.ofNat (48 + x)).toNat : Int) = 48 + x := by
    have : (UInt8.ofNat (48 + x)).toNat = 48 + x := by simp; omega
    omega
  generalize UInt8.ofNat (48 + x) = c at *
  have cv := conv_one (w.alloc (.cells #[.int .u8 (48 + (x : Int))] 5)) w.heap.size c (by rw [hc]; simp [go_sem])
  go_enter Tryd.func18, Tryd.ntmps18
  go_wp2_with fail
  go_ret
  exact ⟨rfl, (Grw.rfl' _).alloc _⟩

theorem bcell {W w1 : World} (hb : Grw W w1) : ∀ b o, b < W.heap.size → w1.cell? ⟨b, o, none⟩ = W.cell? ⟨b, o, none⟩ := fun b o h => Below.cell hb (p := ⟨b, o, none⟩) h

set_option maxHeartbeats 1000000 in
set_option maxRecDepth 100000 in
theorem digits_step (x : Nat) (r : ByteArray) (c : UInt8) (w : World) (h : 10 ≤ x) (hx : x < 18446744073709551616) (hr : (r.size : Int) ≤ 8388608) (hc : (c.toNat : Int) = 48 + (x : Int) % 10)
    (IH : ∀ w, Calls Tryd.prog 18 #[.int .u64 ((x / 10 : Nat) : Int)] w fun e w' => e = .returned (.string r) ∧ Grw w w') :
    Calls Tryd.prog 18 #[.int .u64 x] w fun e w' => e = .returned (.string (r ++ ⟨#[c]⟩)) ∧ Grw w w' := by
  have h10 : ¬ (x : Int) < 10 := by omega
  have q1 : (((⟨#[c]⟩ : ByteArray).size : Nat) : Int) ≤ 8388608 := by rw [size_len]; simp
  obtain ⟨m, hm⟩ : ∃ m : Int, (x : Int) % 10 = m := ⟨_, rfl⟩
  have m0 : 0 ≤ m := by omega
  have m1 : m < 10 := by omega
  have e0 : ((x / 10 : Nat) : Int) = (x : Int) / 10 := by omega
  rw [hm] at hc
  rw [e0] at IH
  have I := Lib.hid IH
  have cv := fun (w : World) (blk : Nat) (hh : w.cell? ⟨blk, 0, none⟩ = some (.int .u8 (48 + m))) => conv_one w blk c (by rw [hc]; exact hh)
  have f1 : IntKind.u64.wrap ((x : Int) / 10) = (x : Int) / 10 := by rw [IntKind.wrap_u64]; omega
  have f2 : (x : Int).tmod 10 = m := by rw [Int.tmod_eq_emod_of_nonneg (by omega)]; exact hm
  have f3 : IntKind.u64.wrap (48 + m) = 48 + m := by rw [IntKind.wrap_u64]; omega
  have f4 : IntKind.u8.wrap (48 + m) = 48 + m := by rw [IntKind.wrap_u8]; omega
  clear IH hc hm e0
  generalize (⟨#[c]⟩ : ByteArray) = q at *
  go_enter Tryd.func18, Tryd.ntmps18
  go_wp2_with fail
  go_region_with (go_at_call 18; (with_reducible refine (I.out _).mono ?_); rintro _ w1 ⟨rfl, hw1⟩; have hcc := bcell hw1)
  all_goals
    go_wp2_with fail
    go_ret
    first
    | exact ⟨rfl, (((Grw.rfl' _).drew).trans hw1).alloc _⟩
    | exact ⟨rfl, (((Grw.rfl' _).alloc _).drew).trans hw1⟩

theorem digits_any : ∀ (x : Nat) (w : World), x < 18446744073709551616 →
    Calls Tryd.prog 18 #[.int .u64 x] w fun e w' => e = .returned (.string ⟨(Lib.decDigits x).toArray⟩) ∧ Grw w w' := by
  intro x
  induction x using Nat.strongRecOn with
  | _ x ih =>
    intro w hx
    by_cases h : x < 10
    · exact digits_lt x w h
    · have g := digits_step x ⟨(Lib.decDigits (x / 10)).toArray⟩ (UInt8.ofNat (48 + x % 10)) w (by omega) hx ?_ ?_ (fun w => ih (x / 10) (by omega) w (by omega))
      · have e : (⟨(Lib.decDigits x).toArray⟩ : ByteArray) = ⟨(Lib.decDigits (x / 10)).toArray⟩ ++ ⟨#[UInt8.ofNat (48 + x % 10)]⟩ := by
          rw [Lib.decDigits, dif_neg h]
          exact (ByteArray.mk_append_mk _ [UInt8.ofNat (48 + x % 10)]).symm
        rw [e]; exact g
      · have := dec_len (x / 10) (by omega)
        rw [size_len]; simp; omega
      · have : (UInt8.ofNat (48 + x % 10)).toNat = 48 + x % 10 := by simp; omega
        omega

theorem digits_ba (x : Nat) (b : ByteArray) (w : World) (hx : x < 18446744073709551616) (hb : b.data.toList = Lib.decDigits x) :
    Calls Tryd.prog 18 #[.int .u64 x] w fun e w' => e = .returned (.string b) ∧ Grw w w' := by
  have e : (⟨(Lib.decDigits x).toArray⟩ : ByteArray) = b := ba_ext (by rw [hb])
  have := digits_any x w hx
  rw [e] at this; exact this
end Go.Proofs.YtiocnagbcbhggaaDoor
