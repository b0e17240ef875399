/- The contracts of the document's Next and Round and of the laws' own wakes at this program. -/
import Derived.Test.YtlihcljjpalapaaDoorWf
namespace Go.Proofs.YtlihcljjpalapaaDoor
open Go.RowKit MK
set_option linter.unusedSimpArgs false

/-- two cells that lie, and their block is there. -/
structure Kp (x : World) (b : Nat) (c0 c1 : Value) : Prop where
  t : Two x b c0 c1
  lt : b < x.heap.size
theorem Kp.new (w : World) (c0 c1 : Value) (T : TypeId) : Kp (w.alloc (.cells #[c0, c1] T)) w.heap.size c0 c1 := ⟨Two.new w c0 c1 T, by simp only [size_new]; omega⟩
theorem Kp.later {w x : World} {b : Nat} {c0 c1 : Value} (k : Kp w b c0 c1) (h : Grw w x) : Kp x b c0 c1 := ⟨k.t.later h k.lt, Nat.lt_of_lt_of_le k.lt (Below.size h)⟩
theorem Kp.grown {w x : World} {c0 c1 : Value} {T : TypeId} (h : Grw (w.alloc (.cells #[c0, c1] T)) x) : Kp x w.heap.size c0 c1 := (Kp.new w c0 c1 T).later h
theorem find_at {n : Nat} {f : Nat → Int} {p : Int → Bool} {k : Nat} (hk : k < n) (h : p (f k) = true) (hno : ∀ j, j < k → p (f j) = false) : (fl n f).find? p = some (f k) := by
  rw [List.find?_eq_some_iff_getElem]
  refine ⟨h, k, by rw [fl_len]; exact hk, fl_get _ _ _ _, fun j hj => ?_⟩
  rw [fl_get, hno j hj]; rfl
theorem find_no {n : Nat} {f : Nat → Int} {p : Int → Bool} (hno : ∀ j, j < n → p (f j) = false) : (fl n f).find? p = none := by
  rw [List.find?_eq_none]
  intro z hz
  unfold fl at hz
  rw [List.mem_map] at hz
  obtain ⟨j, hj, rfl⟩ := hz
  rw [hno j (List.mem_range.1 hj)]; decide

set_option maxHeartbeats 1000000 in
set_option maxRecDepth 100000 in
theorem rnext_any (m : Nat) (i : Int) (w : World) :
    Calls Tryd.prog 42 #[.int .u64 m, .int .i64 i] w fun e w' => e = .returned (.agg #[.int .i64 (ov (nxt m i)), .bool (nxt m i).isSome]) ∧ Grw w w' := by
  have A := Lib.hid (fun w => rlist_any m w)
  have hv : nxt m i = (els m).find? (fun k => decide (i ≤ k)) := rfl
  obtain ⟨o, ho⟩ : ∃ o, nxt m i = o := ⟨_, rfl⟩
  rw [ho] at hv ⊢
  clear ho
  go_enter Tryd.func42, Tryd.ntmps42
  go_wp2_with fail
  refine (A.out _).mono ?_
  rintro _ w1 ⟨v, rfl, hown, hg1⟩
  have hl := els_len m
  obtain ⟨ao, cap, rfl, hrow⟩ := hown.row
  obtain ⟨n, hn⟩ : ∃ n, (els m).length = n := ⟨_, rfl⟩
  obtain ⟨f, hf⟩ : ∃ f : Nat → Int, (fun j => (els m).getD j 0) = f := ⟨_, rfl⟩
  have hfl : fl n f = els m := by rw [← hn, ← hf]; exact fl_of _
  rw [hf, hn] at hrow
  rw [← hfl] at hv
  rw [hn] at hl
  rw [hn]
  have T := Two.grown hg1
  have c0 := T.c0
  have c1 := T.c1
  have f0 := T.f0
  have f1 := T.f1
  have R := Lib.hid hrow
  have G := Lib.hid hg1.two
  have V := Lib.hid hv
  clear hrow hg1 hv hfl hf hown hn T
  go_wp2_with fail
  go_loopw [10] (fun c wr => ∃ k : Nat, k ≤ n ∧ c = .int .i64 k ∧ w1 = wr ∧ ∀ j, j < k → decide (i ≤ f j) = false) (fun c _ => n - (intOf c).toNat)
  case atStart => exact ⟨0, Nat.zero_le _, rfl, rfl, fun j hj => by omega⟩
  case round =>
    obtain ⟨k, hk, rfl, rfl, hno⟩ := hrel
    have NO := Lib.hid hno
    clear hno
    by_cases hk' : k < n
    · have hki : (k : Int) < (n : Int) := by omega
      obtain ⟨b, off, rfl, hc⟩ := R.out.at (by omega : 0 < n)
      have hcx := hc k hk'
      obtain ⟨z, hz⟩ : ∃ z, f k = z := ⟨_, rfl⟩
      rw [hz] at hcx
      have HZ := Lib.hid hz
      clear hc hz
      by_cases hzi : i ≤ z
      · have E : o = some z := by
          rw [V.out, find_at hk' (by rw [HZ.out]; simp [hzi]) NO.out, HZ.out]
        subst E
        go_wp2_with fail
        exact bodyPost_ret (v := .agg #[.int .i64 z, .bool true]) (by simp [results, Tryd.results42, go_sem, c0, c1]) rfl ⟨rfl, G.out.set2 (Nat.le_refl _) _ _⟩
      · go_wp2_with fail
        go_roundw
        case rel => exact ⟨k + 1, by omega, by go_num, trivial, fun j hj => by
          rcases (by omega : j < k ∨ j = k) with h | h
          · exact NO.out j h
          · subst h; rw [HZ.out]; exact decide_eq_false hzi⟩
        case measure => simp [intOf]; omega
    · have hki : ¬ (k : Int) < (n : Int) := by omega
      have hke : k = n := by omega
      subst hke
      have E : o = none := by rw [V.out, find_no NO.out]
      subst E
      go_wp2_with fail
      exact bodyPost_ret (v := .agg #[.int .i64 0, .bool false]) (by simp [results, Tryd.results42, go_sem, c0, c1]) rfl ⟨rfl, G.out.set2 (Nat.le_refl _) _ _⟩

theorem rround_out (m : Nat) (f : Int) (w : World) (h : ¬ (0 ≤ f ∧ f < 64)) :
    Calls Tryd.prog 32 #[.int .u64 m, .int .i64 f] w fun e w' => e = .returned (.agg #[.int .i64 0, .bool false]) ∧ Grw w w' := by
  by_cases h0 : 0 ≤ f
  · have h1 : ¬ f < 64 := fun g => h ⟨h0, g⟩
    clear h
    go_enter Tryd.func32, Tryd.ntmps32
    go_wp2_with fail
    exact bodyPost_ret (v := .agg #[.int .i64 0, .bool false]) (by simp [results, Tryd.results32, go_sem]) rfl ⟨rfl, by first | exact (Grw.rfl' _).alloc _ | exact ((Grw.rfl' _).alloc _).set2 (Nat.le_refl _) _ _⟩
  · clear h
    go_enter Tryd.func32, Tryd.ntmps32
    go_wp2_with fail
    exact bodyPost_ret (v := .agg #[.int .i64 0, .bool false]) (by simp [results, Tryd.results32, go_sem]) rfl ⟨rfl, by first | exact (Grw.rfl' _).alloc _ | exact ((Grw.rfl' _).alloc _).set2 (Nat.le_refl _) _ _⟩
set_option maxHeartbeats 1000000 in
set_option maxRecDepth 100000 in
theorem rround_first (m f : Nat) (v : Int) (w : World) (h : f < 64) (B : Hid (∀ w, Calls Tryd.prog 42 #[.int .u64 m, .int .i64 f] w fun e w' => e = .returned (.agg #[.int .i64 v, .bool true]) ∧ Grw w w')) :
    Calls Tryd.prog 32 #[.int .u64 m, .int .i64 f] w fun e w' => e = .returned (.agg #[.int .i64 v, .bool true]) ∧ Grw w w' := by
  have h6 : ¬ (64 : Int) ≤ (f : Int) := by omega
  go_enter Tryd.func32, Tryd.ntmps32
  go_wp2_with fail
  refine (B.out _).mono ?_
  rintro _ w1 ⟨rfl, hw1⟩
  have T := Two.grown hw1
  have c0 := T.c0
  have c1 := T.c1
  have f0 := T.f0
  have f1 := T.f1
  have hlt : w.heap.size < w1.heap.size := by have := Below.size hw1; rw [size_new] at this; omega
  have G := Lib.hid hw1.two
  clear T hw1
  go_wp2_with fail
  have e0 : ((w1.setCell ⟨w.heap.size, 0, none⟩ (.int .i64 v)).setCell ⟨w.heap.size, 1, none⟩ (.bool true)).cell? ⟨w.heap.size, 0, none⟩ = some (.int .i64 v) := by simp [go_sem, c0]
  have e1 : ((w1.setCell ⟨w.heap.size, 0, none⟩ (.int .i64 v)).setCell ⟨w.heap.size, 1, none⟩ (.bool true)).cell? ⟨w.heap.size, 1, none⟩ = some (.bool true) := by simp [go_sem, c1]
  have d0 := ((Grw.rfl' _).alloc (.cells #[.int .i64 v, .bool true] 39)).cell e0
  have d1 := ((Grw.rfl' _).alloc (.cells #[.int .i64 v, .bool true] 39)).cell e1
  exact bodyPost_ret (v := .agg #[.int .i64 v, .bool true]) (by simp [results, Tryd.results32, go_sem, d0, d1]) rfl ⟨rfl, (G.out.set2 (Nat.le_refl _) _ _).alloc _⟩
set_option maxHeartbeats 1000000 in
set_option maxRecDepth 100000 in
theorem rround_again (m f : Nat) (v : Int) (b : Bool) (w : World) (h : f < 64) (B : Hid (∀ w, Calls Tryd.prog 42 #[.int .u64 m, .int .i64 f] w fun e w' => e = .returned (.agg #[.int .i64 0, .bool false]) ∧ Grw w w'))
    (C : Hid (∀ w, Calls Tryd.prog 42 #[.int .u64 m, .int .i64 0] w fun e w' => e = .returned (.agg #[.int .i64 v, .bool b]) ∧ Grw w w')) :
    Calls Tryd.prog 32 #[.int .u64 m, .int .i64 f] w fun e w' => e = .returned (.agg #[.int .i64 v, .bool b]) ∧ Grw w w' := by
  have h6 : ¬ (64 : Int) ≤ (f : Int) := by omega
  go_enter Tryd.func32, Tryd.ntmps32
  go_wp2_with fail
  refine (B.out _).mono ?_
  rintro _ w1 ⟨rfl, hw1⟩
  have hlt : w.heap.size < w1.heap.size := by have := Below.size hw1; rw [size_new] at this; omega
  have K := Lib.hid (Kp.grown hw1)
  have G := Lib.hid hw1.two
  clear hw1
  go_wp2_with fail
  refine (C.out _).mono ?_
  rintro _ w2 ⟨rfl, hw2⟩
  have T := ((K.out.later ((Grw.rfl' _).alloc _)).later hw2).t
  have c0 := T.c0
  have c1 := T.c1
  have f0 := T.f0
  have f1 := T.f1
  have H := Lib.hid (G.out.trans (Grw.two hw2))
  clear T hw2
  go_wp2_with fail
  exact bodyPost_ret (v := .agg #[.int .i64 v, .bool b]) (by simp [results, Tryd.results32, go_sem, c0, c1]) rfl ⟨rfl, H.out.set2 (Nat.le_refl _) _ _⟩
theorem rround_any (m : Nat) (f : Int) (w : World) :
    Calls Tryd.prog 32 #[.int .u64 m, .int .i64 f] w fun e w' => e = .returned (.agg #[.int .i64 (ov (rnd m f)), .bool (rnd m f).isSome]) ∧ Grw w w' := by
  unfold rnd
  by_cases h : 0 ≤ f ∧ f < 64
  · rw [if_pos h]
    obtain ⟨n, rfl⟩ := Int.eq_ofNat_of_zero_le h.1
    have A := fun w => rnext_any m n w
    have B := fun w => rnext_any m 0 w
    rcases e : nxt m (n : Int) with _ | v
    · rw [e] at A
      exact rround_again m n _ _ w (by omega) (Lib.hid A) (Lib.hid B)
    · rw [e] at A
      exact rround_first m n v w (by omega) (Lib.hid A)
  · rw [if_neg h]
    exact rround_out m f w h

theorem next_is (m : Nat) (f : Int) (v : Int) (b : Bool) (w : World) (hm : m < 18446744073709551616) (t : Tab w) (h1 : ov (nxt m f) = v) (h2 : (nxt m f).isSome = b) :
    Calls Tryd.prog 44 #[.int .u64 m, .int .i64 f] w fun e w' => e = .returned (.tuple #[.int .i64 v, .bool b]) ∧ w = w' := by rw [← h1, ← h2]; exact next_any m f w hm t
theorem round_is (m : Nat) (f : Int) (v : Int) (b : Bool) (w : World) (hm : m < 18446744073709551616) (t : Tab w) (h1 : ov (rnd m f) = v) (h2 : (rnd m f).isSome = b) :
    Calls Tryd.prog 33 #[.int .u64 m, .int .i64 f] w fun e w' => e = .returned (.tuple #[.int .i64 v, .bool b]) ∧ w = w' := by rw [← h1, ← h2]; exact round_any m f w hm t
theorem two_row (w : World) (x y : Int) : RowF (w.alloc (.cells #[.int .i64 x, .int .i64 y] 3)) (some ⟨w.heap.size, 0, none⟩) 2 (fun j => if j = 0 then x else y) := by
  refine Or.inr ⟨w.heap.size, 0, rfl, by rw [size_new]; omega, fun j hj => ?_⟩
  rcases (by omega : j = 0 ∨ j = 1) with h | h
  · subst h; simp [go_sem]
  · subst h; simp [go_sem]
end Go.Proofs.YtlihcljjpalapaaDoor
