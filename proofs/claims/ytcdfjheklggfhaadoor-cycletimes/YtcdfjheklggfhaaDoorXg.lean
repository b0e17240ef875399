/- The contracts of the document's own Sum and Times (layer 1), Print and When (layer 3) at this program. -/
import Derived.Test.YtcdfjheklggfhaaDoorXf
namespace Go.Proofs.YtcdfjheklggfhaaDoor
open Go.RowKit SM
set_option linter.unusedSimpArgs false

set_option maxHeartbeats 400000 in
set_option maxRecDepth 100000 in
theorem rsum_yes (a b : Int) (w : World) (ha : Wd a) (hb : Wd b) (h : a + b < 18446744073709551616) :
    Calls Tryd.prog 33 #[.int .u64 a, .int .u64 b] w fun e w' => e = .returned (.agg #[.int .u64 (a + b), .bool true]) ∧ Grw w w' := by
  obtain ⟨a0, a1⟩ := ha
  obtain ⟨b0, b1⟩ := hb
  have g : ¬ (18446744073709551615 - b < a) := by omega
  go_enter Tryd.func33, Tryd.ntmps33
  go_wp2_with fail
  exact bodyPost_ret (v := .agg #[.int .u64 (a + b), .bool true]) (by simp [results, Tryd.results33, go_sem]) rfl ⟨rfl, (Grw.rfl' _).alloc _⟩

set_option maxHeartbeats 400000 in
set_option maxRecDepth 100000 in
theorem rsum_no (a b : Int) (w : World) (ha : Wd a) (hb : Wd b) (h : ¬ a + b < 18446744073709551616) :
    Calls Tryd.prog 33 #[.int .u64 a, .int .u64 b] w fun e w' => e = .returned (.agg #[.int .u64 0, .bool false]) ∧ Grw w w' := by
  obtain ⟨a0, a1⟩ := ha
  obtain ⟨b0, b1⟩ := hb
  have g : 18446744073709551615 - b < a := by omega
  go_enter Tryd.func33, Tryd.ntmps33
  go_wp2_with fail
  exact bodyPost_ret (v := .agg #[.int .u64 0, .bool false]) (by simp [results, Tryd.results33, go_sem]) rfl ⟨rfl, (Grw.rfl' _).alloc _⟩

theorem quo_lt (a b : Int) (ha : 0 < a) : 18446744073709551615 / a < b ↔ ¬ a * b < 18446744073709551616 := by
  rw [Int.ediv_lt_iff_lt_mul ha, Int.mul_comm b a]
  omega

set_option maxHeartbeats 400000 in
set_option maxRecDepth 100000 in
theorem rtimes_yes (a b : Int) (w : World) (ha : Wd a) (hb : Wd b) (hz : a ≠ 0) (h : a * b < 18446744073709551616) :
    Calls Tryd.prog 32 #[.int .u64 a, .int .u64 b] w fun e w' => e = .returned (.agg #[.int .u64 (a * b), .bool true]) ∧ Grw w w' := by
  obtain ⟨a0, a1⟩ := ha
  obtain ⟨b0, b1⟩ := hb
  have q := quo_lt a b (by omega)
  have hz' : (a == 0) = false := by simpa using hz
  have hz'' : (a != 0) = true := by simpa using hz
  have m0 : 0 ≤ a * b := Int.mul_nonneg a0 b0
  have q0 : 0 ≤ 18446744073709551615 / a := Int.ediv_nonneg (by omega) a0
  have q1 : 18446744073709551615 / a ≤ 18446744073709551615 := Int.ediv_le_self _ (by omega)
  have g : ¬ (18446744073709551615 / a < b) := by omega
  have g' : b ≤ 18446744073709551615 / a := by omega
  clear q
  go_enter Tryd.func32, Tryd.ntmps32
  go_wp2_with fail
  exact bodyPost_ret (v := .agg #[.int .u64 (a * b), .bool true]) (by simp [results, Tryd.results32, go_sem]) rfl ⟨rfl, (Grw.rfl' _).alloc _⟩

set_option maxHeartbeats 400000 in
set_option maxRecDepth 100000 in
theorem rtimes_no (a b : Int) (w : World) (ha : Wd a) (hb : Wd b) (hz : a ≠ 0) (h : ¬ a * b < 18446744073709551616) :
    Calls Tryd.prog 32 #[.int .u64 a, .int .u64 b] w fun e w' => e = .returned (.agg #[.int .u64 0, .bool false]) ∧ Grw w w' := by
  obtain ⟨a0, a1⟩ := ha
  obtain ⟨b0, b1⟩ := hb
  have q := quo_lt a b (by omega)
  have hz' : (a == 0) = false := by simpa using hz
  have hz'' : (a != 0) = true := by simpa using hz
  have q0 : 0 ≤ 18446744073709551615 / a := Int.ediv_nonneg (by omega) a0
  have q1 : 18446744073709551615 / a ≤ 18446744073709551615 := Int.ediv_le_self _ (by omega)
  have g : 18446744073709551615 / a < b := by omega
  clear q
  go_enter Tryd.func32, Tryd.ntmps32
  go_wp2_with fail
  exact bodyPost_ret (v := .agg #[.int .u64 0, .bool false]) (by simp [results, Tryd.results32, go_sem]) rfl ⟨rfl, (Grw.rfl' _).alloc _⟩

/-- two blocks of two cells each. -/
theorem two_grown2 {w x : World} {a b c d : Value} {T U : TypeId} (h : Grw ((w.alloc (.cells #[a, b] T)).alloc (.cells #[c, d] U)) x) : Two x w.heap.size a b ∧ Two x (w.heap.size + 1) c d := by
  constructor
  · exact ((Two.new w a b T).later ((Grw.rfl' _).alloc _) (by simp only [size_new]; omega)).later h (by simp only [size_new]; omega)
  · have := (Two.new (w.alloc (.cells #[a, b] T)) c d U).later h (by simp only [size_new]; omega)
    rw [size_new] at this; exact this

theorem set_alloc {w2 : World} {b : Nat} {c0 c1 : Value} (T : Two w2 b c0 c1) (u v : Value) (o : Obj) :
    (((w2.setCell ⟨b, 0, none⟩ u).setCell ⟨b, 1, none⟩ v).alloc o).cell? ⟨b, 0, none⟩ = some u ∧ (((w2.setCell ⟨b, 0, none⟩ u).setCell ⟨b, 1, none⟩ v).alloc o).cell? ⟨b, 1, none⟩ = some v := by
  have c0 := T.c0
  have c1 := T.c1
  exact ⟨((Grw.rfl' _).alloc o).cell (by simp [go_sem, c0, c1]), ((Grw.rfl' _).alloc o).cell (by simp [go_sem, c0, c1])⟩

set_option maxHeartbeats 1000000 in
set_option maxRecDepth 100000 in
theorem rwhen_bad (n : Int) (x f : Nat) (k : Int) (w : World) (h : goodB n x = false) :
    Calls Tryd.prog 16 #[.agg #[.int .i64 n, .int .u64 x], .int .u64 f, .int .i64 k] w fun e w' => e = .returned (.agg #[.int .u64 0, .bool false]) ∧ Grw w w' := by
  have E := fun w => rgood_any n x w
  rw [h] at E
  replace E := Lib.hid E
  clear h
  go_enter Tryd.func16, Tryd.ntmps16
  go_wp2_with fail
  refine (E.out _).mono ?_
  rintro _ w1 ⟨rfl, hw1⟩
  obtain ⟨T, U⟩ := two_grown2 hw1
  have G := hw1.two.two
  have d0 := U.c0
  have d1 := U.c1
  have f0 := U.f0
  have f1 := U.f1
  clear T U hw1 E
  go_wp2_with fail
  exact bodyPost_ret (v := .agg #[.int .u64 0, .bool false]) (by simp [results, Tryd.results16, go_sem, d0, d1]) rfl ⟨rfl, G.set2 (by omega) _ _⟩

set_option maxHeartbeats 1000000 in
set_option maxRecDepth 100000 in
theorem rwhen_off (n : Int) (x f : Nat) (k : Int) (w : World) (h : goodB n x = true) (hk : ¬ (1 ≤ k ∧ k ≤ n)) :
    Calls Tryd.prog 16 #[.agg #[.int .i64 n, .int .u64 x], .int .u64 f, .int .i64 k] w fun e w' => e = .returned (.agg #[.int .u64 0, .bool false]) ∧ Grw w w' := by
  have E := fun w => rgood_any n x w
  rw [h] at E
  replace E := Lib.hid E
  clear h
  by_cases hk1 : k < 1
  · clear hk
    go_enter Tryd.func16, Tryd.ntmps16
    go_wp2_with fail
    refine (E.out _).mono ?_
    rintro _ w1 ⟨rfl, hw1⟩
    obtain ⟨T, U⟩ := two_grown2 hw1
    have G := hw1.two.two
    have d0 := U.c0
    have d1 := U.c1
    have f0 := U.f0
    have f1 := U.f1
    clear T U hw1 E
    go_wp2_with fail
    exact bodyPost_ret (v := .agg #[.int .u64 0, .bool false]) (by simp [results, Tryd.results16, go_sem, d0, d1]) rfl ⟨rfl, G.set2 (by omega) _ _⟩
  · have hk2 : n < k := by omega
    clear hk
    have hk3 : decide (k < 1) = false := decide_eq_false hk1
    go_enter Tryd.func16, Tryd.ntmps16
    go_wp2_with fail
    refine (E.out _).mono ?_
    rintro _ w1 ⟨rfl, hw1⟩
    obtain ⟨T, U⟩ := two_grown2 hw1
    have G := hw1.two.two
    have c0 := T.c0
    have d0 := U.c0
    have d1 := U.c1
    have f0 := U.f0
    have f1 := U.f1
    clear T U hw1 E
    go_wp2_with fail
    exact bodyPost_ret (v := .agg #[.int .u64 0, .bool false]) (by simp [results, Tryd.results16, go_sem, d0, d1]) rfl ⟨rfl, G.set2 (by omega) _ _⟩

set_option maxHeartbeats 1000000 in
set_option maxRecDepth 100000 in
theorem rwhen_times (n x f k : Nat) (w : World) (h6 : x < 18446744073709551616) (h : goodB n x = true) (hk1 : 1 ≤ k) (hk2 : k ≤ n) (m : ¬ k * x < 18446744073709551616) :
    Calls Tryd.prog 16 #[.agg #[.int .i64 n, .int .u64 x], .int .u64 f, .int .i64 k] w fun e w' => e = .returned (.agg #[.int .u64 0, .bool false]) ∧ Grw w w' := by
  have hh := of_decide_eq_true h
  obtain ⟨g1, g2, g3, g4⟩ := hh
  have E := fun w => rgood_any n x w
  rw [h] at E
  replace E := Lib.hid E
  have ek : (k : Int) * x = ((k * x : Nat) : Int) := by simp
  have M := Lib.hid (fun w => rtimes_no k x w ⟨by omega, by omega⟩ ⟨by omega, by omega⟩ (by omega) (by rw [ek]; omega))
  have k1 : ¬ (k : Int) < 1 := by omega
  have k2 : ¬ (n : Int) < k := by omega
  have k3 : ¬ n < k := by omega
  clear h ek m
  go_enter Tryd.func16, Tryd.ntmps16
  go_wp2_with fail
  refine (E.out _).mono ?_
  rintro _ w1 ⟨rfl, hw1⟩
  obtain ⟨T, U⟩ := two_grown2 hw1
  have lt0 : w.heap.size + 1 < w1.heap.size := by have := Below.size hw1; rw [size_new, size_new] at this; omega
  have G := hw1.two.two
  have c0 := T.c0
  have c1 := T.c1
  clear hw1 E T
  go_wp2_with fail
  refine (M.out _).mono ?_
  rintro _ w2 ⟨rfl, hw2⟩
  have U2 := U.later hw2 lt0
  have G2 := Grw.trans G hw2
  have d0 := U2.c0
  have d1 := U2.c1
  have f0 := U2.f0
  have f1 := U2.f1
  have lt1 : w.heap.size + 1 < w2.heap.size := Nat.lt_of_lt_of_le lt0 (Below.size hw2)
  have ne1 : ¬ w.heap.size + 1 = w2.heap.size := by omega
  have ne2 : ¬ w2.heap.size = w.heap.size + 1 := by omega
  obtain ⟨e0, e1⟩ := set_alloc U2 (.int .u64 0) (.bool false) (.cells #[.int .u64 0, .bool false] 38)
  clear U U2 hw2 M c0 c1 G
  go_wp2_with fail
  exact bodyPost_ret (v := .agg #[.int .u64 0, .bool false]) (by simp [results, Tryd.results16, go_sem, e0, e1]) rfl ⟨rfl, (G2.set2 (by omega) _ _).alloc _⟩

set_option maxHeartbeats 1000000 in
set_option maxRecDepth 100000 in
theorem rwhen_sum (n x f k m v : Nat) (b : Bool) (w : World) (h6 : x < 18446744073709551616) (h : goodB n x = true) (hk1 : 1 ≤ k) (hk2 : k ≤ n) (hm : k * x = m) (hm2 : m < 18446744073709551616)
    (S' : ∀ w, Calls Tryd.prog 33 #[.int .u64 f, .int .u64 m] w fun e w' => e = .returned (.agg #[.int .u64 v, .bool b]) ∧ Grw w w') :
    Calls Tryd.prog 16 #[.agg #[.int .i64 n, .int .u64 x], .int .u64 f, .int .i64 k] w fun e w' => e = .returned (.agg #[.int .u64 v, .bool b]) ∧ Grw w w' := by
  have hh := of_decide_eq_true h
  obtain ⟨g1, g2, g3, g4⟩ := hh
  have E := fun w => rgood_any n x w
  rw [h] at E
  replace E := Lib.hid E
  have ek : (k : Int) * x = ((m : Nat) : Int) := by rw [← hm]; simp
  have M := fun w => rtimes_yes k x w ⟨by omega, by omega⟩ ⟨by omega, by omega⟩ (by omega) (by rw [ek]; omega)
  rw [ek] at M
  replace M := Lib.hid M
  have S := Lib.hid S'
  have k1 : ¬ (k : Int) < 1 := by omega
  have k2 : ¬ (n : Int) < k := by omega
  have k3 : ¬ n < k := by omega
  clear h ek S' hm
  go_enter Tryd.func16, Tryd.ntmps16
  go_wp2_with fail
  refine (E.out _).mono ?_
  rintro _ w1 ⟨rfl, hw1⟩
  obtain ⟨T, U⟩ := two_grown2 hw1
  have lt0 : w.heap.size + 1 < w1.heap.size := by have := Below.size hw1; simp only [size_new] at this; omega
  have G := hw1.two.two
  have c0 := T.c0
  have c1 := T.c1
  clear hw1 E T
  go_wp2_with fail
  refine (M.out _).mono ?_
  rintro _ w2 ⟨rfl, hw2⟩
  have U2 := U.later hw2 lt0
  have G2 := Grw.trans G hw2
  have lt1 : w.heap.size + 1 < w2.heap.size := Nat.lt_of_lt_of_le lt0 (Below.size hw2)
  clear U hw2 M c0 c1 G
  go_wp2_with fail
  refine (S.out _).mono ?_
  rintro _ w3 ⟨rfl, hw3⟩
  have U3 := (U2.later ((Grw.rfl' _).alloc _) lt1).later hw3 (by simp only [size_new]; omega)
  have d0 := U3.c0
  have d1 := U3.c1
  have f0 := U3.f0
  have f1 := U3.f1
  have G3 := Grw.trans G2 hw3.two
  clear U2 U3 hw3 S G2
  go_wp2_with fail
  exact bodyPost_ret (v := .agg #[.int .u64 v, .bool b]) (by simp [results, Tryd.results16, go_sem, d0, d1]) rfl ⟨rfl, G3.set2 (by omega) _ _⟩

theorem rwhen_any (n : Int) (x f : Nat) (k : Int) (w : World) (h6 : x < 18446744073709551616) (hf : f < 18446744073709551616) :
    Calls Tryd.prog 16 #[.agg #[.int .i64 n, .int .u64 x], .int .u64 f, .int .i64 k] w fun e w' => e = .returned (.agg #[.int .u64 (whenV n x f k), .bool (whenB n x f k)]) ∧ Grw w w' := by
  rcases h : goodB n x with _ | _
  · have e : whenB n x f k = false := by unfold whenB; rw [h]; rfl
    rw [when_no e, e]; exact rwhen_bad n x f k w h
  · have hh := of_decide_eq_true h
    by_cases hk : 1 ≤ k ∧ k ≤ n
    · obtain ⟨j, rfl⟩ := Int.eq_ofNat_of_zero_le (show 0 ≤ k by omega)
      obtain ⟨m, rfl⟩ := Int.eq_ofNat_of_zero_le (show 0 ≤ n by omega)
      have ej : ((j : Nat) : Int).toNat = j := by simp
      by_cases ht : j * x < 18446744073709551616
      · by_cases hs : f + j * x < 18446744073709551616
        · have e : whenB m x f j = true := by unfold whenB; rw [h, decide_eq_true hk, ej, decide_eq_true hs]; rfl
          rw [when_yes e, e, ej]
          refine rwhen_sum m x f j _ _ true w h6 h (by omega) (by omega) rfl ht ?_
          have g := fun w => rsum_yes f ((j * x : Nat) : Int) w ⟨by omega, by omega⟩ ⟨by omega, by omega⟩ (by omega)
          have e2 : (f : Int) + ((j * x : Nat) : Int) = ((f + j * x : Nat) : Int) := by omega
          rw [e2] at g; exact g
        · have e : whenB m x f j = false := by unfold whenB; rw [ej, decide_eq_false hs]; simp
          rw [when_no e, e]
          exact rwhen_sum m x f j _ 0 false w h6 h (by omega) (by omega) rfl ht (fun w => rsum_no f ((j * x : Nat) : Int) w ⟨by omega, by omega⟩ ⟨by omega, by omega⟩ (by omega))
      · have e : whenB m x f j = false := by unfold whenB; rw [ej, decide_eq_false (by omega : ¬ f + j * x < 18446744073709551616)]; simp
        rw [when_no e, e]
        exact rwhen_times m x f j w h6 h (by omega) (by omega) ht
    · have e : whenB n x f k = false := by unfold whenB; rw [h, decide_eq_false hk]; rfl
      rw [when_no e, e]; exact rwhen_off n x f k w h hk

set_option maxHeartbeats 1000000 in
set_option maxRecDepth 100000 in
theorem rcprint_no (n : Int) (x : Nat) (w : World) (h : goodB n x = false) :
    Calls Tryd.prog 15 #[.agg #[.int .i64 n, .int .u64 x]] w fun e w' => e = .returned (.string ⟨#[]⟩) ∧ Grw w w' := by
  have E := fun w => rgood_any n x w
  rw [h] at E
  replace E := Lib.hid E
  clear h
  go_enter Tryd.func15, Tryd.ntmps15
  go_wp2_with fail
  refine (E.out _).mono ?_
  rintro _ w1 ⟨rfl, hw1⟩
  go_wp2_with fail
  go_ret
  exact ⟨rfl, hw1.two⟩

set_option maxHeartbeats 1000000 in
set_option maxRecDepth 100000 in
theorem rcprint_yes (n x : Nat) (b : ByteArray) (w : World) (h1 : 1 ≤ n) (h2 : n ≤ 1000000) (h3 : 1 ≤ x) (h4 : x ≤ top) (hb : b.data.toList = cycS n x) :
    Calls Tryd.prog 15 #[.agg #[.int .i64 n, .int .u64 x]] w fun e w' => e = .returned (.string b) ∧ Grw w w' := by
  have E := fun w => rgood_any n x w
  rw [good_of h1 h2 h3 h4] at E
  replace E := Lib.hid E
  obtain ⟨p, hp⟩ := ba_of (printS x)
  obtain ⟨i, hi⟩ := ba_of (Lib.decDigits n)
  have P := Lib.hid (fun w => rprint_yes x p w h4 hp)
  have I := Lib.hid (fun w => digits_ba n i w (by omega) hi)
  have zp : (p.size : Int) ≤ 40 := by have := print_len x h4; rw [← hp, ← size_len] at this; omega
  have zi : (i.size : Int) ≤ 7 := by have := dec_le n 7 (by omega) (by omega); rw [← hi, ← size_len] at this; omega
  have q1 : (((⟨#[82]⟩ : ByteArray).size : Nat) : Int) ≤ 8388608 := by rw [size_len]; simp
  have q2 : (((⟨#[47]⟩ : ByteArray).size : Nat) : Int) ≤ 8388608 := by rw [size_len]; simp
  have f4 : IntKind.u64.wrap (n : Int) = n := by rw [IntKind.wrap_u64]; omega
  have eb : b = ⟨#[82]⟩ ++ i ++ ⟨#[47]⟩ ++ p := ba_ext (by rw [hb, ba_app, ba_app, ba_app, hp, hi]; simp [cycS])
  have EB := Lib.hid eb
  clear hb eb hp hi h4
  go_enter Tryd.func15, Tryd.ntmps15
  go_wp2_with fail
  refine (E.out _).mono ?_
  rintro _ w1 ⟨rfl, hw1⟩
  have T := Two.grown hw1
  have G := hw1.two
  have c0 := T.c0
  have c1 := T.c1
  clear T hw1 E
  go_wp2_with fail
  have p0 := gw_cell c0
  have p1 := gw_cell c1
  refine wp_region_grown (by kernel_rfl) (by kernel_rfl) ?_
  repeat (go_big_quiet_step (first | (go_at_call 19; exact calls_grown (I.out _)) | (go_at_call 31; exact calls_grown (P.out _))))
  refine wpQuiet_nil ?_
  rintro _ ⟨q', rfl⟩
  have hq' := q'.h
  clear p0 p1 c0 c1
  go_wp2_with fail
  rw [EB.out]
  go_ret
  exact ⟨rfl, G.trans hq'⟩
end Go.Proofs.YtcdfjheklggfhaaDoor
