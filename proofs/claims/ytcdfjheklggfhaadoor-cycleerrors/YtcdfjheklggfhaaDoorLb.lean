/- The walk of CycleErrors. -/
import Derived.Test.YtcdfjheklggfhaaDoorXk
import Derived.Test.YtcdfjheklggfhaaDoorWg
namespace Go.Proofs.YtcdfjheklggfhaaDoor
open Go.RowKit SM
set_option linter.unusedSimpArgs false
set_option linter.unusedVariables false

theorem cat_data (i s : ByteArray) : (⟨#[82]⟩ ++ i ++ ⟨#[47]⟩ ++ s : ByteArray).data.toList = 82 :: (i.data.toList ++ 47 :: s.data.toList) := by
  rw [ba_app, ba_app, ba_app]; simp
theorem cat_size (i s : ByteArray) (hi : i.size ≤ 7) (hs : s.size ≤ 200) : (⟨#[82]⟩ ++ i ++ ⟨#[47]⟩ ++ s : ByteArray).size ≤ 9223372036854775807 := by
  rw [size_len, cat_data]; simp only [List.length_cons, List.length_append, ← size_len]; omega
theorem pre_data (s : ByteArray) : (⟨#[82, 47]⟩ ++ s : ByteArray).data.toList = 82 :: 47 :: s.data.toList := by
  rw [ba_app]; rfl
theorem pre_size (s : ByteArray) (hs : s.size ≤ 200) : (⟨#[82, 47]⟩ ++ s : ByteArray).size ≤ 9223372036854775807 := by
  rw [size_len, pre_data]; simp only [List.length_cons, ← size_len]; omega

set_option maxHeartbeats 2000000 in
set_option maxRecDepth 100000 in
theorem errors_core (n k cn cv ce x f : Nat) (s i j : ByteArray) (w : World) (hs : (s.size : Int) ≤ 200) (hn : n < 4294967296) (hk : 1 + (n : Int) % 1000000 = k) (hk1 : 1 ≤ k) (hk2 : k ≤ 1000000) (zi : (i.size : Int) ≤ 7) (zj : (j.size : Int) ≤ 7)
    (I' : ∀ w, Calls Tryd.prog 19 #[.int .u64 k] w fun e w' => e = .returned (.string i) ∧ Grw w w')
    (J' : ∀ w, Calls Tryd.prog 19 #[.int .u64 (1000000 + (k : Int))] w fun e w' => e = .returned (.string j) ∧ Grw w w')
    (A' : ∀ w, Calls Tryd.prog 9 #[.string (⟨#[82]⟩ ++ i ++ ⟨#[47]⟩ ++ s)] w fun e w' => e = .returned (.tuple #[.agg #[.int .i64 cn, .int .u64 cv], .int .i64 ce]) ∧ Grw w w')
    (S' : ∀ w, Calls Tryd.prog 20 #[.string s] w fun e w' => e = .returned (.tuple #[.int .u64 x, .int .i64 f]) ∧ Grw w w')
    (B' : ∀ w, Calls Tryd.prog 9 #[.string (⟨#[82, 47]⟩ ++ s)] w fun e w' => e = .returned (.tuple #[.agg #[.int .i64 0, .int .u64 0], .int .i64 5]) ∧ Grw w w')
    (C' : ∀ w, Calls Tryd.prog 9 #[.string (⟨#[82]⟩ ++ j ++ ⟨#[47]⟩ ++ s)] w fun e w' => e = .returned (.tuple #[.agg #[.int .i64 0, .int .u64 0], .int .i64 3]) ∧ Grw w w')
    (way : (f = 0 ∧ 0 < x ∧ ce = 0 ∧ cn = k ∧ cv = x) ∨ (f = 0 ∧ x = 0 ∧ ce = 6 ∧ cn = 0 ∧ cv = 0) ∨ (f ≠ 0 ∧ ce = f ∧ cn = 0 ∧ cv = 0)) :
    Calls Tryd.prog 7 #[.int .u32 n, .string s] w fun e w' => e = .returned (.bool true) ∧ Grw w w' := by
  have I := Lib.hid I'
  have J := Lib.hid J'
  have A := Lib.hid A'
  have S := Lib.hid S'
  have B := Lib.hid B'
  have C := Lib.hid C'
  have WAY := Lib.hid way
  have q1 : (((⟨#[82]⟩ : ByteArray).size : Nat) : Int) ≤ 8388608 := by rw [size_len]; simp
  have q2 : (((⟨#[47]⟩ : ByteArray).size : Nat) : Int) ≤ 8388608 := by rw [size_len]; simp
  have q3 : (((⟨#[82, 47]⟩ : ByteArray).size : Nat) : Int) ≤ 8388608 := by rw [size_len]; simp
  have HK := Lib.hid hk
  clear I' J' A' S' B' C' way hk
  go_enter Tryd.func7, Tryd.ntmps7
  go_wp2_with fail
  rw [HK.out]
  clear HK
  refine (I.out _).mono ?_
  rintro _ w1 ⟨rfl, hw1⟩
  go_wp2_with fail
  refine (A.out _).mono ?_
  rintro _ w2 ⟨rfl, hw2⟩
  have G := Grw.trans hw1 hw2
  clear hw1 hw2 I A
  go_wp2_with fail
  refine (S.out _).mono ?_
  rintro _ w3 ⟨rfl, hw3⟩
  have K := Kp.grown hw3
  replace G := Grw.trans G hw3.two
  clear hw3 S
  go_wp2_with fail
  refine (B.out _).mono ?_
  rintro _ w4 ⟨rfl, hw4⟩
  replace K := K.later hw4
  replace G := Grw.trans G hw4
  clear hw4 B
  go_wp2_with fail
  refine (J.out _).mono ?_
  rintro _ w5 ⟨rfl, hw5⟩
  replace K := K.later hw5.two
  replace G := Grw.trans G hw5.two
  clear hw5 J
  go_wp2_with fail
  refine (C.out _).mono ?_
  rintro _ w6 ⟨rfl, hw6⟩
  replace K := K.later hw6
  replace G := Grw.trans G hw6
  clear hw6 C
  have c0 := (K.later ((Grw.rfl' _).alloc (.cells #[.int .i64 0, .int .u64 0] 25))).t.c0
  have c1 := (K.later ((Grw.rfl' _).alloc (.cells #[.int .i64 0, .int .u64 0] 25))).t.c1
  clear K
  rcases WAY.out with ⟨rfl, x0, rfl, rfl, rfl⟩ | ⟨rfl, rfl, rfl, rfl, rfl⟩ | ⟨f0, rfl, rfl, rfl⟩
  · have x1 : (0 : Int) < cv := by omega
    clear WAY
    go_wp2_with fail
    refine (wakes_any _).mono ?_
    rintro _ w8 ⟨rfl, hw8⟩
    clear c0 c1
    go_wp2_with fail
    go_ret
    exact ⟨rfl, Grw.trans G hw8.two⟩
  · clear WAY
    go_wp2_with fail
    refine (wakes_any _).mono ?_
    rintro _ w8 ⟨rfl, hw8⟩
    clear c0 c1
    go_wp2_with fail
    go_ret
    exact ⟨rfl, Grw.trans G hw8.two⟩
  · have f1 : ((ce : Int) == 0) = false := by simp; omega
    have f2 : ((ce : Int) != 0) = true := by simp; omega
    clear WAY
    go_wp2_with fail
    refine (wakes_any _).mono ?_
    rintro _ w8 ⟨rfl, hw8⟩
    clear c0 c1
    go_wp2_with fail
    go_ret
    exact ⟨rfl, Grw.trans G hw8.two⟩

set_option maxHeartbeats 2000000 in
set_option maxRecDepth 100000 in
theorem errors_long (n : Nat) (s : ByteArray) (w : World) (h : ¬ s.size ≤ 200) (hs : s.size ≤ 9223372036854775807) :
    Calls Tryd.prog 7 #[.int .u32 n, .string s] w fun e w' => e = .returned (.bool true) ∧ Grw w w' := by
  have h' : (200 : Int) < s.size := by omega
  go_enter Tryd.func7, Tryd.ntmps7
  go_wp2_with fail
  refine (wakes_any _).mono ?_
  rintro _ w3 ⟨rfl, hw3⟩
  go_wp2_with fail
  go_ret
  exact ⟨rfl, hw3⟩

theorem errors_walk (n : Nat) (s : ByteArray) (w : World) (hn : n < 4294967296) (hs : s.size ≤ 9223372036854775807) :
    Calls Tryd.prog 7 #[.int .u32 n, .string s] w fun e w' => e = .returned (.bool true) ∧ Grw w w' := by
  by_cases h : s.size ≤ 200
  · obtain ⟨k, hk⟩ : ∃ k, 1 + n % 1000000 = k := ⟨_, rfl⟩
    have hk1 : 1 ≤ k := by omega
    have hk2 : k ≤ 1000000 := by omega
    obtain ⟨i, hi⟩ := ba_of (Lib.decDigits k)
    obtain ⟨j, hj⟩ := ba_of (Lib.decDigits (1000000 + k))
    have zi : i.size ≤ 7 := by rw [size_len, hi]; exact dec_le k 7 (by omega) (by omega)
    have zj : j.size ≤ 7 := by rw [size_len, hj]; exact dec_le (1000000 + k) 7 (by omega) (by omega)
    obtain ⟨a1, a2⟩ := cy_dec k s.data.toList (by omega) (by omega)
    obtain ⟨b1, _⟩ := cy_dec (1000000 + k) s.data.toList (by omega) (by omega)
    rw [← hi, ← cat_data] at a1 a2
    rw [← hj, ← cat_data] at b1
    have c3 : cyE (⟨#[82]⟩ ++ j ++ ⟨#[47]⟩ ++ s : ByteArray).data.toList = 3 := by rw [b1]; unfold cyR; rw [if_pos (by omega)]
    obtain ⟨c1, c2⟩ := cy_bad (l := (⟨#[82]⟩ ++ j ++ ⟨#[47]⟩ ++ s : ByteArray).data.toList) (by rw [c3]; omega)
    have d3 : cyE (⟨#[82, 47]⟩ ++ s : ByteArray).data.toList = 5 := by rw [pre_data]; rfl
    obtain ⟨d1, d2⟩ := cy_bad (l := (⟨#[82, 47]⟩ ++ s : ByteArray).data.toList) (by rw [d3]; omega)
    have ej : (1000000 : Int) + (k : Int) = ((1000000 + k : Nat) : Int) := by omega
    refine errors_core n k (cyN (⟨#[82]⟩ ++ i ++ ⟨#[47]⟩ ++ s : ByteArray).data.toList) (cyV (⟨#[82]⟩ ++ i ++ ⟨#[47]⟩ ++ s : ByteArray).data.toList) (cyE (⟨#[82]⟩ ++ i ++ ⟨#[47]⟩ ++ s : ByteArray).data.toList) (pV s.data.toList) (pE s.data.toList) s i j w
      (by omega) hn (by omega) hk1 hk2 (by omega) (by omega) (fun w => digits_ba k i w (by omega) hi) (fun w => by rw [ej]; exact digits_ba (1000000 + k) j w (by omega) hj)
      (fun w => cparse_any _ w (cat_size i s zi h)) (fun w => parse_any s w hs) (fun w => cparse_at _ 0 0 5 w (pre_size s h) d1 d2 d3) (fun w => cparse_at _ 0 0 3 w (cat_size j s zj h) c1 c2 c3) ?_
    have hb : ¬ 1000000 < k := by omega
    by_cases hp : pE s.data.toList = 0
    · by_cases hv : pV s.data.toList = 0
      · have e : cyE (⟨#[82]⟩ ++ i ++ ⟨#[47]⟩ ++ s : ByteArray).data.toList = 6 := by rw [a1]; unfold cyR; rw [if_neg hb, if_neg (by simpa using hp), if_pos hv]
        obtain ⟨e1, e2⟩ := cy_bad (l := (⟨#[82]⟩ ++ i ++ ⟨#[47]⟩ ++ s : ByteArray).data.toList) (by rw [e]; omega)
        exact Or.inr (Or.inl ⟨hp, hv, e, e1, e2⟩)
      · have r0 : cyR k s.data.toList = 0 := by unfold cyR; rw [if_neg hb, if_neg (by simpa using hp), if_neg hv]
        obtain ⟨e1, e2⟩ := a2 r0
        exact Or.inl ⟨hp, by omega, by rw [a1]; exact r0, e1, e2⟩
    · have e : cyE (⟨#[82]⟩ ++ i ++ ⟨#[47]⟩ ++ s : ByteArray).data.toList = pE s.data.toList := by rw [a1]; unfold cyR; rw [if_neg hb, if_pos hp]
      obtain ⟨e1, e2⟩ := cy_bad (l := (⟨#[82]⟩ ++ i ++ ⟨#[47]⟩ ++ s : ByteArray).data.toList) (by rw [e]; exact hp)
      exact Or.inr (Or.inr ⟨hp, e, e1, e2⟩)
  · exact errors_long n s w h hs
end Go.Proofs.YtcdfjheklggfhaaDoor
