/- The contract of cycle.Parse at this program. -/
import Derived.Test.YtcdfjheklggfhaaDoorXd
namespace Go.Proofs.YtcdfjheklggfhaaDoor
open Go.RowKit SM
set_option linter.unusedSimpArgs false
set_option linter.unusedVariables false

set_option maxHeartbeats 1000000 in
set_option maxRecDepth 100000 in
theorem cp_noR (s t d r : ByteArray) (n v x : Nat) (b : Bool) (w : World)
    (A' : ∀ w, Calls Tryd.prog 21 #[.string s, .string ⟨#[82]⟩] w fun e w' => e = .returned (.tuple #[.string s, .bool false]) ∧ w = w')
    : Calls Tryd.prog 9 #[.string s] w fun e w' => e = .returned (.tuple #[.agg #[.int .i64 0, .int .u64 0], .int .i64 2]) ∧ Grw w w' := by
  have A := Lib.hid A'
  clear A'
  go_enter Tryd.func9, Tryd.ntmps9
  go_wp2_with fail
  refine (A.out _).mono ?_
  rintro _ _ ⟨rfl, rfl⟩
  clear A
  go_wp2_with fail
  exact bodyPost_ret (v := .tuple #[.agg #[.int .i64 0, .int .u64 0], .int .i64 2]) (by simp [results, Tryd.results9, go_sem]) rfl ⟨rfl, (Grw.rfl' _).alloc _⟩

set_option maxHeartbeats 1000000 in
set_option maxRecDepth 100000 in
theorem cp_endless (s t d r : ByteArray) (n v x : Nat) (b : Bool) (w : World)
    (A' : ∀ w, Calls Tryd.prog 21 #[.string s, .string ⟨#[82]⟩] w fun e w' => e = .returned (.tuple #[.string t, .bool true]) ∧ w = w')
    (B' : ∀ w, Calls Tryd.prog 22 #[.string t, .string ⟨#[47]⟩] w fun e w' => e = .returned (.bool true) ∧ w = w')
    : Calls Tryd.prog 9 #[.string s] w fun e w' => e = .returned (.tuple #[.agg #[.int .i64 0, .int .u64 0], .int .i64 5]) ∧ Grw w w' := by
  have A := Lib.hid A'
  clear A'
  have B := Lib.hid B'
  clear B'
  go_enter Tryd.func9, Tryd.ntmps9
  go_wp2_with fail
  refine (A.out _).mono ?_
  rintro _ _ ⟨rfl, rfl⟩
  go_wp2_with fail
  refine (B.out _).mono ?_
  rintro _ _ ⟨rfl, rfl⟩
  clear A B
  go_wp2_with fail
  exact bodyPost_ret (v := .tuple #[.agg #[.int .i64 0, .int .u64 0], .int .i64 5]) (by simp [results, Tryd.results9, go_sem]) rfl ⟨rfl, (Grw.rfl' _).alloc _⟩

set_option maxHeartbeats 1000000 in
set_option maxRecDepth 100000 in
theorem cp_noslash (s t d r : ByteArray) (n v x : Nat) (b : Bool) (w : World)
    (A' : ∀ w, Calls Tryd.prog 21 #[.string s, .string ⟨#[82]⟩] w fun e w' => e = .returned (.tuple #[.string t, .bool true]) ∧ w = w')
    (B' : ∀ w, Calls Tryd.prog 22 #[.string t, .string ⟨#[47]⟩] w fun e w' => e = .returned (.bool false) ∧ w = w')
    (C' : ∀ w, Calls Tryd.prog 23 #[.string t, .string ⟨#[47]⟩] w fun e w' => e = .returned (.tuple #[.string t, .string ⟨#[]⟩, .bool false]) ∧ Grw w w')
    (D' : ∀ w, Calls Tryd.prog 24 #[.string t] w fun e w' => e = .returned (.tuple #[.int .i64 n, .bool b]) ∧ Grw w w')
    : Calls Tryd.prog 9 #[.string s] w fun e w' => e = .returned (.tuple #[.agg #[.int .i64 0, .int .u64 0], .int .i64 2]) ∧ Grw w w' := by
  have A := Lib.hid A'
  clear A'
  have B := Lib.hid B'
  clear B'
  have C := Lib.hid C'
  clear C'
  have D := Lib.hid D'
  clear D'
  go_enter Tryd.func9, Tryd.ntmps9
  go_wp2_with fail
  refine (A.out _).mono ?_
  rintro _ _ ⟨rfl, rfl⟩
  go_wp2_with fail
  refine (B.out _).mono ?_
  rintro _ _ ⟨rfl, rfl⟩
  go_wp2_with fail
  refine (C.out _).mono ?_
  rintro _ w2 ⟨rfl, hw2⟩
  go_wp2_with fail
  refine (D.out _).mono ?_
  rintro _ w3 ⟨rfl, hw3⟩
  have G := (Grw.trans hw2 hw3)
  clear hw2 hw3 A B C D
  have T := Two.grown G
  have c0 := T.c0
  have c1 := T.c1
  have f0 := T.f0
  have f1 := T.f1
  clear T
  go_wp2_with fail
  exact bodyPost_ret (v := .tuple #[.agg #[.int .i64 0, .int .u64 0], .int .i64 2]) (by simp [results, Tryd.results9, go_sem, c0, c1]) rfl ⟨rfl, G.two.set2 (Nat.le_refl _) _ _⟩

set_option maxHeartbeats 1000000 in
set_option maxRecDepth 100000 in
theorem cp_norounds (s t d r : ByteArray) (n v x : Nat) (b : Bool) (w : World)
    (A' : ∀ w, Calls Tryd.prog 21 #[.string s, .string ⟨#[82]⟩] w fun e w' => e = .returned (.tuple #[.string t, .bool true]) ∧ w = w')
    (B' : ∀ w, Calls Tryd.prog 22 #[.string t, .string ⟨#[47]⟩] w fun e w' => e = .returned (.bool false) ∧ w = w')
    (C' : ∀ w, Calls Tryd.prog 23 #[.string t, .string ⟨#[47]⟩] w fun e w' => e = .returned (.tuple #[.string d, .string r, .bool true]) ∧ Grw w w')
    (D' : ∀ w, Calls Tryd.prog 24 #[.string d] w fun e w' => e = .returned (.tuple #[.int .i64 n, .bool false]) ∧ Grw w w')
    : Calls Tryd.prog 9 #[.string s] w fun e w' => e = .returned (.tuple #[.agg #[.int .i64 0, .int .u64 0], .int .i64 2]) ∧ Grw w w' := by
  have A := Lib.hid A'
  clear A'
  have B := Lib.hid B'
  clear B'
  have C := Lib.hid C'
  clear C'
  have D := Lib.hid D'
  clear D'
  go_enter Tryd.func9, Tryd.ntmps9
  go_wp2_with fail
  refine (A.out _).mono ?_
  rintro _ _ ⟨rfl, rfl⟩
  go_wp2_with fail
  refine (B.out _).mono ?_
  rintro _ _ ⟨rfl, rfl⟩
  go_wp2_with fail
  refine (C.out _).mono ?_
  rintro _ w2 ⟨rfl, hw2⟩
  go_wp2_with fail
  refine (D.out _).mono ?_
  rintro _ w3 ⟨rfl, hw3⟩
  have G := (Grw.trans hw2 hw3)
  clear hw2 hw3 A B C D
  have T := Two.grown G
  have c0 := T.c0
  have c1 := T.c1
  have f0 := T.f0
  have f1 := T.f1
  clear T
  go_wp2_with fail
  exact bodyPost_ret (v := .tuple #[.agg #[.int .i64 0, .int .u64 0], .int .i64 2]) (by simp [results, Tryd.results9, go_sem, c0, c1]) rfl ⟨rfl, G.two.set2 (Nat.le_refl _) _ _⟩

set_option maxHeartbeats 1000000 in
set_option maxRecDepth 100000 in
theorem cp_over (s t d r : ByteArray) (n v x : Nat) (b : Bool) (w : World)
    (A' : ∀ w, Calls Tryd.prog 21 #[.string s, .string ⟨#[82]⟩] w fun e w' => e = .returned (.tuple #[.string t, .bool true]) ∧ w = w')
    (B' : ∀ w, Calls Tryd.prog 22 #[.string t, .string ⟨#[47]⟩] w fun e w' => e = .returned (.bool false) ∧ w = w')
    (C' : ∀ w, Calls Tryd.prog 23 #[.string t, .string ⟨#[47]⟩] w fun e w' => e = .returned (.tuple #[.string d, .string r, .bool true]) ∧ Grw w w')
    (D' : ∀ w, Calls Tryd.prog 24 #[.string d] w fun e w' => e = .returned (.tuple #[.int .i64 n, .bool true]) ∧ Grw w w')
    (_ : (1000000 : Int) < n)
    : Calls Tryd.prog 9 #[.string s] w fun e w' => e = .returned (.tuple #[.agg #[.int .i64 0, .int .u64 0], .int .i64 3]) ∧ Grw w w' := by
  have A := Lib.hid A'
  clear A'
  have B := Lib.hid B'
  clear B'
  have C := Lib.hid C'
  clear C'
  have D := Lib.hid D'
  clear D'
  go_enter Tryd.func9, Tryd.ntmps9
  go_wp2_with fail
  refine (A.out _).mono ?_
  rintro _ _ ⟨rfl, rfl⟩
  go_wp2_with fail
  refine (B.out _).mono ?_
  rintro _ _ ⟨rfl, rfl⟩
  go_wp2_with fail
  refine (C.out _).mono ?_
  rintro _ w2 ⟨rfl, hw2⟩
  go_wp2_with fail
  refine (D.out _).mono ?_
  rintro _ w3 ⟨rfl, hw3⟩
  have G := (Grw.trans hw2 hw3)
  clear hw2 hw3 A B C D
  have T := Two.grown G
  have c0 := T.c0
  have c1 := T.c1
  have f0 := T.f0
  have f1 := T.f1
  clear T
  go_wp2_with fail
  exact bodyPost_ret (v := .tuple #[.agg #[.int .i64 0, .int .u64 0], .int .i64 3]) (by simp [results, Tryd.results9, go_sem, c0, c1]) rfl ⟨rfl, G.two.set2 (Nat.le_refl _) _ _⟩

set_option maxHeartbeats 1000000 in
set_option maxRecDepth 100000 in
theorem cp_span (s t d r : ByteArray) (n v x : Nat) (b : Bool) (w : World)
    (A' : ∀ w, Calls Tryd.prog 21 #[.string s, .string ⟨#[82]⟩] w fun e w' => e = .returned (.tuple #[.string t, .bool true]) ∧ w = w')
    (B' : ∀ w, Calls Tryd.prog 22 #[.string t, .string ⟨#[47]⟩] w fun e w' => e = .returned (.bool false) ∧ w = w')
    (C' : ∀ w, Calls Tryd.prog 23 #[.string t, .string ⟨#[47]⟩] w fun e w' => e = .returned (.tuple #[.string d, .string r, .bool true]) ∧ Grw w w')
    (D' : ∀ w, Calls Tryd.prog 24 #[.string d] w fun e w' => e = .returned (.tuple #[.int .i64 n, .bool true]) ∧ Grw w w')
    (E' : ∀ w, Calls Tryd.prog 20 #[.string r] w fun e w' => e = .returned (.tuple #[.int .u64 v, .int .i64 x]) ∧ Grw w w')
    (_ : (n : Int) ≤ 1000000)
    (_ : ((x : Int) != 0) = true)
    : Calls Tryd.prog 9 #[.string s] w fun e w' => e = .returned (.tuple #[.agg #[.int .i64 0, .int .u64 0], .int .i64 x]) ∧ Grw w w' := by
  have A := Lib.hid A'
  clear A'
  have B := Lib.hid B'
  clear B'
  have C := Lib.hid C'
  clear C'
  have D := Lib.hid D'
  clear D'
  have E := Lib.hid E'
  clear E'
  go_enter Tryd.func9, Tryd.ntmps9
  go_wp2_with fail
  refine (A.out _).mono ?_
  rintro _ _ ⟨rfl, rfl⟩
  go_wp2_with fail
  refine (B.out _).mono ?_
  rintro _ _ ⟨rfl, rfl⟩
  go_wp2_with fail
  refine (C.out _).mono ?_
  rintro _ w2 ⟨rfl, hw2⟩
  go_wp2_with fail
  refine (D.out _).mono ?_
  rintro _ w3 ⟨rfl, hw3⟩
  go_wp2_with fail
  refine (E.out _).mono ?_
  rintro _ w4 ⟨rfl, hw4⟩
  have G := (Grw.trans (Grw.trans hw2 hw3) hw4)
  clear hw2 hw3 hw4 A B C D E
  have T := Two.grown G
  have c0 := T.c0
  have c1 := T.c1
  have f0 := T.f0
  have f1 := T.f1
  clear T
  go_wp2_with fail
  exact bodyPost_ret (v := .tuple #[.agg #[.int .i64 0, .int .u64 0], .int .i64 x]) (by simp [results, Tryd.results9, go_sem, c0, c1]) rfl ⟨rfl, G.two.set2 (Nat.le_refl _) _ _⟩

set_option maxHeartbeats 1000000 in
set_option maxRecDepth 100000 in
theorem cp_zero (s t d r : ByteArray) (n v x : Nat) (b : Bool) (w : World)
    (A' : ∀ w, Calls Tryd.prog 21 #[.string s, .string ⟨#[82]⟩] w fun e w' => e = .returned (.tuple #[.string t, .bool true]) ∧ w = w')
    (B' : ∀ w, Calls Tryd.prog 22 #[.string t, .string ⟨#[47]⟩] w fun e w' => e = .returned (.bool false) ∧ w = w')
    (C' : ∀ w, Calls Tryd.prog 23 #[.string t, .string ⟨#[47]⟩] w fun e w' => e = .returned (.tuple #[.string d, .string r, .bool true]) ∧ Grw w w')
    (D' : ∀ w, Calls Tryd.prog 24 #[.string d] w fun e w' => e = .returned (.tuple #[.int .i64 n, .bool true]) ∧ Grw w w')
    (E' : ∀ w, Calls Tryd.prog 20 #[.string r] w fun e w' => e = .returned (.tuple #[.int .u64 0, .int .i64 0]) ∧ Grw w w')
    (_ : (n : Int) ≤ 1000000)
    : Calls Tryd.prog 9 #[.string s] w fun e w' => e = .returned (.tuple #[.agg #[.int .i64 0, .int .u64 0], .int .i64 6]) ∧ Grw w w' := by
  have A := Lib.hid A'
  clear A'
  have B := Lib.hid B'
  clear B'
  have C := Lib.hid C'
  clear C'
  have D := Lib.hid D'
  clear D'
  have E := Lib.hid E'
  clear E'
  go_enter Tryd.func9, Tryd.ntmps9
  go_wp2_with fail
  refine (A.out _).mono ?_
  rintro _ _ ⟨rfl, rfl⟩
  go_wp2_with fail
  refine (B.out _).mono ?_
  rintro _ _ ⟨rfl, rfl⟩
  go_wp2_with fail
  refine (C.out _).mono ?_
  rintro _ w2 ⟨rfl, hw2⟩
  go_wp2_with fail
  refine (D.out _).mono ?_
  rintro _ w3 ⟨rfl, hw3⟩
  go_wp2_with fail
  refine (E.out _).mono ?_
  rintro _ w4 ⟨rfl, hw4⟩
  have G := (Grw.trans (Grw.trans hw2 hw3) hw4)
  clear hw2 hw3 hw4 A B C D E
  have T := Two.grown G
  have c0 := T.c0
  have c1 := T.c1
  have f0 := T.f0
  have f1 := T.f1
  clear T
  go_wp2_with fail
  exact bodyPost_ret (v := .tuple #[.agg #[.int .i64 0, .int .u64 0], .int .i64 6]) (by simp [results, Tryd.results9, go_sem, c0, c1]) rfl ⟨rfl, G.two.set2 (Nat.le_refl _) _ _⟩

set_option maxHeartbeats 1000000 in
set_option maxRecDepth 100000 in
theorem cp_ok (s t d r : ByteArray) (n v x : Nat) (b : Bool) (w : World)
    (A' : ∀ w, Calls Tryd.prog 21 #[.string s, .string ⟨#[82]⟩] w fun e w' => e = .returned (.tuple #[.string t, .bool true]) ∧ w = w')
    (B' : ∀ w, Calls Tryd.prog 22 #[.string t, .string ⟨#[47]⟩] w fun e w' => e = .returned (.bool false) ∧ w = w')
    (C' : ∀ w, Calls Tryd.prog 23 #[.string t, .string ⟨#[47]⟩] w fun e w' => e = .returned (.tuple #[.string d, .string r, .bool true]) ∧ Grw w w')
    (D' : ∀ w, Calls Tryd.prog 24 #[.string d] w fun e w' => e = .returned (.tuple #[.int .i64 n, .bool true]) ∧ Grw w w')
    (E' : ∀ w, Calls Tryd.prog 20 #[.string r] w fun e w' => e = .returned (.tuple #[.int .u64 v, .int .i64 0]) ∧ Grw w w')
    (_ : (n : Int) ≤ 1000000)
    (_ : ((v : Int) == 0) = false)
    : Calls Tryd.prog 9 #[.string s] w fun e w' => e = .returned (.tuple #[.agg #[.int .i64 n, .int .u64 v], .int .i64 0]) ∧ Grw w w' := by
  have A := Lib.hid A'
  clear A'
  have B := Lib.hid B'
  clear B'
  have C := Lib.hid C'
  clear C'
  have D := Lib.hid D'
  clear D'
  have E := Lib.hid E'
  clear E'
  go_enter Tryd.func9, Tryd.ntmps9
  go_wp2_with fail
  refine (A.out _).mono ?_
  rintro _ _ ⟨rfl, rfl⟩
  go_wp2_with fail
  refine (B.out _).mono ?_
  rintro _ _ ⟨rfl, rfl⟩
  go_wp2_with fail
  refine (C.out _).mono ?_
  rintro _ w2 ⟨rfl, hw2⟩
  go_wp2_with fail
  refine (D.out _).mono ?_
  rintro _ w3 ⟨rfl, hw3⟩
  go_wp2_with fail
  refine (E.out _).mono ?_
  rintro _ w4 ⟨rfl, hw4⟩
  have G := (Grw.trans (Grw.trans hw2 hw3) hw4)
  clear hw2 hw3 hw4 A B C D E
  have T := Two.grown G
  have c0 := T.c0
  have c1 := T.c1
  have f0 := T.f0
  have f1 := T.f1
  clear T
  go_wp2_with fail
  exact bodyPost_ret (v := .tuple #[.agg #[.int .i64 n, .int .u64 v], .int .i64 0]) (by simp [results, Tryd.results9, go_sem, c0, c1]) rfl ⟨rfl, G.two.set2 (Nat.le_refl _) _ _⟩

theorem ba_nil : (⟨#[]⟩ : ByteArray).data.toList = [] := rfl

theorem cparse_any (s : ByteArray) (w : World) (hs : s.size ≤ 9223372036854775807) :
    Calls Tryd.prog 9 #[.string s] w fun e w' => e = .returned (.tuple #[.agg #[.int .i64 (cyN s.data.toList), .int .u64 (cyV s.data.toList)], .int .i64 (cyE s.data.toList)]) ∧ Grw w w' := by
  by_cases hR : ∃ t, s.data.toList = 82 :: t
  · obtain ⟨t', ht'⟩ := hR
    obtain ⟨t, rfl⟩ := ba_of t'
    have hts : t.size ≤ s.size := by rw [size_len s, ht', size_len t]; simp
    have A := fun w => cut_yes s t 82 w ht'
    by_cases hS : ∃ r, t.data.toList = 47 :: r
    · obtain ⟨r, hr⟩ := hS
      have e : cyE s.data.toList = 5 := by rw [ht', hr]; rfl
      obtain ⟨e1, e2⟩ := cy_bad (l := s.data.toList) (by rw [e]; omega)
      rw [e, e1, e2]
      exact cp_endless s t t t 0 0 0 true w A (fun w => has_yes t 47 w ⟨r, hr⟩)
    · have B := fun w => has_no t 47 w hS
      have eT : cyE s.data.toList = cyT t.data.toList := by rw [ht', cyE_R hS]
      rcases htl : tl t.data.toList with _ | ⟨u, r'⟩
      · have e : cyE s.data.toList = 2 := by rw [eT, cyT_none htl]
        obtain ⟨e1, e2⟩ := cy_bad (l := s.data.toList) (by rw [e]; omega)
        rw [e, e1, e2]
        exact cp_noslash s t t t _ 0 0 _ w A B (fun w => scut_none t w (by omega) htl) (fun w => rounds_any t w (by omega))
      · have hu := tl_head _ _ _ htl
        subst hu
        obtain ⟨r, rfl⟩ := ba_of r'
        obtain ⟨d, hd'⟩ := ba_of (hd t.data.toList)
        have C := fun w => scut_some t d r w (by omega) htl hd'
        have hlen := congrArg List.length (hd_tl t.data.toList)
        rw [List.length_append, htl, List.length_cons, ← hd', ← size_len, ← size_len, ← size_len] at hlen
        have eT2 : cyE s.data.toList = if rndB d.data.toList then cyR (nval d.data.toList) r.data.toList else 2 := by rw [eT, cyT_some htl, hd']
        have D := fun w => rounds_any d w (by omega)
        rcases hb : rndB d.data.toList with _ | _
        · rw [hb] at eT2 D
          have e : cyE s.data.toList = 2 := by rw [eT2]; rfl
          obtain ⟨e1, e2⟩ := cy_bad (l := s.data.toList) (by rw [e]; omega)
          rw [e, e1, e2]
          exact cp_norounds s t d r _ 0 0 true w A B C D
        · rw [rnd_yes hb, hb] at D
          rw [hb, if_pos rfl] at eT2
          by_cases hn : 1000000 < nval d.data.toList
          · have e : cyE s.data.toList = 3 := by rw [eT2]; unfold cyR; rw [if_pos hn]
            obtain ⟨e1, e2⟩ := cy_bad (l := s.data.toList) (by rw [e]; omega)
            rw [e, e1, e2]
            exact cp_over s t d r _ 0 0 true w A B C D (by omega)
          · have P := fun w => parse_any r w (by omega)
            by_cases hp : pE r.data.toList = 0
            · rw [hp] at P
              by_cases hv : pV r.data.toList = 0
              · rw [hv] at P
                have e : cyE s.data.toList = 6 := by rw [eT2]; unfold cyR; rw [if_neg hn, if_neg (by simpa using hp), if_pos hv]
                obtain ⟨e1, e2⟩ := cy_bad (l := s.data.toList) (by rw [e]; omega)
                rw [e, e1, e2]
                exact cp_zero s t d r _ 0 0 true w A B C D P (by omega)
              · have e : cyE s.data.toList = 0 := by rw [eT2]; unfold cyR; rw [if_neg hn, if_neg (by simpa using hp), if_neg hv]
                have e12 := cy_ok (t := t.data.toList) (r := r.data.toList) htl (by rw [← ht']; exact e)
                rw [← ht', ← hd'] at e12
                rw [e, e12.1, e12.2]
                exact cp_ok s t d r _ _ 0 true w A B C D P (by omega) (by simp; omega)
            · have e : cyE s.data.toList = pE r.data.toList := by rw [eT2]; unfold cyR; rw [if_neg hn, if_pos hp]
              obtain ⟨e1, e2⟩ := cy_bad (l := s.data.toList) (by rw [e]; exact hp)
              rw [e, e1, e2]
              exact cp_span s t d r _ _ _ true w A B C D P (by omega) (by simp; omega)
  · have e := cyE_noR hR
    obtain ⟨e1, e2⟩ := cy_bad (l := s.data.toList) (by rw [e]; omega)
    rw [e, e1, e2]
    exact cp_noR s s s s 0 0 0 true w (fun w => cut_no s 82 w hR)
end Go.Proofs.YtcdfjheklggfhaaDoor
