/- The contract of the document's own Parse of cycles at this program. -/
import Derived.Test.YtcdfjheklggfhaaDoorXg
import Derived.Test.YtcdfjheklggfhaaDoorXe
import Derived.Test.YtcdfjheklggfhaaDoorWm
namespace Go.Proofs.YtcdfjheklggfhaaDoor
open Go.RowKit SM
set_option linter.unusedSimpArgs false
set_option linter.unusedVariables false

set_option maxHeartbeats 2000000 in
set_option maxRecDepth 100000 in
theorem rcp_empty (s : ByteArray) (w : World) (hs : s.size ≤ 9223372036854775807) (h : (s.size : Int) < 1) :
    Calls Tryd.prog 10 #[.string s] w fun e w' => e = .returned (.tuple #[.agg #[.int .i64 0, .int .u64 0], .int .i64 2]) ∧ Grw w w' := by
  go_enter Tryd.func10, Tryd.ntmps10
  go_wp2_with fail
  exact bodyPost_ret (v := .tuple #[.agg #[.int .i64 0, .int .u64 0], .int .i64 2]) (by simp [results, Tryd.results10, go_sem]) rfl ⟨rfl, ((Grw.rfl' _).alloc _).alloc _⟩

set_option maxHeartbeats 2000000 in
set_option maxRecDepth 100000 in
theorem rcp_noR (s : ByteArray) (w : World) (hs : s.size ≤ 9223372036854775807) (z : 1 ≤ s.size) (h : ¬ (s.size : Int) < 1) (h2 : ((s[0].toNat : Int) != 82) = true) :
    Calls Tryd.prog 10 #[.string s] w fun e w' => e = .returned (.tuple #[.agg #[.int .i64 0, .int .u64 0], .int .i64 2]) ∧ Grw w w' := by
  go_enter Tryd.func10, Tryd.ntmps10
  go_wp2_with fail
  exact bodyPost_ret (v := .tuple #[.agg #[.int .i64 0, .int .u64 0], .int .i64 2]) (by simp [results, Tryd.results10, go_sem]) rfl ⟨rfl, ((Grw.rfl' _).alloc _).alloc _⟩

set_option maxHeartbeats 2000000 in
set_option maxRecDepth 100000 in
theorem rcp_endless (s : ByteArray) (w : World) (hs : s.size ≤ 9223372036854775807) (z : 1 ≤ s.size) (z2 : 2 ≤ s.size) (h : ¬ (s.size : Int) < 1) (h2 : ((s[0].toNat : Int) != 82) = false) (h3 : (1 : Int) < s.size) (h4 : ((s[1].toNat : Int) == 47) = true) :
    Calls Tryd.prog 10 #[.string s] w fun e w' => e = .returned (.tuple #[.agg #[.int .i64 0, .int .u64 0], .int .i64 5]) ∧ Grw w w' := by
  go_enter Tryd.func10, Tryd.ntmps10
  go_wp2_with fail
  exact bodyPost_ret (v := .tuple #[.agg #[.int .i64 0, .int .u64 0], .int .i64 5]) (by simp [results, Tryd.results10, go_sem]) rfl ⟨rfl, ((Grw.rfl' _).alloc _).alloc _⟩

set_option maxHeartbeats 2000000 in
set_option maxRecDepth 100000 in
theorem rcp_bare (s r : ByteArray) (K n v x : Nat) (nv : Nat → Nat) (w : World) (hs : s.size ≤ 9223372036854775807) (z : 1 ≤ s.size) (h1 : ¬ (s.size : Int) < 1) (h2 : ((s[0].toNat : Int) != 82) = false)
    (k1 : 1 ≤ K) (k2 : K ≤ s.size) (D' : ∀ i, 1 ≤ i → i < K → (c : i < s.size) → 48 ≤ s[i].toNat ∧ s[i].toNat ≤ 57) (N1 : nv 1 = 0)
    (NS' : ∀ i, 1 ≤ i → i < 9 → (c : i < s.size) → nv (i + 1) = 10 * nv i + (s[i].toNat - 48)) (NK' : ∀ i, 9 ≤ i → nv (i + 1) = nv i) (NB' : ∀ i, 1 ≤ i → i ≤ K → nv i < 100000000)
    (h3 : ¬ (1 : Int) < s.size) (e1 : K = 1) (e2 : ¬ K < s.size) :
    Calls Tryd.prog 10 #[.string s] w fun e w' => e = .returned (.tuple #[.agg #[.int .i64 0, .int .u64 0], .int .i64 2]) ∧ Grw w w' := by
  have D := Lib.hid D'
  have NS := Lib.hid NS'
  have NK := Lib.hid NK'
  have NB := Lib.hid NB'
  clear D' NS' NK' NB'
  go_enter Tryd.func10, Tryd.ntmps10
  go_wp2_with fail
  go_loop [5, 6] (fun a b => ∃ i : Nat, 1 ≤ i ∧ i ≤ K ∧ a = .int .i64 i ∧ b = .int .i64 (nv i)) (fun a _ => K - (intOf a).toNat)
  case atStart => exact ⟨1, Nat.le_refl _, k1, rfl, by rw [N1]; rfl⟩
  case round =>
    obtain ⟨i, i1, i2, rfl, rfl⟩ := hrel
    by_cases hlt : i < K
    · have y3 : i < s.size := by omega
      obtain ⟨d1, d2⟩ := D.out i i1 hlt y3
      have y2 := NB.out i i1 (by omega)
      have y4 : (48 : Int) ≤ s[i].toNat := by omega
      have y5 : (s[i].toNat : Int) ≤ 57 := by omega
      by_cases h9 : (i : Int) < 9
      · have y1 := NS.out i i1 (by omega) y3
        obtain ⟨u, hu⟩ : ∃ u, nv i = u := ⟨_, rfl⟩
        rw [hu] at y1 y2 ⊢
        have Y := Lib.hid y1
        clear y1 hu NS NK NB D
        go_wp2_with fail
        go_round
        case rel => exact ⟨i + 1, by omega, by omega, by go_num, by rw [Y.out]; exact int_eq (by omega)⟩
        case measure => simp [intOf]; omega
      · have Y := Lib.hid (NK.out i (by omega))
        obtain ⟨u, hu⟩ : ∃ u, nv i = u := ⟨_, rfl⟩
        rw [hu] at Y y2 ⊢
        clear hu NS NK NB D
        go_wp2_with fail
        go_round
        case rel => exact ⟨i + 1, by omega, by omega, by go_num, by rw [Y.out]⟩
        case measure => simp [intOf]; omega
    · obtain rfl : i = K := by omega
      have y2 := NB.out i i1 (by omega)
      clear NS NK NB D hlt
      generalize nv i = u at *
      go_wp2_with fail
      exact bodyPost_ret (v := .tuple #[.agg #[.int .i64 0, .int .u64 0], .int .i64 2]) (by simp [results, Tryd.results10, go_sem]) rfl ⟨rfl, ((Grw.rfl' _).alloc _).alloc _⟩

set_option maxHeartbeats 2000000 in
set_option maxRecDepth 100000 in
theorem rcp_nodigit (s r : ByteArray) (K n v x : Nat) (nv : Nat → Nat) (w : World) (hs : s.size ≤ 9223372036854775807) (z : 1 ≤ s.size) (h1 : ¬ (s.size : Int) < 1) (h2 : ((s[0].toNat : Int) != 82) = false)
    (k1 : 1 ≤ K) (k2 : K ≤ s.size) (D' : ∀ i, 1 ≤ i → i < K → (c : i < s.size) → 48 ≤ s[i].toNat ∧ s[i].toNat ≤ 57) (N1 : nv 1 = 0)
    (NS' : ∀ i, 1 ≤ i → i < 9 → (c : i < s.size) → nv (i + 1) = 10 * nv i + (s[i].toNat - 48)) (NK' : ∀ i, 9 ≤ i → nv (i + 1) = nv i) (NB' : ∀ i, 1 ≤ i → i ≤ K → nv i < 100000000)
    (z2 : 2 ≤ s.size) (h3 : (1 : Int) < s.size) (h4 : ((s[1].toNat : Int) == 47) = false) (e1 : K = 1) (hor : ¬ (48 : Int) ≤ s[1].toNat ∨ ((48 : Int) ≤ s[1].toNat ∧ ¬ (s[1].toNat : Int) ≤ 57)) :
    Calls Tryd.prog 10 #[.string s] w fun e w' => e = .returned (.tuple #[.agg #[.int .i64 0, .int .u64 0], .int .i64 2]) ∧ Grw w w' := by
  have D := Lib.hid D'
  have NS := Lib.hid NS'
  have NK := Lib.hid NK'
  have NB := Lib.hid NB'
  clear D' NS' NK' NB'
  go_enter Tryd.func10, Tryd.ntmps10
  go_wp2_with fail
  go_loop [5, 6] (fun a b => ∃ i : Nat, 1 ≤ i ∧ i ≤ K ∧ a = .int .i64 i ∧ b = .int .i64 (nv i)) (fun a _ => K - (intOf a).toNat)
  case atStart => exact ⟨1, Nat.le_refl _, k1, rfl, by rw [N1]; rfl⟩
  case round =>
    obtain ⟨i, i1, i2, rfl, rfl⟩ := hrel
    by_cases hlt : i < K
    · have y3 : i < s.size := by omega
      obtain ⟨d1, d2⟩ := D.out i i1 hlt y3
      have y2 := NB.out i i1 (by omega)
      have y4 : (48 : Int) ≤ s[i].toNat := by omega
      have y5 : (s[i].toNat : Int) ≤ 57 := by omega
      by_cases h9 : (i : Int) < 9
      · have y1 := NS.out i i1 (by omega) y3
        obtain ⟨u, hu⟩ : ∃ u, nv i = u := ⟨_, rfl⟩
        rw [hu] at y1 y2 ⊢
        have Y := Lib.hid y1
        clear y1 hu NS NK NB D
        go_wp2_with fail
        go_round
        case rel => exact ⟨i + 1, by omega, by omega, by go_num, by rw [Y.out]; exact int_eq (by omega)⟩
        case measure => simp [intOf]; omega
      · have Y := Lib.hid (NK.out i (by omega))
        obtain ⟨u, hu⟩ : ∃ u, nv i = u := ⟨_, rfl⟩
        rw [hu] at Y y2 ⊢
        clear hu NS NK NB D
        go_wp2_with fail
        go_round
        case rel => exact ⟨i + 1, by omega, by omega, by go_num, by rw [Y.out]⟩
        case measure => simp [intOf]; omega
    · obtain rfl : i = K := by omega
      have y2 := NB.out i i1 (by omega)
      clear NS NK NB D hlt
      generalize nv i = u at *
      subst e1
      rcases hor with c' | ⟨c1, c2⟩
      all_goals
        go_wp2_with fail
        exact bodyPost_ret (v := .tuple #[.agg #[.int .i64 0, .int .u64 0], .int .i64 2]) (by simp [results, Tryd.results10, go_sem]) rfl ⟨rfl, ((Grw.rfl' _).alloc _).alloc _⟩

set_option maxHeartbeats 2000000 in
set_option maxRecDepth 100000 in
theorem rcp_many (s r : ByteArray) (K n v x : Nat) (nv : Nat → Nat) (w : World) (hs : s.size ≤ 9223372036854775807) (z : 1 ≤ s.size) (h1 : ¬ (s.size : Int) < 1) (h2 : ((s[0].toNat : Int) != 82) = false)
    (k1 : 1 ≤ K) (k2 : K ≤ s.size) (D' : ∀ i, 1 ≤ i → i < K → (c : i < s.size) → 48 ≤ s[i].toNat ∧ s[i].toNat ≤ 57) (N1 : nv 1 = 0)
    (NS' : ∀ i, 1 ≤ i → i < 9 → (c : i < s.size) → nv (i + 1) = 10 * nv i + (s[i].toNat - 48)) (NK' : ∀ i, 9 ≤ i → nv (i + 1) = nv i) (NB' : ∀ i, 1 ≤ i → i ≤ K → nv i < 100000000)
    (z2 : 2 ≤ s.size) (h3 : (1 : Int) < s.size) (h4 : ((s[1].toNat : Int) == 47) = false) (e1 : ((K : Int) == 1) = false) (e2 : (8 : Int) < K) (hor : ¬ K < s.size ∨ ∃ c : K < s.size, ¬ (48 : Int) ≤ s[K].toNat ∨ ((48 : Int) ≤ s[K].toNat ∧ ¬ (s[K].toNat : Int) ≤ 57)) :
    Calls Tryd.prog 10 #[.string s] w fun e w' => e = .returned (.tuple #[.agg #[.int .i64 0, .int .u64 0], .int .i64 2]) ∧ Grw w w' := by
  have D := Lib.hid D'
  have NS := Lib.hid NS'
  have NK := Lib.hid NK'
  have NB := Lib.hid NB'
  clear D' NS' NK' NB'
  go_enter Tryd.func10, Tryd.ntmps10
  go_wp2_with fail
  go_loop [5, 6] (fun a b => ∃ i : Nat, 1 ≤ i ∧ i ≤ K ∧ a = .int .i64 i ∧ b = .int .i64 (nv i)) (fun a _ => K - (intOf a).toNat)
  case atStart => exact ⟨1, Nat.le_refl _, k1, rfl, by rw [N1]; rfl⟩
  case round =>
    obtain ⟨i, i1, i2, rfl, rfl⟩ := hrel
    by_cases hlt : i < K
    · have y3 : i < s.size := by omega
      obtain ⟨d1, d2⟩ := D.out i i1 hlt y3
      have y2 := NB.out i i1 (by omega)
      have y4 : (48 : Int) ≤ s[i].toNat := by omega
      have y5 : (s[i].toNat : Int) ≤ 57 := by omega
      by_cases h9 : (i : Int) < 9
      · have y1 := NS.out i i1 (by omega) y3
        obtain ⟨u, hu⟩ : ∃ u, nv i = u := ⟨_, rfl⟩
        rw [hu] at y1 y2 ⊢
        have Y := Lib.hid y1
        clear y1 hu NS NK NB D
        go_wp2_with fail
        go_round
        case rel => exact ⟨i + 1, by omega, by omega, by go_num, by rw [Y.out]; exact int_eq (by omega)⟩
        case measure => simp [intOf]; omega
      · have Y := Lib.hid (NK.out i (by omega))
        obtain ⟨u, hu⟩ : ∃ u, nv i = u := ⟨_, rfl⟩
        rw [hu] at Y y2 ⊢
        clear hu NS NK NB D
        go_wp2_with fail
        go_round
        case rel => exact ⟨i + 1, by omega, by omega, by go_num, by rw [Y.out]⟩
        case measure => simp [intOf]; omega
    · obtain rfl : i = K := by omega
      have y2 := NB.out i i1 (by omega)
      clear NS NK NB D hlt
      generalize nv i = u at *
      rcases hor with c | ⟨c, c' | ⟨c1, c2⟩⟩
      all_goals
        go_wp2_with fail
        exact bodyPost_ret (v := .tuple #[.agg #[.int .i64 0, .int .u64 0], .int .i64 2]) (by simp [results, Tryd.results10, go_sem]) rfl ⟨rfl, ((Grw.rfl' _).alloc _).alloc _⟩

set_option maxHeartbeats 2000000 in
set_option maxRecDepth 100000 in
theorem rcp_nought (s r : ByteArray) (K n v x : Nat) (nv : Nat → Nat) (w : World) (hs : s.size ≤ 9223372036854775807) (z : 1 ≤ s.size) (h1 : ¬ (s.size : Int) < 1) (h2 : ((s[0].toNat : Int) != 82) = false)
    (k1 : 1 ≤ K) (k2 : K ≤ s.size) (D' : ∀ i, 1 ≤ i → i < K → (c : i < s.size) → 48 ≤ s[i].toNat ∧ s[i].toNat ≤ 57) (N1 : nv 1 = 0)
    (NS' : ∀ i, 1 ≤ i → i < 9 → (c : i < s.size) → nv (i + 1) = 10 * nv i + (s[i].toNat - 48)) (NK' : ∀ i, 9 ≤ i → nv (i + 1) = nv i) (NB' : ∀ i, 1 ≤ i → i ≤ K → nv i < 100000000)
    (z2 : 2 ≤ s.size) (h3 : (1 : Int) < s.size) (h4 : ((s[1].toNat : Int) == 47) = false) (e1 : ((K : Int) == 1) = false) (e2 : ¬ (8 : Int) < K) (e3 : ((s[1].toNat : Int) == 48) = true) (hor : ¬ K < s.size ∨ ∃ c : K < s.size, ¬ (48 : Int) ≤ s[K].toNat ∨ ((48 : Int) ≤ s[K].toNat ∧ ¬ (s[K].toNat : Int) ≤ 57)) :
    Calls Tryd.prog 10 #[.string s] w fun e w' => e = .returned (.tuple #[.agg #[.int .i64 0, .int .u64 0], .int .i64 2]) ∧ Grw w w' := by
  have D := Lib.hid D'
  have NS := Lib.hid NS'
  have NK := Lib.hid NK'
  have NB := Lib.hid NB'
  clear D' NS' NK' NB'
  go_enter Tryd.func10, Tryd.ntmps10
  go_wp2_with fail
  go_loop [5, 6] (fun a b => ∃ i : Nat, 1 ≤ i ∧ i ≤ K ∧ a = .int .i64 i ∧ b = .int .i64 (nv i)) (fun a _ => K - (intOf a).toNat)
  case atStart => exact ⟨1, Nat.le_refl _, k1, rfl, by rw [N1]; rfl⟩
  case round =>
    obtain ⟨i, i1, i2, rfl, rfl⟩ := hrel
    by_cases hlt : i < K
    · have y3 : i < s.size := by omega
      obtain ⟨d1, d2⟩ := D.out i i1 hlt y3
      have y2 := NB.out i i1 (by omega)
      have y4 : (48 : Int) ≤ s[i].toNat := by omega
      have y5 : (s[i].toNat : Int) ≤ 57 := by omega
      by_cases h9 : (i : Int) < 9
      · have y1 := NS.out i i1 (by omega) y3
        obtain ⟨u, hu⟩ : ∃ u, nv i = u := ⟨_, rfl⟩
        rw [hu] at y1 y2 ⊢
        have Y := Lib.hid y1
        clear y1 hu NS NK NB D
        go_wp2_with fail
        go_round
        case rel => exact ⟨i + 1, by omega, by omega, by go_num, by rw [Y.out]; exact int_eq (by omega)⟩
        case measure => simp [intOf]; omega
      · have Y := Lib.hid (NK.out i (by omega))
        obtain ⟨u, hu⟩ : ∃ u, nv i = u := ⟨_, rfl⟩
        rw [hu] at Y y2 ⊢
        clear hu NS NK NB D
        go_wp2_with fail
        go_round
        case rel => exact ⟨i + 1, by omega, by omega, by go_num, by rw [Y.out]⟩
        case measure => simp [intOf]; omega
    · obtain rfl : i = K := by omega
      have y2 := NB.out i i1 (by omega)
      clear NS NK NB D hlt
      generalize nv i = u at *
      rcases hor with c | ⟨c, c' | ⟨c1, c2⟩⟩
      all_goals
        go_wp2_with fail
        exact bodyPost_ret (v := .tuple #[.agg #[.int .i64 0, .int .u64 0], .int .i64 2]) (by simp [results, Tryd.results10, go_sem]) rfl ⟨rfl, ((Grw.rfl' _).alloc _).alloc _⟩

set_option maxHeartbeats 2000000 in
set_option maxRecDepth 100000 in
theorem rcp_end (s r : ByteArray) (K n v x : Nat) (nv : Nat → Nat) (w : World) (hs : s.size ≤ 9223372036854775807) (z : 1 ≤ s.size) (h1 : ¬ (s.size : Int) < 1) (h2 : ((s[0].toNat : Int) != 82) = false)
    (k1 : 1 ≤ K) (k2 : K ≤ s.size) (D' : ∀ i, 1 ≤ i → i < K → (c : i < s.size) → 48 ≤ s[i].toNat ∧ s[i].toNat ≤ 57) (N1 : nv 1 = 0)
    (NS' : ∀ i, 1 ≤ i → i < 9 → (c : i < s.size) → nv (i + 1) = 10 * nv i + (s[i].toNat - 48)) (NK' : ∀ i, 9 ≤ i → nv (i + 1) = nv i) (NB' : ∀ i, 1 ≤ i → i ≤ K → nv i < 100000000)
    (z2 : 2 ≤ s.size) (h3 : (1 : Int) < s.size) (h4 : ((s[1].toNat : Int) == 47) = false) (e1 : ((K : Int) == 1) = false) (e2 : ¬ (8 : Int) < K) (e3 : ((s[1].toNat : Int) == 48) = false) (e4 : ((K : Int) == s.size) = true) (c : ¬ K < s.size) :
    Calls Tryd.prog 10 #[.string s] w fun e w' => e = .returned (.tuple #[.agg #[.int .i64 0, .int .u64 0], .int .i64 2]) ∧ Grw w w' := by
  have D := Lib.hid D'
  have NS := Lib.hid NS'
  have NK := Lib.hid NK'
  have NB := Lib.hid NB'
  clear D' NS' NK' NB'
  go_enter Tryd.func10, Tryd.ntmps10
  go_wp2_with fail
  go_loop [5, 6] (fun a b => ∃ i : Nat, 1 ≤ i ∧ i ≤ K ∧ a = .int .i64 i ∧ b = .int .i64 (nv i)) (fun a _ => K - (intOf a).toNat)
  case atStart => exact ⟨1, Nat.le_refl _, k1, rfl, by rw [N1]; rfl⟩
  case round =>
    obtain ⟨i, i1, i2, rfl, rfl⟩ := hrel
    by_cases hlt : i < K
    · have y3 : i < s.size := by omega
      obtain ⟨d1, d2⟩ := D.out i i1 hlt y3
      have y2 := NB.out i i1 (by omega)
      have y4 : (48 : Int) ≤ s[i].toNat := by omega
      have y5 : (s[i].toNat : Int) ≤ 57 := by omega
      by_cases h9 : (i : Int) < 9
      · have y1 := NS.out i i1 (by omega) y3
        obtain ⟨u, hu⟩ : ∃ u, nv i = u := ⟨_, rfl⟩
        rw [hu] at y1 y2 ⊢
        have Y := Lib.hid y1
        clear y1 hu NS NK NB D
        go_wp2_with fail
        go_round
        case rel => exact ⟨i + 1, by omega, by omega, by go_num, by rw [Y.out]; exact int_eq (by omega)⟩
        case measure => simp [intOf]; omega
      · have Y := Lib.hid (NK.out i (by omega))
        obtain ⟨u, hu⟩ : ∃ u, nv i = u := ⟨_, rfl⟩
        rw [hu] at Y y2 ⊢
        clear hu NS NK NB D
        go_wp2_with fail
        go_round
        case rel => exact ⟨i + 1, by omega, by omega, by go_num, by rw [Y.out]⟩
        case measure => simp [intOf]; omega
    · obtain rfl : i = K := by omega
      have y2 := NB.out i i1 (by omega)
      clear NS NK NB D hlt
      generalize nv i = u at *
      go_wp2_with fail
      exact bodyPost_ret (v := .tuple #[.agg #[.int .i64 0, .int .u64 0], .int .i64 2]) (by simp [results, Tryd.results10, go_sem]) rfl ⟨rfl, ((Grw.rfl' _).alloc _).alloc _⟩

set_option maxHeartbeats 2000000 in
set_option maxRecDepth 100000 in
theorem rcp_low (s r : ByteArray) (K n v x : Nat) (nv : Nat → Nat) (w : World) (hs : s.size ≤ 9223372036854775807) (z : 1 ≤ s.size) (h1 : ¬ (s.size : Int) < 1) (h2 : ((s[0].toNat : Int) != 82) = false)
    (k1 : 1 ≤ K) (k2 : K ≤ s.size) (D' : ∀ i, 1 ≤ i → i < K → (c : i < s.size) → 48 ≤ s[i].toNat ∧ s[i].toNat ≤ 57) (N1 : nv 1 = 0)
    (NS' : ∀ i, 1 ≤ i → i < 9 → (c : i < s.size) → nv (i + 1) = 10 * nv i + (s[i].toNat - 48)) (NK' : ∀ i, 9 ≤ i → nv (i + 1) = nv i) (NB' : ∀ i, 1 ≤ i → i ≤ K → nv i < 100000000)
    (z2 : 2 ≤ s.size) (h3 : (1 : Int) < s.size) (h4 : ((s[1].toNat : Int) == 47) = false) (e1 : ((K : Int) == 1) = false) (e2 : ¬ (8 : Int) < K) (e3 : ((s[1].toNat : Int) == 48) = false) (e4 : ((K : Int) == s.size) = false) (c : K < s.size) (c1 : ¬ (48 : Int) ≤ s[K].toNat) (e5 : ((s[K].toNat : Int) != 47) = true) :
    Calls Tryd.prog 10 #[.string s] w fun e w' => e = .returned (.tuple #[.agg #[.int .i64 0, .int .u64 0], .int .i64 2]) ∧ Grw w w' := by
  have D := Lib.hid D'
  have NS := Lib.hid NS'
  have NK := Lib.hid NK'
  have NB := Lib.hid NB'
  clear D' NS' NK' NB'
  go_enter Tryd.func10, Tryd.ntmps10
  go_wp2_with fail
  go_loop [5, 6] (fun a b => ∃ i : Nat, 1 ≤ i ∧ i ≤ K ∧ a = .int .i64 i ∧ b = .int .i64 (nv i)) (fun a _ => K - (intOf a).toNat)
  case atStart => exact ⟨1, Nat.le_refl _, k1, rfl, by rw [N1]; rfl⟩
  case round =>
    obtain ⟨i, i1, i2, rfl, rfl⟩ := hrel
    by_cases hlt : i < K
    · have y3 : i < s.size := by omega
      obtain ⟨d1, d2⟩ := D.out i i1 hlt y3
      have y2 := NB.out i i1 (by omega)
      have y4 : (48 : Int) ≤ s[i].toNat := by omega
      have y5 : (s[i].toNat : Int) ≤ 57 := by omega
      by_cases h9 : (i : Int) < 9
      · have y1 := NS.out i i1 (by omega) y3
        obtain ⟨u, hu⟩ : ∃ u, nv i = u := ⟨_, rfl⟩
        rw [hu] at y1 y2 ⊢
        have Y := Lib.hid y1
        clear y1 hu NS NK NB D
        go_wp2_with fail
        go_round
        case rel => exact ⟨i + 1, by omega, by omega, by go_num, by rw [Y.out]; exact int_eq (by omega)⟩
        case measure => simp [intOf]; omega
      · have Y := Lib.hid (NK.out i (by omega))
        obtain ⟨u, hu⟩ : ∃ u, nv i = u := ⟨_, rfl⟩
        rw [hu] at Y y2 ⊢
        clear hu NS NK NB D
        go_wp2_with fail
        go_round
        case rel => exact ⟨i + 1, by omega, by omega, by go_num, by rw [Y.out]⟩
        case measure => simp [intOf]; omega
    · obtain rfl : i = K := by omega
      have y2 := NB.out i i1 (by omega)
      clear NS NK NB D hlt
      generalize nv i = u at *
      go_wp2_with fail
      exact bodyPost_ret (v := .tuple #[.agg #[.int .i64 0, .int .u64 0], .int .i64 2]) (by simp [results, Tryd.results10, go_sem]) rfl ⟨rfl, ((Grw.rfl' _).alloc _).alloc _⟩

set_option maxHeartbeats 2000000 in
set_option maxRecDepth 100000 in
theorem rcp_high (s r : ByteArray) (K n v x : Nat) (nv : Nat → Nat) (w : World) (hs : s.size ≤ 9223372036854775807) (z : 1 ≤ s.size) (h1 : ¬ (s.size : Int) < 1) (h2 : ((s[0].toNat : Int) != 82) = false)
    (k1 : 1 ≤ K) (k2 : K ≤ s.size) (D' : ∀ i, 1 ≤ i → i < K → (c : i < s.size) → 48 ≤ s[i].toNat ∧ s[i].toNat ≤ 57) (N1 : nv 1 = 0)
    (NS' : ∀ i, 1 ≤ i → i < 9 → (c : i < s.size) → nv (i + 1) = 10 * nv i + (s[i].toNat - 48)) (NK' : ∀ i, 9 ≤ i → nv (i + 1) = nv i) (NB' : ∀ i, 1 ≤ i → i ≤ K → nv i < 100000000)
    (z2 : 2 ≤ s.size) (h3 : (1 : Int) < s.size) (h4 : ((s[1].toNat : Int) == 47) = false) (e1 : ((K : Int) == 1) = false) (e2 : ¬ (8 : Int) < K) (e3 : ((s[1].toNat : Int) == 48) = false) (e4 : ((K : Int) == s.size) = false) (c : K < s.size) (c1 : (48 : Int) ≤ s[K].toNat) (c2 : ¬ (s[K].toNat : Int) ≤ 57) (e5 : ((s[K].toNat : Int) != 47) = true) :
    Calls Tryd.prog 10 #[.string s] w fun e w' => e = .returned (.tuple #[.agg #[.int .i64 0, .int .u64 0], .int .i64 2]) ∧ Grw w w' := by
  have D := Lib.hid D'
  have NS := Lib.hid NS'
  have NK := Lib.hid NK'
  have NB := Lib.hid NB'
  clear D' NS' NK' NB'
  go_enter Tryd.func10, Tryd.ntmps10
  go_wp2_with fail
  go_loop [5, 6] (fun a b => ∃ i : Nat, 1 ≤ i ∧ i ≤ K ∧ a = .int .i64 i ∧ b = .int .i64 (nv i)) (fun a _ => K - (intOf a).toNat)
  case atStart => exact ⟨1, Nat.le_refl _, k1, rfl, by rw [N1]; rfl⟩
  case round =>
    obtain ⟨i, i1, i2, rfl, rfl⟩ := hrel
    by_cases hlt : i < K
    · have y3 : i < s.size := by omega
      obtain ⟨d1, d2⟩ := D.out i i1 hlt y3
      have y2 := NB.out i i1 (by omega)
      have y4 : (48 : Int) ≤ s[i].toNat := by omega
      have y5 : (s[i].toNat : Int) ≤ 57 := by omega
      by_cases h9 : (i : Int) < 9
      · have y1 := NS.out i i1 (by omega) y3
        obtain ⟨u, hu⟩ : ∃ u, nv i = u := ⟨_, rfl⟩
        rw [hu] at y1 y2 ⊢
        have Y := Lib.hid y1
        clear y1 hu NS NK NB D
        go_wp2_with fail
        go_round
        case rel => exact ⟨i + 1, by omega, by omega, by go_num, by rw [Y.out]; exact int_eq (by omega)⟩
        case measure => simp [intOf]; omega
      · have Y := Lib.hid (NK.out i (by omega))
        obtain ⟨u, hu⟩ : ∃ u, nv i = u := ⟨_, rfl⟩
        rw [hu] at Y y2 ⊢
        clear hu NS NK NB D
        go_wp2_with fail
        go_round
        case rel => exact ⟨i + 1, by omega, by omega, by go_num, by rw [Y.out]⟩
        case measure => simp [intOf]; omega
    · obtain rfl : i = K := by omega
      have y2 := NB.out i i1 (by omega)
      clear NS NK NB D hlt
      generalize nv i = u at *
      go_wp2_with fail
      exact bodyPost_ret (v := .tuple #[.agg #[.int .i64 0, .int .u64 0], .int .i64 2]) (by simp [results, Tryd.results10, go_sem]) rfl ⟨rfl, ((Grw.rfl' _).alloc _).alloc _⟩

set_option maxHeartbeats 2000000 in
set_option maxRecDepth 100000 in
theorem rcp_over (s r : ByteArray) (K n v x : Nat) (nv : Nat → Nat) (w : World) (hs : s.size ≤ 9223372036854775807) (z : 1 ≤ s.size) (h1 : ¬ (s.size : Int) < 1) (h2 : ((s[0].toNat : Int) != 82) = false)
    (k1 : 1 ≤ K) (k2 : K ≤ s.size) (D' : ∀ i, 1 ≤ i → i < K → (c : i < s.size) → 48 ≤ s[i].toNat ∧ s[i].toNat ≤ 57) (N1 : nv 1 = 0)
    (NS' : ∀ i, 1 ≤ i → i < 9 → (c : i < s.size) → nv (i + 1) = 10 * nv i + (s[i].toNat - 48)) (NK' : ∀ i, 9 ≤ i → nv (i + 1) = nv i) (NB' : ∀ i, 1 ≤ i → i ≤ K → nv i < 100000000)
    (z2 : 2 ≤ s.size) (h3 : (1 : Int) < s.size) (h4 : ((s[1].toNat : Int) == 47) = false) (e1 : ((K : Int) == 1) = false) (e2 : ¬ (8 : Int) < K) (e3 : ((s[1].toNat : Int) == 48) = false) (e4 : ((K : Int) == s.size) = false) (c : K < s.size) (c0 : (s[K].toNat : Int) = 47) (c1 : ¬ (48 : Int) ≤ s[K].toNat) (e5 : ((s[K].toNat : Int) != 47) = false) (hn : nv K = n) (hb : (1000000 : Int) < n) :
    Calls Tryd.prog 10 #[.string s] w fun e w' => e = .returned (.tuple #[.agg #[.int .i64 0, .int .u64 0], .int .i64 3]) ∧ Grw w w' := by
  have D := Lib.hid D'
  have NS := Lib.hid NS'
  have NK := Lib.hid NK'
  have NB := Lib.hid NB'
  clear D' NS' NK' NB'
  go_enter Tryd.func10, Tryd.ntmps10
  go_wp2_with fail
  go_loop [5, 6] (fun a b => ∃ i : Nat, 1 ≤ i ∧ i ≤ K ∧ a = .int .i64 i ∧ b = .int .i64 (nv i)) (fun a _ => K - (intOf a).toNat)
  case atStart => exact ⟨1, Nat.le_refl _, k1, rfl, by rw [N1]; rfl⟩
  case round =>
    obtain ⟨i, i1, i2, rfl, rfl⟩ := hrel
    by_cases hlt : i < K
    · have y3 : i < s.size := by omega
      obtain ⟨d1, d2⟩ := D.out i i1 hlt y3
      have y2 := NB.out i i1 (by omega)
      have y4 : (48 : Int) ≤ s[i].toNat := by omega
      have y5 : (s[i].toNat : Int) ≤ 57 := by omega
      by_cases h9 : (i : Int) < 9
      · have y1 := NS.out i i1 (by omega) y3
        obtain ⟨u, hu⟩ : ∃ u, nv i = u := ⟨_, rfl⟩
        rw [hu] at y1 y2 ⊢
        have Y := Lib.hid y1
        clear y1 hu NS NK NB D
        go_wp2_with fail
        go_round
        case rel => exact ⟨i + 1, by omega, by omega, by go_num, by rw [Y.out]; exact int_eq (by omega)⟩
        case measure => simp [intOf]; omega
      · have Y := Lib.hid (NK.out i (by omega))
        obtain ⟨u, hu⟩ : ∃ u, nv i = u := ⟨_, rfl⟩
        rw [hu] at Y y2 ⊢
        clear hu NS NK NB D
        go_wp2_with fail
        go_round
        case rel => exact ⟨i + 1, by omega, by omega, by go_num, by rw [Y.out]⟩
        case measure => simp [intOf]; omega
    · obtain rfl : i = K := by omega
      have y2 := NB.out i i1 (by omega)
      clear NS NK NB D hlt
      rw [hn]
      clear hn
      go_wp2_with fail
      exact bodyPost_ret (v := .tuple #[.agg #[.int .i64 0, .int .u64 0], .int .i64 3]) (by simp [results, Tryd.results10, go_sem]) rfl ⟨rfl, ((Grw.rfl' _).alloc _).alloc _⟩

set_option maxHeartbeats 2000000 in
set_option maxRecDepth 100000 in
theorem rcp_span (s r : ByteArray) (K n v x : Nat) (nv : Nat → Nat) (w : World) (hs : s.size ≤ 9223372036854775807) (z : 1 ≤ s.size) (h1 : ¬ (s.size : Int) < 1) (h2 : ((s[0].toNat : Int) != 82) = false)
    (k1 : 1 ≤ K) (k2 : K ≤ s.size) (D' : ∀ i, 1 ≤ i → i < K → (c : i < s.size) → 48 ≤ s[i].toNat ∧ s[i].toNat ≤ 57) (N1 : nv 1 = 0)
    (NS' : ∀ i, 1 ≤ i → i < 9 → (c : i < s.size) → nv (i + 1) = 10 * nv i + (s[i].toNat - 48)) (NK' : ∀ i, 9 ≤ i → nv (i + 1) = nv i) (NB' : ∀ i, 1 ≤ i → i ≤ K → nv i < 100000000)
    (z2 : 2 ≤ s.size) (h3 : (1 : Int) < s.size) (h4 : ((s[1].toNat : Int) == 47) = false) (e1 : ((K : Int) == 1) = false) (e2 : ¬ (8 : Int) < K) (e3 : ((s[1].toNat : Int) == 48) = false) (e4 : ((K : Int) == s.size) = false) (c : K < s.size) (c0 : (s[K].toNat : Int) = 47) (c1 : ¬ (48 : Int) ≤ s[K].toNat) (e5 : ((s[K].toNat : Int) != 47) = false) (hn : nv K = n)
    (er' : s.extract (K + 1) s.size = r) (hb : (n : Int) ≤ 1000000) (P' : ∀ w, Calls Tryd.prog 25 #[.string r] w fun e w' => e = .returned (.tuple #[.int .u64 v, .int .i64 x]) ∧ Grw w w') (hx : ((x : Int) != 0) = true) :
    Calls Tryd.prog 10 #[.string s] w fun e w' => e = .returned (.tuple #[.agg #[.int .i64 0, .int .u64 0], .int .i64 x]) ∧ Grw w w' := by
  have D := Lib.hid D'
  have NS := Lib.hid NS'
  have NK := Lib.hid NK'
  have NB := Lib.hid NB'
  clear D' NS' NK' NB'
  have P := Lib.hid P'
  have ER := Lib.hid er'
  clear P' er'
  go_enter Tryd.func10, Tryd.ntmps10
  go_wp2_with fail
  go_loop [5, 6] (fun a b => ∃ i : Nat, 1 ≤ i ∧ i ≤ K ∧ a = .int .i64 i ∧ b = .int .i64 (nv i)) (fun a _ => K - (intOf a).toNat)
  case atStart => exact ⟨1, Nat.le_refl _, k1, rfl, by rw [N1]; rfl⟩
  case round =>
    obtain ⟨i, i1, i2, rfl, rfl⟩ := hrel
    by_cases hlt : i < K
    · have y3 : i < s.size := by omega
      obtain ⟨d1, d2⟩ := D.out i i1 hlt y3
      have y2 := NB.out i i1 (by omega)
      have y4 : (48 : Int) ≤ s[i].toNat := by omega
      have y5 : (s[i].toNat : Int) ≤ 57 := by omega
      by_cases h9 : (i : Int) < 9
      · have y1 := NS.out i i1 (by omega) y3
        obtain ⟨u, hu⟩ : ∃ u, nv i = u := ⟨_, rfl⟩
        rw [hu] at y1 y2 ⊢
        have Y := Lib.hid y1
        clear y1 hu NS NK NB D
        go_wp2_with fail
        go_round
        case rel => exact ⟨i + 1, by omega, by omega, by go_num, by rw [Y.out]; exact int_eq (by omega)⟩
        case measure => simp [intOf]; omega
      · have Y := Lib.hid (NK.out i (by omega))
        obtain ⟨u, hu⟩ : ∃ u, nv i = u := ⟨_, rfl⟩
        rw [hu] at Y y2 ⊢
        clear hu NS NK NB D
        go_wp2_with fail
        go_round
        case rel => exact ⟨i + 1, by omega, by omega, by go_num, by rw [Y.out]⟩
        case measure => simp [intOf]; omega
    · obtain rfl : i = K := by omega
      have y2 := NB.out i i1 (by omega)
      clear NS NK NB D hlt
      rw [hn]
      clear hn
      go_wp2_with fail
      rw [ER.out]
      refine (P.out _).mono ?_
      rintro _ w1 ⟨rfl, hw1⟩
      obtain ⟨T, U⟩ := two_grown2 hw1
      have G := hw1.two.two
      have c0 := T.c0
      have c1 := T.c1
      have d0 := U.c0
      have d1 := U.c1
      have f0 := T.f0
      have f1 := T.f1
      clear T U hw1 P ER
      go_wp2_with fail
      exact bodyPost_ret (v := .tuple #[.agg #[.int .i64 0, .int .u64 0], .int .i64 x]) (by simp [results, Tryd.results10, go_sem, c0, c1]) rfl ⟨rfl, G.set2 (Nat.le_refl _) _ _⟩

set_option maxHeartbeats 2000000 in
set_option maxRecDepth 100000 in
theorem rcp_zero (s r : ByteArray) (K n v x : Nat) (nv : Nat → Nat) (w : World) (hs : s.size ≤ 9223372036854775807) (z : 1 ≤ s.size) (h1 : ¬ (s.size : Int) < 1) (h2 : ((s[0].toNat : Int) != 82) = false)
    (k1 : 1 ≤ K) (k2 : K ≤ s.size) (D' : ∀ i, 1 ≤ i → i < K → (c : i < s.size) → 48 ≤ s[i].toNat ∧ s[i].toNat ≤ 57) (N1 : nv 1 = 0)
    (NS' : ∀ i, 1 ≤ i → i < 9 → (c : i < s.size) → nv (i + 1) = 10 * nv i + (s[i].toNat - 48)) (NK' : ∀ i, 9 ≤ i → nv (i + 1) = nv i) (NB' : ∀ i, 1 ≤ i → i ≤ K → nv i < 100000000)
    (z2 : 2 ≤ s.size) (h3 : (1 : Int) < s.size) (h4 : ((s[1].toNat : Int) == 47) = false) (e1 : ((K : Int) == 1) = false) (e2 : ¬ (8 : Int) < K) (e3 : ((s[1].toNat : Int) == 48) = false) (e4 : ((K : Int) == s.size) = false) (c : K < s.size) (c0 : (s[K].toNat : Int) = 47) (c1 : ¬ (48 : Int) ≤ s[K].toNat) (e5 : ((s[K].toNat : Int) != 47) = false) (hn : nv K = n)
    (er' : s.extract (K + 1) s.size = r) (hb : (n : Int) ≤ 1000000) (P' : ∀ w, Calls Tryd.prog 25 #[.string r] w fun e w' => e = .returned (.tuple #[.int .u64 0, .int .i64 0]) ∧ Grw w w') :
    Calls Tryd.prog 10 #[.string s] w fun e w' => e = .returned (.tuple #[.agg #[.int .i64 0, .int .u64 0], .int .i64 6]) ∧ Grw w w' := by
  have D := Lib.hid D'
  have NS := Lib.hid NS'
  have NK := Lib.hid NK'
  have NB := Lib.hid NB'
  clear D' NS' NK' NB'
  have P := Lib.hid P'
  have ER := Lib.hid er'
  clear P' er'
  go_enter Tryd.func10, Tryd.ntmps10
  go_wp2_with fail
  go_loop [5, 6] (fun a b => ∃ i : Nat, 1 ≤ i ∧ i ≤ K ∧ a = .int .i64 i ∧ b = .int .i64 (nv i)) (fun a _ => K - (intOf a).toNat)
  case atStart => exact ⟨1, Nat.le_refl _, k1, rfl, by rw [N1]; rfl⟩
  case round =>
    obtain ⟨i, i1, i2, rfl, rfl⟩ := hrel
    by_cases hlt : i < K
    · have y3 : i < s.size := by omega
      obtain ⟨d1, d2⟩ := D.out i i1 hlt y3
      have y2 := NB.out i i1 (by omega)
      have y4 : (48 : Int) ≤ s[i].toNat := by omega
      have y5 : (s[i].toNat : Int) ≤ 57 := by omega
      by_cases h9 : (i : Int) < 9
      · have y1 := NS.out i i1 (by omega) y3
        obtain ⟨u, hu⟩ : ∃ u, nv i = u := ⟨_, rfl⟩
        rw [hu] at y1 y2 ⊢
        have Y := Lib.hid y1
        clear y1 hu NS NK NB D
        go_wp2_with fail
        go_round
        case rel => exact ⟨i + 1, by omega, by omega, by go_num, by rw [Y.out]; exact int_eq (by omega)⟩
        case measure => simp [intOf]; omega
      · have Y := Lib.hid (NK.out i (by omega))
        obtain ⟨u, hu⟩ : ∃ u, nv i = u := ⟨_, rfl⟩
        rw [hu] at Y y2 ⊢
        clear hu NS NK NB D
        go_wp2_with fail
        go_round
        case rel => exact ⟨i + 1, by omega, by omega, by go_num, by rw [Y.out]⟩
        case measure => simp [intOf]; omega
    · obtain rfl : i = K := by omega
      have y2 := NB.out i i1 (by omega)
      clear NS NK NB D hlt
      rw [hn]
      clear hn
      go_wp2_with fail
      rw [ER.out]
      refine (P.out _).mono ?_
      rintro _ w1 ⟨rfl, hw1⟩
      obtain ⟨T, U⟩ := two_grown2 hw1
      have G := hw1.two.two
      have c0 := T.c0
      have c1 := T.c1
      have d0 := U.c0
      have d1 := U.c1
      have f0 := T.f0
      have f1 := T.f1
      clear T U hw1 P ER
      go_wp2_with fail
      exact bodyPost_ret (v := .tuple #[.agg #[.int .i64 0, .int .u64 0], .int .i64 6]) (by simp [results, Tryd.results10, go_sem, c0, c1]) rfl ⟨rfl, G.set2 (Nat.le_refl _) _ _⟩

set_option maxHeartbeats 2000000 in
set_option maxRecDepth 100000 in
theorem rcp_ok (s r : ByteArray) (K n v x : Nat) (nv : Nat → Nat) (w : World) (hs : s.size ≤ 9223372036854775807) (z : 1 ≤ s.size) (h1 : ¬ (s.size : Int) < 1) (h2 : ((s[0].toNat : Int) != 82) = false)
    (k1 : 1 ≤ K) (k2 : K ≤ s.size) (D' : ∀ i, 1 ≤ i → i < K → (c : i < s.size) → 48 ≤ s[i].toNat ∧ s[i].toNat ≤ 57) (N1 : nv 1 = 0)
    (NS' : ∀ i, 1 ≤ i → i < 9 → (c : i < s.size) → nv (i + 1) = 10 * nv i + (s[i].toNat - 48)) (NK' : ∀ i, 9 ≤ i → nv (i + 1) = nv i) (NB' : ∀ i, 1 ≤ i → i ≤ K → nv i < 100000000)
    (z2 : 2 ≤ s.size) (h3 : (1 : Int) < s.size) (h4 : ((s[1].toNat : Int) == 47) = false) (e1 : ((K : Int) == 1) = false) (e2 : ¬ (8 : Int) < K) (e3 : ((s[1].toNat : Int) == 48) = false) (e4 : ((K : Int) == s.size) = false) (c : K < s.size) (c0 : (s[K].toNat : Int) = 47) (c1 : ¬ (48 : Int) ≤ s[K].toNat) (e5 : ((s[K].toNat : Int) != 47) = false) (hn : nv K = n)
    (er' : s.extract (K + 1) s.size = r) (hb : (n : Int) ≤ 1000000) (P' : ∀ w, Calls Tryd.prog 25 #[.string r] w fun e w' => e = .returned (.tuple #[.int .u64 v, .int .i64 0]) ∧ Grw w w') (hv : ((v : Int) == 0) = false) :
    Calls Tryd.prog 10 #[.string s] w fun e w' => e = .returned (.tuple #[.agg #[.int .i64 n, .int .u64 v], .int .i64 0]) ∧ Grw w w' := by
  have D := Lib.hid D'
  have NS := Lib.hid NS'
  have NK := Lib.hid NK'
  have NB := Lib.hid NB'
  clear D' NS' NK' NB'
  have P := Lib.hid P'
  have ER := Lib.hid er'
  clear P' er'
  go_enter Tryd.func10, Tryd.ntmps10
  go_wp2_with fail
  go_loop [5, 6] (fun a b => ∃ i : Nat, 1 ≤ i ∧ i ≤ K ∧ a = .int .i64 i ∧ b = .int .i64 (nv i)) (fun a _ => K - (intOf a).toNat)
  case atStart => exact ⟨1, Nat.le_refl _, k1, rfl, by rw [N1]; rfl⟩
  case round =>
    obtain ⟨i, i1, i2, rfl, rfl⟩ := hrel
    by_cases hlt : i < K
    · have y3 : i < s.size := by omega
      obtain ⟨d1, d2⟩ := D.out i i1 hlt y3
      have y2 := NB.out i i1 (by omega)
      have y4 : (48 : Int) ≤ s[i].toNat := by omega
      have y5 : (s[i].toNat : Int) ≤ 57 := by omega
      by_cases h9 : (i : Int) < 9
      · have y1 := NS.out i i1 (by omega) y3
        obtain ⟨u, hu⟩ : ∃ u, nv i = u := ⟨_, rfl⟩
        rw [hu] at y1 y2 ⊢
        have Y := Lib.hid y1
        clear y1 hu NS NK NB D
        go_wp2_with fail
        go_round
        case rel => exact ⟨i + 1, by omega, by omega, by go_num, by rw [Y.out]; exact int_eq (by omega)⟩
        case measure => simp [intOf]; omega
      · have Y := Lib.hid (NK.out i (by omega))
        obtain ⟨u, hu⟩ : ∃ u, nv i = u := ⟨_, rfl⟩
        rw [hu] at Y y2 ⊢
        clear hu NS NK NB D
        go_wp2_with fail
        go_round
        case rel => exact ⟨i + 1, by omega, by omega, by go_num, by rw [Y.out]⟩
        case measure => simp [intOf]; omega
    · obtain rfl : i = K := by omega
      have y2 := NB.out i i1 (by omega)
      clear NS NK NB D hlt
      rw [hn]
      clear hn
      go_wp2_with fail
      rw [ER.out]
      refine (P.out _).mono ?_
      rintro _ w1 ⟨rfl, hw1⟩
      obtain ⟨T, U⟩ := two_grown2 hw1
      have G := hw1.two.two
      have c0 := T.c0
      have c1 := T.c1
      have d0 := U.c0
      have d1 := U.c1
      have f0 := T.f0
      have f1 := T.f1
      clear T U hw1 P ER
      go_wp2_with fail
      exact bodyPost_ret (v := .tuple #[.agg #[.int .i64 n, .int .u64 v], .int .i64 0]) (by simp [results, Tryd.results10, go_sem, c0, c1]) rfl ⟨rfl, G.set2 (Nat.le_refl _) _ _⟩
end Go.Proofs.YtcdfjheklggfhaaDoor
