/- The contracts of the document's Sum, Held, Digits, Top at this program. -/
import Derived.Test.YtjkhgpdhhnfmlaaDoorTk
namespace Go.Proofs.YtjkhgpdhhnfmlaaDoor
open Go.RowKit TM
def TInv (a b : Int) (B : Nat) (w wr : World) : Prop :=
  Grw w wr ∧ (∀ j, j < 11 → wr.cell? ⟨B, j, none⟩ = some (.int .i64 (dig a j))) ∧ (∀ j, j < 11 → wr.cell? ⟨B + 1, j, none⟩ = some (.int .i64 (dig b j)))
theorem TInv.drewN {a b : Int} {B : Nat} {w wr : World} (h : TInv a b B w wr) (n : Nat) : TInv a b B w (wr.drewN n) := ⟨h.1.drewN n, h.2⟩

theorem tinv_start (a b : Int) (w : World) (c1 c2 c3 c4 : Array Value) : TInv a b (w.heap.size + 1 + 1 + 1 + 1) w
    ((((((w.alloc (.cells c1 85)).alloc (.cells c2 85)).alloc (.cells c3 85)).alloc (.cells c4 85)).alloc (.cells #[.int .i64 (dig a 0), .int .i64 (dig a 1), .int .i64 (dig a 2), .int .i64 (dig a 3), .int .i64 (dig a 4), .int .i64 (dig a 5), .int .i64 (dig a 6), .int .i64 (dig a 7), .int .i64 (dig a 8), .int .i64 (dig a 9), .int .i64 (dig a 10)] 85)).alloc (.cells #[.int .i64 (dig b 0), .int .i64 (dig b 1), .int .i64 (dig b 2), .int .i64 (dig b 3), .int .i64 (dig b 4), .int .i64 (dig b 5), .int .i64 (dig b 6), .int .i64 (dig b 7), .int .i64 (dig b 8), .int .i64 (dig b 9), .int .i64 (dig b 10)] 85)) := by
  rw [← dcells_all a, ← dcells_all b]
  refine ⟨((((((Grw.rfl' _).alloc _).alloc _).alloc _).alloc _).alloc _).alloc _, ?_, ?_⟩
  · intro j hj
    have h := dcells_get a 11 j hj
    rw [if_pos hj] at h
    simp [go_sem, h]
  · intro j hj
    have h := dcells_get b 11 j hj
    rw [if_pos hj] at h
    simp [go_sem, h]

set_option maxHeartbeats 2000000 in
set_option maxRecDepth 100000 in
set_option maxHeartbeats 400000 in
theorem rsum_any (a b : Int) (w : World) (ha : Wd a) (hb : Wd b) :
    Calls Tryd.prog 25 #[.int .u64 a, .int .u64 b] w fun e w' => e = .returned (.agg #[.int .u64 (sumV a b), .bool (sumB a b)]) ∧ Grw w w' := by
  obtain ⟨a0, a1⟩ := ha
  obtain ⟨b0, b1⟩ := hb
  by_cases h : a + b < 18446744073709551616
  · have h1 : sumV a b = a + b := by unfold sumV; rw [if_pos h]
    have h2 : sumB a b = true := by unfold sumB; exact decide_eq_true h
    rw [h1, h2]
    have g : ¬ (18446744073709551615 - b < a) := by omega
    clear h1 h2
    go_enter Tryd.func25, Tryd.ntmps25
    go_wp2
    exact bodyPost_ret (v := .agg #[.int .u64 (a + b), .bool true]) (by simp [results, Tryd.results25, go_sem]) rfl ⟨rfl, (Grw.rfl' _).alloc _⟩
  · have h1 : sumV a b = 0 := by unfold sumV; rw [if_neg h]
    have h2 : sumB a b = false := by unfold sumB; exact decide_eq_false h
    rw [h1, h2]
    have g : 18446744073709551615 - b < a := by omega
    clear h1 h2
    go_enter Tryd.func25, Tryd.ntmps25
    go_wp2
    exact bodyPost_ret (v := .agg #[.int .u64 0, .bool false]) (by simp [results, Tryd.results25, go_sem]) rfl ⟨rfl, (Grw.rfl' _).alloc _⟩

set_option maxHeartbeats 400000 in
theorem rheld_any (a b : Int) (w : World) (ha : Wd a) (hb : Wd b) :
    Calls Tryd.prog 8 #[.int .u64 a, .int .u64 b] w fun e w' => e = .returned (.int .u64 (heldV a b)) ∧ Grw w w' := by
  have C := Lib.hid (fun w => rsum_any a b w ha hb)
  by_cases h : a + b < 18446744073709551616
  · have h1 : sumV a b = a + b := by unfold sumV; rw [if_pos h]
    have h2 : sumB a b = true := by unfold sumB; exact decide_eq_true h
    have h3 : heldV a b = a + b := by unfold heldV; rw [if_pos h]
    rw [h1, h2] at C
    rw [h3]
    clear h1 h2 h3 h ha hb
    go_enter Tryd.func8, Tryd.ntmps8
    go_wp2_with (go_at_call 25; refine (C.out _).mono ?_; rintro _ w1 ⟨rfl, hw⟩)
    go_ret
    exact ⟨rfl, hw.alloc _⟩
  · have h1 : sumV a b = 0 := by unfold sumV; rw [if_neg h]
    have h2 : sumB a b = false := by unfold sumB; exact decide_eq_false h
    have h3 : heldV a b = 18446744073709551615 := by unfold heldV; rw [if_neg h]
    rw [h1, h2] at C
    rw [h3]
    clear h1 h2 h3 h ha hb
    go_enter Tryd.func8, Tryd.ntmps8
    go_wp2_with (go_at_call 25; refine (C.out _).mono ?_; rintro _ w1 ⟨rfl, hw⟩)
    go_ret
    exact ⟨rfl, hw.alloc _⟩

set_option maxHeartbeats 400000 in
theorem rdigits_any (x : Int) (w : World) (hx : Wd x) :
    Calls Tryd.prog 42 #[.int .u64 x] w fun e w' => e = .returned (.agg #[.int .i64 (dig x 0), .int .i64 (dig x 1), .int .i64 (dig x 2), .int .i64 (dig x 3), .int .i64 (dig x 4), .int .i64 (dig x 5), .int .i64 (dig x 6), .int .i64 (dig x 7), .int .i64 (dig x 8), .int .i64 (dig x 9), .int .i64 (dig x 10)]) ∧ ∃ c1 c2 : Array Value, w' = (w.alloc (.cells c1 85)).alloc (.cells c2 85) := by
  obtain ⟨hx, hx'⟩ := hx
  go_enter Tryd.func42, Tryd.ntmps42
  go_wp2
  go_loopw [0, 4] (fun v i wr => ∃ k : Nat, k ≤ 11 ∧ i = .int .i64 k ∧ v = .int .u64 (x / 64 ^ k) ∧ wr = (w.alloc (.cells #[.int .i64 0, .int .i64 0, .int .i64 0, .int .i64 0, .int .i64 0, .int .i64 0, .int .i64 0, .int .i64 0, .int .i64 0, .int .i64 0, .int .i64 0] 85)).alloc (.cells (dcells x k) 85)) (fun _ i _ => 11 - (intOf i).toNat)
  case atStart => exact ⟨0, by omega, rfl, by simp, by rw [dcells_zero]⟩
  case round =>
    obtain ⟨k, hk, rfl, rfl, rfl⟩ := hrel
    have q0 : 0 ≤ x / 64 ^ k := Int.ediv_nonneg hx (Int.le_of_lt (p64 k))
    have q1 : x / 64 ^ k < 18446744073709551616 := Int.lt_of_le_of_lt (Int.ediv_le_self _ hx) hx'
    have hs := quo_succ x k
    have hset := dcells_set x k
    have hd : dig x k = x / 64 ^ k % 64 := rfl
    by_cases hlt : k < 11
    · have hg := dcells_get x k k hlt
      have hset := hset hlt
      rw [if_neg (by omega)] at hg
      obtain ⟨q, hq⟩ : ∃ q, q = x / 64 ^ k := ⟨_, rfl⟩
      rw [← hq] at q0 q1 hs hd ⊢
      have HS := Lib.hid hs
      have HD := Lib.hid hd
      have HE := Lib.hid hset
      clear hs hd hq hset hx hx'
      go_wp2
      go_roundw
      case rel => exact ⟨k + 1, by omega, by go_num, by rw [HS.out], by rw [← HE.out, HD.out]⟩
      case measure => simp [intOf]; omega
    · have e : k = 11 := by omega
      subst e
      clear hset hs hd
      rw [dcells_all]
      go_wp2
      exact bodyPost_ret (v := .agg #[.int .i64 (dig x 0), .int .i64 (dig x 1), .int .i64 (dig x 2), .int .i64 (dig x 3), .int .i64 (dig x 4), .int .i64 (dig x 5), .int .i64 (dig x 6), .int .i64 (dig x 7), .int .i64 (dig x 8), .int .i64 (dig x 9), .int .i64 (dig x 10)]) (by simp [results, Tryd.results42, go_sem]) rfl ⟨rfl, _, _, rfl⟩

/-- the highest digit at which two numbers differ, looked for from above. -/
theorem topV_of {a b : Int} (ha : Wd a) (hb : Wd b) (n : Nat) (hne : dig a n ≠ dig b n) (hab : ∀ i, n < i → i < 11 → dig a i = dig b i) : topV a b = n := by
  obtain ⟨r0, r1⟩ := topV_range ha hb
  have h1 : topV a b ≠ -1 := fun e => hne (by rw [(topV_neg ha hb).1 e])
  obtain ⟨k, hk⟩ := Int.eq_ofNat_of_zero_le (show 0 ≤ topV a b by omega)
  have ht := top_dig_at ha hb k hk
  by_cases g : k < n
  · exact absurd (top_dig_above ha hb n (by omega)) hne
  · by_cases g' : n < k
    · exact absurd (hab k g' (by omega)) ht.1
    · rw [hk]; omega
theorem topV_none {a b : Int} (ha : Wd a) (hb : Wd b) (h : ∀ i, i < 11 → dig a i = dig b i) : topV a b = -1 := by
  obtain ⟨r0, r1⟩ := topV_range ha hb
  by_cases g : topV a b = -1
  · exact g
  · obtain ⟨k, hk⟩ := Int.eq_ofNat_of_zero_le (show 0 ≤ topV a b by omega)
    exact absurd (h k (by omega)) (top_dig_at ha hb k hk).1

set_option maxHeartbeats 1000000 in
theorem rtop_any (a b : Int) (w : World) (ha : Wd a) (hb : Wd b) :
    Calls Tryd.prog 64 #[.int .u64 a, .int .u64 b] w fun e w' => e = .returned (.int .i64 (topV a b)) ∧ Grw w w' := by
  have D1 := Lib.hid (fun w => rdigits_any a w ha)
  have D2 := Lib.hid (fun w => rdigits_any b w hb)
  have KA := Lib.hid (topV_of ha hb)
  have KB := Lib.hid (topV_none ha hb)
  clear ha hb
  generalize topV a b = t at *
  go_enter Tryd.func64, Tryd.ntmps64
  go_wp2_with fail
  refine (D1.out _).mono ?_
  rintro _ _ ⟨rfl, c1, c2, rfl⟩
  go_wp2_with fail
  refine (D2.out _).mono ?_
  rintro _ _ ⟨rfl, c3, c4, rfl⟩
  go_wp2_with fail
  have hinv := tinv_start a b w c1 c2 c3 c4
  go_loopw [7] (fun v wr => ∃ m : Nat, m ≤ 11 ∧ v = .int .i64 ((m : Int) - 1) ∧ Hid (∀ i, m ≤ i → i < 11 → dig a i = dig b i) ∧ TInv a b (w.heap.size + 1 + 1 + 1 + 1) w wr) (fun v _ => (intOf v + 1).toNat)
  case atStart => exact ⟨11, by omega, rfl, Lib.hid fun i hi hi' => by omega, hinv⟩
  case round =>
    clear hinv D1 D2
    obtain ⟨m, hm, rfl, G, hinv⟩ := hrel
    generalize w.heap.size + 1 + 1 + 1 + 1 = B at *
    by_cases hz : m = 0
    · subst hz
      have e := KB.out (fun i hi => G.out i (by omega) hi)
      subst e
      clear KA KB G
      go_wp2_with fail
      go_ret
      exact ⟨rfl, hinv.1⟩
    · obtain ⟨n, rfl⟩ : ∃ n, m = n + 1 := ⟨m - 1, by omega⟩
      have e0 : ((n + 1 : Nat) : Int) - 1 = (n : Int) := by omega
      rw [e0]
      have p1 := hinv.2.1 n (by omega)
      have p2 := hinv.2.2 n (by omega)
      have i1 : (n : Int) < 11 := by omega
      clear e0 hz
      by_cases hd : dig a n = dig b n
      · have G2 : Hid (∀ i, n ≤ i → i < 11 → dig a i = dig b i) := Lib.hid fun i hi hi' => by
          by_cases e : i = n
          · subst e; exact hd
          · exact G.out i (by omega) hi'
        rw [hd] at p1
        clear KA KB G hd
        go_wp2_with fail
        go_quiet (fail)
        go_wp2_with fail
        go_roundw
        case rel => exact ⟨n, by omega, by go_num, G2, hinv.drewN _⟩
        case measure => simp [intOf]
      · have e := KA.out n hd (fun i hi hi' => G.out i (by omega) hi')
        have hd' : (dig a n != dig b n) = true := by simpa using hd
        subst e
        clear KA KB G hd
        go_wp2_with fail
        go_quiet (fail)
        go_wp2_with fail
        go_ret
        exact ⟨rfl, hinv.1.drewN _⟩
end Go.Proofs.YtjkhgpdhhnfmlaaDoor
