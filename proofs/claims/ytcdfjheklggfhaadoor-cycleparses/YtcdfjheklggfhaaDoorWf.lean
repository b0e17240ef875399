/- The contracts of the document's own number, add and Parse at this program. -/
import Derived.Test.YtcdfjheklggfhaaDoorWd
namespace Go.Proofs.YtcdfjheklggfhaaDoor
open Go.RowKit SM

/-- where the digits from a place on end. -/
def endOf (l : List UInt8) (k : Nat) : Nat := k + (ds (l.drop k)).length
theorem endOf_le (l : List UInt8) (k : Nat) (h : k ≤ l.length) : endOf l k ≤ l.length := by
  unfold endOf
  have := congrArg List.length (ds_bh (l.drop k))
  rw [List.length_append, List.length_drop] at this
  omega
theorem endOf_ge (l : List UInt8) (k : Nat) : k ≤ endOf l k := by unfold endOf; omega
theorem ds_at (l : List UInt8) (k i : Nat) (_h : k ≤ l.length) (h1 : k ≤ i) (h2 : i < endOf l k) (hi : i < l.length) : isD l[i] = true := by
  have e := ds_bh (l.drop k)
  have hj : i - k < (ds (l.drop k)).length := by unfold endOf at h2; omega
  have g : (ds (l.drop k) ++ bh (l.drop k))[i - k]? = some (ds (l.drop k))[i - k] := by
    rw [List.getElem?_append_left hj, List.getElem?_eq_getElem hj]
  rw [e] at g
  have g2 : (l.drop k)[i - k]? = some l[i] := by
    rw [List.getElem?_drop, show k + (i - k) = i by omega, List.getElem?_eq_getElem hi]
  rw [g2] at g
  rw [Option.some.inj g]
  exact ds_all _ _ (List.getElem_mem _)
theorem ds_stop (l : List UInt8) (k : Nat) (h : k ≤ l.length) (hi : endOf l k < l.length) : isD (l[endOf l k]) = false := by
  have e := ds_bh (l.drop k)
  have hl := congrArg List.length e
  rw [List.length_append, List.length_drop] at hl
  have g2 : (l.drop k)[(ds (l.drop k)).length]? = some l[endOf l k] := by
    rw [List.getElem?_drop, List.getElem?_eq_getElem (show k + (ds (l.drop k)).length < l.length from hi)]; rfl
  rcases hb : bh (l.drop k) with _ | ⟨u, r⟩
  · rw [hb] at hl; simp at hl; unfold endOf at hi; omega
  · have g : (l.drop k)[(ds (l.drop k)).length]? = some u := by
      have : (ds (l.drop k) ++ bh (l.drop k))[(ds (l.drop k)).length]? = some u := by
        rw [List.getElem?_append_right (Nat.le_refl _), hb]; simp
      rw [e] at this; exact this
    rw [g2] at g
    rw [Option.some.inj g]
    exact bh_head _ _ _ hb
theorem ds_slice (l : List UInt8) (k : Nat) : ds (l.drop k) = (l.drop k).take (endOf l k - k) := by
  have e := ds_bh (l.drop k)
  have : endOf l k - k = (ds (l.drop k)).length := by unfold endOf; omega
  rw [this]
  calc ds (l.drop k) = (ds (l.drop k) ++ bh (l.drop k)).take (ds (l.drop k)).length := by simp
    _ = _ := by rw [e]
theorem part_succ (s : ByteArray) (k i : Nat) (h1 : k ≤ i) (h : i < s.size) : nval ((s.data.toList.drop k).take (i + 1 - k)) = 10 * nval ((s.data.toList.drop k).take (i - k)) + (s[i].toNat - 48) := by
  rw [show i + 1 - k = (i - k) + 1 by omega, List.take_succ_eq_append_getElem (by rw [List.length_drop, ← size_len]; omega), nval_snoc]
  have e : (s.data.toList.drop k)[i - k]'(by rw [List.length_drop, ← size_len]; omega) = s[i] := by
    rw [List.getElem_drop]
    show s.data.toList[k + (i - k)]'_ = _
    simp only [show k + (i - k) = i by omega]
    rfl
  rw [e]

set_option maxHeartbeats 2000000 in
theorem number_no (s : ByteArray) (k : Nat) (w : World) (hs : s.size ≤ 9223372036854775807) (hk : k ≤ s.size) (hn : numB (ds (s.data.toList.drop k)) = false) :
    Calls Tryd.prog 39 #[.string s, .int .i64 k] w fun e w' => e = .returned (.tuple #[.int .u64 0, .int .i64 k, .bool false]) ∧ w = w' := by
  obtain ⟨K, hK⟩ : ∃ K, endOf s.data.toList k = K := ⟨_, rfl⟩
  have hl := size_len s
  have k1 : k ≤ K := by rw [← hK]; exact endOf_ge _ _
  have k2 : K ≤ s.size := by rw [← hK, hl]; exact endOf_le _ _ (by omega)
  have D := Lib.hid (fun i (a : k ≤ i) (b : i < K) (c : i < s.size) => (isD_iff s[i]).1 (ds_at s.data.toList k i (by omega) a (by omega) (by omega)))
  have S := Lib.hid (fun (c : K < s.size) => show isD s[K] = false by
    have := ds_stop s.data.toList k (by omega) (by omega)
    simp only [hK] at this
    exact this)
  have W : Hid (K = k ∨ 15 < K - k ∨ (k < K ∧ 1 < K - k ∧ K - k ≤ 15 ∧ ∃ c : k < s.size, s[k] = 48)) := Lib.hid (by
    have e : (ds (s.data.toList.drop k)).length = K - k := by rw [← hK]; unfold endOf; omega
    unfold numB at hn
    rw [e] at hn
    by_cases h1 : K = k
    · exact Or.inl h1
    · by_cases h2 : 15 < K - k
      · exact Or.inr (Or.inl h2)
      · right; right
        simp only [Bool.and_eq_false_iff, decide_eq_false_iff_not, Bool.or_eq_false_iff, Decidable.not_not] at hn
        have h3 : (ds (s.data.toList.drop k)).head? = some 48 ∧ ¬ K - k = 1 := by
          rcases hn with (h | h) | h
          · omega
          · omega
          · exact h
        refine ⟨by omega, by omega, by omega, by omega, ?_⟩
        have g : (ds (s.data.toList.drop k) ++ bh (s.data.toList.drop k)).head? = some 48 := by
          rw [List.head?_append, h3.1]; rfl
        rw [ds_bh, List.head?_drop, List.getElem?_eq_getElem (by omega)] at g
        exact Option.some.inj g)
  clear hK hl hn
  go_enter Tryd.func39, Tryd.ntmps39
  go_wp2_with fail
  go_loop [7] (fun v => ∃ i : Nat, k ≤ i ∧ i ≤ K ∧ v = .int .i64 i) (fun v => K - (intOf v).toNat)
  case atStart => exact ⟨k, Nat.le_refl _, k1, rfl⟩
  case round =>
    obtain ⟨i, i1, i2, rfl⟩ := hrel
    by_cases hlt : i < K
    · obtain ⟨c1, c2⟩ := D.out i i1 hlt (by omega)
      have b1 : (48 : Int) ≤ s[i].toNat := by omega
      have b2 : (s[i].toNat : Int) ≤ 57 := by omega
      have b3 : i < s.size := by omega
      clear D S
      go_wp2_with fail
      go_round
      case rel => exact ⟨i + 1, by omega, by omega, by go_num⟩
      case measure => simp [intOf]; omega
    · obtain rfl : i = K := by omega
      have hor : ¬ i < s.size ∨ ∃ c : i < s.size, ¬ (48 : Int) ≤ s[i].toNat ∨ ((48 : Int) ≤ s[i].toNat ∧ ¬ (s[i].toNat : Int) ≤ 57) := by
        by_cases c : i < s.size
        · right
          refine ⟨c, ?_⟩
          have := S.out c
          have g : ¬ (48 ≤ s[i].toNat ∧ s[i].toNat ≤ 57) := fun e => by rw [(isD_iff _).2 e] at this; cases this
          omega
        · exact Or.inl c
      clear S
      rcases W.out with e | e | ⟨e1, e2, e3, c, e4⟩
      · subst e
        clear W D
        rcases hor with c | ⟨c, c' | ⟨c1, c2⟩⟩
        all_goals
          go_wp2_with fail
          exact bodyPost_ret (v := .tuple #[.int .u64 0, .int .i64 i, .bool false]) (by simp [results, Tryd.results39, go_sem]) rfl ⟨rfl, rfl⟩
      · have g1 : ((i : Int) == (k : Int)) = false := by simp; omega
        have g2 : (15 : Int) < (i : Int) - k := by omega
        clear W D
        rcases hor with c | ⟨c, c' | ⟨c1, c2⟩⟩
        all_goals
          go_wp2_with fail
          exact bodyPost_ret (v := .tuple #[.int .u64 0, .int .i64 k, .bool false]) (by simp [results, Tryd.results39, go_sem]) rfl ⟨rfl, rfl⟩
      · have g1 : ((i : Int) == (k : Int)) = false := by simp; omega
        have g2 : ¬ (15 : Int) < (i : Int) - k := by omega
        have g3 : (s[k].toNat : Int) = 48 := by rw [e4]; rfl
        have g4 : (1 : Int) < (i : Int) - k := by omega
        clear W D e4
        rcases hor with c | ⟨c, c' | ⟨c1, c2⟩⟩
        all_goals
          go_wp2_with fail
          exact bodyPost_ret (v := .tuple #[.int .u64 0, .int .i64 k, .bool false]) (by simp [results, Tryd.results39, go_sem]) rfl ⟨rfl, rfl⟩

set_option maxHeartbeats 4000000 in
theorem number_yes (s : ByteArray) (k : Nat) (w : World) (hs : s.size ≤ 9223372036854775807) (hk : k ≤ s.size) (hn : numB (ds (s.data.toList.drop k)) = true) :
    Calls Tryd.prog 39 #[.string s, .int .i64 k] w fun e w' => e = .returned (.tuple #[.int .u64 (nval (ds (s.data.toList.drop k))), .int .i64 (endOf s.data.toList k), .bool true]) ∧ w = w' := by
  obtain ⟨K, hK⟩ : ∃ K, endOf s.data.toList k = K := ⟨_, rfl⟩
  have hl := size_len s
  have k1 : k ≤ K := by rw [← hK]; exact endOf_ge _ _
  have k2 : K ≤ s.size := by rw [← hK, hl]; exact endOf_le _ _ (by omega)
  have D := Lib.hid (fun i (a : k ≤ i) (b : i < K) (c : i < s.size) => (isD_iff s[i]).1 (ds_at s.data.toList k i (by omega) a (by omega) (by omega)))
  have S := Lib.hid (fun (c : K < s.size) => show isD s[K] = false by
    have := ds_stop s.data.toList k (by omega) (by omega)
    simp only [hK] at this
    exact this)
  have e0 : (ds (s.data.toList.drop k)).length = K - k := by rw [← hK]; unfold endOf; omega
  have l1 := numB_len hn
  rw [e0] at l1
  obtain ⟨l1, l2⟩ := l1
  have kz : k < s.size := by omega
  have W : Hid (s[k] = 48 → K - k = 1) := Lib.hid (by
    intro e4
    unfold numB at hn
    simp only [Bool.and_eq_true, Bool.or_eq_true, decide_eq_true_eq] at hn
    rcases hn.2 with h | h
    · exfalso
      apply h
      have g : (ds (s.data.toList.drop k) ++ bh (s.data.toList.drop k)).head? = some s[k] := by
        rw [ds_bh, List.head?_drop, List.getElem?_eq_getElem (by omega)]; rfl
      rw [e4] at g
      rcases hd : ds (s.data.toList.drop k) with _ | ⟨a, t⟩
      · rw [hd] at e0; simp at e0; omega
      · rw [hd] at g; simpa using g
    · rw [e0] at h; exact h)
  have N := Lib.hid (ds_slice s.data.toList k)
  rw [hK] at N
  have NL : Hid (∀ i, k ≤ i → i ≤ K → nval ((s.data.toList.drop k).take (i - k)) < 1000000000000000) := Lib.hid (fun i a b => by
    have g : ∀ c ∈ (s.data.toList.drop k).take (i - k), isD c = true := by
      intro c hc
      have : (s.data.toList.drop k).take (i - k) = (ds (s.data.toList.drop k)).take (i - k) := by rw [N.out, List.take_take, Nat.min_eq_left (by omega)]
      rw [this] at hc
      exact ds_all _ _ (List.mem_of_mem_take hc)
    have h1 := nval_lt _ g
    have h2 : ((s.data.toList.drop k).take (i - k)).length ≤ 15 := Nat.le_trans (List.length_take_le _ _) (by omega)
    have h3 : 10 ^ ((s.data.toList.drop k).take (i - k)).length ≤ 10 ^ 15 := Nat.pow_le_pow_right (by omega) h2
    omega)
  have PS := Lib.hid (fun i (a : k ≤ i) (b : i < s.size) => part_succ s k i a b)
  rw [hK]
  obtain ⟨v, hv⟩ : ∃ v, nval (ds (s.data.toList.drop k)) = v := ⟨_, rfl⟩
  rw [hv]
  have V : Hid (nval ((s.data.toList.drop k).take (K - k)) = v) := Lib.hid (by rw [← N.out]; exact hv)
  clear hK hl hn e0 N hv
  go_enter Tryd.func39, Tryd.ntmps39
  go_wp2_with fail
  go_loop [7] (fun v => ∃ i : Nat, k ≤ i ∧ i ≤ K ∧ v = .int .i64 i) (fun v => K - (intOf v).toNat)
  case atStart => exact ⟨k, Nat.le_refl _, k1, rfl⟩
  case round =>
    obtain ⟨i, i1, i2, rfl⟩ := hrel
    by_cases hlt : i < K
    · obtain ⟨c1, c2⟩ := D.out i i1 hlt (by omega)
      have b1 : (48 : Int) ≤ s[i].toNat := by omega
      have b2 : (s[i].toNat : Int) ≤ 57 := by omega
      have b3 : i < s.size := by omega
      clear D S
      go_wp2_with fail
      go_round
      case rel => exact ⟨i + 1, by omega, by omega, by go_num⟩
      case measure => simp [intOf]; omega
    · obtain rfl : i = K := by omega
      have hor : ¬ i < s.size ∨ ∃ c : i < s.size, ¬ (48 : Int) ≤ s[i].toNat ∨ ((48 : Int) ≤ s[i].toNat ∧ ¬ (s[i].toNat : Int) ≤ 57) := by
        by_cases c : i < s.size
        · right
          refine ⟨c, ?_⟩
          have := S.out c
          have g : ¬ (48 ≤ s[i].toNat ∧ s[i].toNat ≤ 57) := fun e => by rw [(isD_iff _).2 e] at this; cases this
          omega
        · exact Or.inl c
      clear S
      have g1 : ((i : Int) == (k : Int)) = false := by simp; omega
      have g2 : ¬ (15 : Int) < (i : Int) - k := by omega
      have hor2 : ¬ (s[k].toNat : Int) = 48 ∨ ((s[k].toNat : Int) = 48 ∧ ¬ (1 : Int) < (i : Int) - k) := by
        by_cases c : s[k] = 48
        · right
          have := W.out c
          exact ⟨by rw [c]; rfl, by omega⟩
        · left; exact une' _ 48 c
      clear W
      rcases hor2 with q | ⟨q, q'⟩
      · have qq : ((s[k].toNat : Int) == 48) = false := by simpa using q
        rcases hor with c | ⟨c, c' | ⟨c1, c2⟩⟩
        all_goals
          go_wp2_with fail
          go_loop [8, 9] (fun a b => ∃ j : Nat, k ≤ j ∧ j ≤ i ∧ b = .int .i64 j ∧ a = .int .u64 (nval ((s.data.toList.drop k).take (j - k)))) (fun _ b => i - (intOf b).toNat)
          case atStart => exact ⟨k, Nat.le_refl _, by omega, rfl, by simp [nval]⟩
          case round =>
            obtain ⟨j, j1, j2, rfl, rfl⟩ := hrel
            by_cases hjt : j < i
            · have y1 := PS.out j j1 (by omega)
              have y2 := NL.out j j1 (by omega)
              obtain ⟨d1, d2⟩ := D.out j j1 hjt (by omega)
              have y3 : j < s.size := by omega
              have y4 : (48 : Int) ≤ s[j].toNat := by omega
              have y5 : (s[j].toNat : Int) ≤ 57 := by omega
              obtain ⟨u, hu⟩ : ∃ u, nval ((s.data.toList.drop k).take (j - k)) = u := ⟨_, rfl⟩
              rw [hu] at y1 y2 ⊢
              have Y := Lib.hid y1
              clear y1 hu PS NL D V
              go_wp2_with fail
              go_round
              case rel => exact ⟨j + 1, by omega, by omega, by go_num, by rw [Y.out]; exact int_eq (by omega)⟩
              case measure => simp [intOf]; omega
            · obtain rfl : j = i := by omega
              rw [V.out]
              clear PS NL D V
              go_wp2_with fail
              exact bodyPost_ret (v := .tuple #[.int .u64 v, .int .i64 j, .bool true]) (by simp [results, Tryd.results39, go_sem]) rfl ⟨rfl, rfl⟩
      · have qq : ((s[k].toNat : Int) == 48) = true := by simpa using q
        rcases hor with c | ⟨c, c' | ⟨c1, c2⟩⟩
        all_goals
          go_wp2_with fail
          go_loop [8, 9] (fun a b => ∃ j : Nat, k ≤ j ∧ j ≤ i ∧ b = .int .i64 j ∧ a = .int .u64 (nval ((s.data.toList.drop k).take (j - k)))) (fun _ b => i - (intOf b).toNat)
          case atStart => exact ⟨k, Nat.le_refl _, by omega, rfl, by simp [nval]⟩
          case round =>
            obtain ⟨j, j1, j2, rfl, rfl⟩ := hrel
            by_cases hjt : j < i
            · have y1 := PS.out j j1 (by omega)
              have y2 := NL.out j j1 (by omega)
              obtain ⟨d1, d2⟩ := D.out j j1 hjt (by omega)
              have y3 : j < s.size := by omega
              have y4 : (48 : Int) ≤ s[j].toNat := by omega
              have y5 : (s[j].toNat : Int) ≤ 57 := by omega
              obtain ⟨u, hu⟩ : ∃ u, nval ((s.data.toList.drop k).take (j - k)) = u := ⟨_, rfl⟩
              rw [hu] at y1 y2 ⊢
              have Y := Lib.hid y1
              clear y1 hu PS NL D V
              go_wp2_with fail
              go_round
              case rel => exact ⟨j + 1, by omega, by omega, by go_num, by rw [Y.out]; exact int_eq (by omega)⟩
              case measure => simp [intOf]; omega
            · obtain rfl : j = i := by omega
              rw [V.out]
              clear PS NL D V
              go_wp2_with fail
              exact bodyPost_ret (v := .tuple #[.int .u64 v, .int .i64 j, .bool true]) (by simp [results, Tryd.results39, go_sem]) rfl ⟨rfl, rfl⟩
end Go.Proofs.YtcdfjheklggfhaaDoor
