/- The contract of the document's own Parse of cycles at this program, whole. -/
import Derived.Test.YtcdfjheklggfhaaDoorXh
namespace Go.Proofs.YtcdfjheklggfhaaDoor
open Go.RowKit SM
set_option linter.unusedSimpArgs false

theorem off_len {t : List UInt8} {K : Nat} (dl : (ds t).length = K - 1) (h : K = 1 ∨ 8 < K) : cyT t = 2 := cyT_off t (fun g => by have := g.2.1; have := g.2.2.1; omega)

theorem rcparse_any (s : ByteArray) (w : World) (hs : s.size ≤ 9223372036854775807) :
    Calls Tryd.prog 10 #[.string s] w fun e w' => e = .returned (.tuple #[.agg #[.int .i64 (cyN s.data.toList), .int .u64 (cyV s.data.toList)], .int .i64 (cyE s.data.toList)]) ∧ Grw w w' := by
  have hl := size_len s
  by_cases z : 1 ≤ s.size
  · have hd0 := drop0 s (by omega)
    have h1 : ¬ (s.size : Int) < 1 := by omega
    by_cases h82 : s[0] = 82
    · have h2 : ((s[0].toNat : Int) != 82) = false := by rw [h82]; rfl
      rw [h82] at hd0
      by_cases hS : ∃ r, s.data.toList.drop 1 = 47 :: r
      · obtain ⟨r, hr⟩ := hS
        have z2 : 2 ≤ s.size := by
          have := congrArg List.length hr
          rw [List.length_drop, ← hl] at this
          simp at this; omega
        have e47 : s[1] = 47 := by
          have := drop_cons s 1 (by omega)
          rw [this] at hr
          exact (List.cons.inj hr).1
        have e : cyE s.data.toList = 5 := by rw [hd0, hr]; rfl
        obtain ⟨e1, e2⟩ := cy_bad (l := s.data.toList) (by rw [e]; omega)
        rw [e, e1, e2]
        exact rcp_endless s w hs z z2 h1 h2 (by omega) (by rw [e47]; rfl)
      · obtain ⟨t, ht⟩ : ∃ t, s.data.toList.drop 1 = t := ⟨_, rfl⟩
        rw [ht] at hS
        have hd1 : s.data.toList = 82 :: t := by rw [← ht]; exact hd0
        have eT : cyE s.data.toList = cyT t := by rw [hd1]; exact cyE_R hS
        obtain ⟨K, hK⟩ : ∃ K, endOf s.data.toList 1 = K := ⟨_, rfl⟩
        have k1 : 1 ≤ K := by rw [← hK]; exact endOf_ge _ _
        have k2 : K ≤ s.size := by rw [← hK, hl]; exact endOf_le _ _ (by omega)
        have D : ∀ i, 1 ≤ i → i < K → (c : i < s.size) → 48 ≤ s[i].toNat ∧ s[i].toNat ≤ 57 := fun i a b c =>
          (isD_iff s[i]).1 (ds_at s.data.toList 1 i (by omega) a (by omega) (by omega))
        have dl : (ds t).length = K - 1 := by rw [← ht, ← hK]; unfold endOf; omega
        have bt : bh t = s.data.toList.drop K := by rw [← ht, ← hK]; exact bh_at _ _
        have sl : ds t = t.take (K - 1) := by have := ds_slice s.data.toList 1; rw [hK, ht] at this; exact this
        obtain ⟨nv, hnv⟩ : ∃ nv : Nat → Nat, ∀ i, nv i = nval (t.take (min i 9 - 1)) := ⟨_, fun _ => rfl⟩
        have N1 : nv 1 = 0 := by rw [hnv]; simp [nval]
        have NS : ∀ i, 1 ≤ i → i < 9 → (c : i < s.size) → nv (i + 1) = 10 * nv i + (s[i].toNat - 48) := fun i a b c => by
          have := part_succ s 1 i a c
          rw [ht] at this
          rw [hnv, hnv, show min (i + 1) 9 - 1 = i + 1 - 1 by omega, show min i 9 - 1 = i - 1 by omega]; exact this
        have NK : ∀ i, 9 ≤ i → nv (i + 1) = nv i := fun i a => by
          rw [hnv, hnv, show min (i + 1) 9 - 1 = min i 9 - 1 by omega]
        have NB : ∀ i, 1 ≤ i → i ≤ K → nv i < 100000000 := fun i a b => by
          rw [hnv]
          have g : ∀ c ∈ t.take (min i 9 - 1), isD c = true := by
            intro c hc
            have : t.take (min i 9 - 1) = (ds t).take (min i 9 - 1) := by rw [sl, List.take_take]; congr 1; omega
            rw [this] at hc
            exact ds_all _ _ (List.mem_of_mem_take hc)
          have h1 := nval_lt _ g
          have h2 : (t.take (min i 9 - 1)).length ≤ 8 := Nat.le_trans (List.length_take_le _ _) (by omega)
          have h3 : 10 ^ (t.take (min i 9 - 1)).length ≤ 10 ^ 8 := Nat.pow_le_pow_right (by omega) h2
          omega
        have stop : ∀ (c : K < s.size), isD s[K] = false := fun c => by
          have := ds_stop s.data.toList 1 (by omega) (by omega)
          simp only [hK] at this
          exact this
        have HO : Hid (¬ K < s.size ∨ ∃ c : K < s.size, ¬ (48 : Int) ≤ s[K].toNat ∨ ((48 : Int) ≤ s[K].toNat ∧ ¬ (s[K].toNat : Int) ≤ 57)) := by
          refine Lib.hid ?_
          by_cases c : K < s.size
          · right
            refine ⟨c, ?_⟩
            have := stop c
            have g : ¬ (48 ≤ s[K].toNat ∧ s[K].toNat ≤ 57) := fun e => by rw [(isD_iff _).2 e] at this; cases this
            omega
          · exact Or.inl c
        have form : cyT t = 2 → (Calls Tryd.prog 10 #[.string s] w fun e w' => e = .returned (.tuple #[.agg #[.int .i64 0, .int .u64 0], .int .i64 2]) ∧ Grw w w') →
            Calls Tryd.prog 10 #[.string s] w fun e w' => e = .returned (.tuple #[.agg #[.int .i64 (cyN s.data.toList), .int .u64 (cyV s.data.toList)], .int .i64 (cyE s.data.toList)]) ∧ Grw w w' := fun e2 g => by
          have e : cyE s.data.toList = 2 := by rw [eT]; exact e2
          obtain ⟨a1, a2⟩ := cy_bad (l := s.data.toList) (by rw [e]; omega)
          rw [e, a1, a2]; exact g
        by_cases hK1 : K = 1
        · apply form
          · exact off_len dl (Or.inl hK1)
          · by_cases hz : s.size = 1
            · exact rcp_bare s s K 0 0 0 _ w hs z h1 h2 k1 k2 D N1 NS NK NB (by omega) hK1 (by omega)
            · have c : K < s.size := by omega
              have c1 : 1 < s.size := by omega
              have h47 : s[1] ≠ 47 := fun e => hS ⟨s.data.toList.drop 2, by rw [← ht, drop_cons s 1 c1, e]⟩
              have n48 : isD s[1] = false := by have := stop c; simp only [hK1] at this; exact this
              refine rcp_nodigit s s K 0 0 0 _ w hs z h1 h2 k1 k2 D N1 NS NK NB (by omega) (by omega) (by have := une' _ 47 h47; simpa using this) hK1 ?_
              have g : ¬ (48 ≤ s[1].toNat ∧ s[1].toNat ≤ 57) := fun e => by rw [(isD_iff _).2 e] at n48; cases n48
              omega
        · have z2 : 2 ≤ s.size := by omega
          have h47 : s[1] ≠ 47 := fun e => hS ⟨s.data.toList.drop 2, by rw [← ht, drop_cons s 1 (by omega), e]⟩
          have h3 : (1 : Int) < s.size := by omega
          have h4 : ((s[1].toNat : Int) == 47) = false := by have := une' _ 47 h47; simpa using this
          have e1 : ((K : Int) == 1) = false := by simp; omega
          have hh : (ds t).head? = some s[1] := by
            have g : (ds t ++ bh t).head? = some s[1] := by rw [ds_bh, ← ht, drop_cons s 1 (by omega)]; rfl
            rcases hd : ds t with _ | ⟨a, q⟩
            · rw [hd] at dl; simp at dl; omega
            · rw [hd] at g; simpa using g
          by_cases h8 : 8 < K
          · exact form (off_len dl (Or.inr h8)) (rcp_many s s K 0 0 0 _ w hs z h1 h2 k1 k2 D N1 NS NK NB z2 h3 h4 e1 (by omega) HO.out)
          · by_cases h48 : s[1] = 48
            · exact form (cyT_off t (fun g => g.2.2.2 (by rw [hh, h48]))) (rcp_nought s s K 0 0 0 _ w hs z h1 h2 k1 k2 D N1 NS NK NB z2 h3 h4 e1 (by omega) (by rw [h48]; rfl) HO.out)
            · have e3 : ((s[1].toNat : Int) == 48) = false := by have := une' _ 48 h48; simpa using this
              by_cases hE : K = s.size
              · refine form (cyT_off t (fun g => ?_)) (rcp_end s s K 0 0 0 _ w hs z h1 h2 k1 k2 D N1 NS NK NB z2 h3 h4 e1 (by omega) e3 (by simp; omega) (by omega))
                obtain ⟨r, hr⟩ := g.1
                rw [bt, List.drop_eq_nil_of_le (by omega)] at hr
                cases hr
              · have c : K < s.size := by omega
                have e4 : ((K : Int) == s.size) = false := by simp; omega
                have bt2 : bh t = s[K] :: s.data.toList.drop (K + 1) := by rw [bt]; exact drop_cons s K c
                by_cases hsl : s[K] = 47
                · obtain ⟨r, hr⟩ := ba_of (s.data.toList.drop (K + 1))
                  have er : s.extract (K + 1) s.size = r := ba_ext (by rw [Lib.extract_to_end, hr])
                  have rs : r.size ≤ s.size := by rw [size_len r, hr, List.length_drop, ← hl]; omega
                  rw [hsl, ← hr] at bt2
                  obtain ⟨r1, r2, r3⟩ := cyT_run t r.data.toList bt2 (by omega) (by omega) (by rw [hh]; simpa using h48)
                  have hn : nv K = nval (ds t) := by rw [hnv, sl, show min K 9 - 1 = K - 1 by omega]
                  have c0 : (s[K].toNat : Int) = 47 := by rw [hsl]; rfl
                  have e5 : ((s[K].toNat : Int) != 47) = false := by rw [hsl]; rfl
                  by_cases hb : 1000000 < nval (ds t)
                  · have e : cyE s.data.toList = 3 := by rw [eT, r1]; unfold cyR; rw [if_pos hb]
                    obtain ⟨a1, a2⟩ := cy_bad (l := s.data.toList) (by rw [e]; omega)
                    rw [e, a1, a2]
                    exact rcp_over s s K (nval (ds t)) 0 0 _ w hs z h1 h2 k1 k2 D N1 NS NK NB z2 h3 h4 e1 (by omega) e3 e4 c c0 (by omega) e5 hn (by omega)
                  · have P := fun w => rparse_any r w (by omega)
                    by_cases hp : pE r.data.toList = 0
                    · rw [hp] at P
                      by_cases hv : pV r.data.toList = 0
                      · rw [hv] at P
                        have e : cyE s.data.toList = 6 := by rw [eT, r1]; unfold cyR; rw [if_neg hb, if_neg (by simpa using hp), if_pos hv]
                        obtain ⟨a1, a2⟩ := cy_bad (l := s.data.toList) (by rw [e]; omega)
                        rw [e, a1, a2]
                        exact rcp_zero s r K (nval (ds t)) 0 0 _ w hs z h1 h2 k1 k2 D N1 NS NK NB z2 h3 h4 e1 (by omega) e3 e4 c c0 (by omega) e5 hn er (by omega) P
                      · have e : cyE s.data.toList = 0 := by rw [eT, r1]; unfold cyR; rw [if_neg hb, if_neg (by simpa using hp), if_neg hv]
                        have e12 := cy_ok (t := t) (r := r.data.toList) r3 (by rw [← hd1]; exact e)
                        rw [← hd1, r2] at e12
                        rw [e, e12.1, e12.2]
                        exact rcp_ok s r K (nval (ds t)) _ 0 _ w hs z h1 h2 k1 k2 D N1 NS NK NB z2 h3 h4 e1 (by omega) e3 e4 c c0 (by omega) e5 hn er (by omega) P (by simp; omega)
                    · have e : cyE s.data.toList = pE r.data.toList := by rw [eT, r1]; unfold cyR; rw [if_neg hb, if_pos hp]
                      obtain ⟨a1, a2⟩ := cy_bad (l := s.data.toList) (by rw [e]; exact hp)
                      rw [e, a1, a2]
                      exact rcp_span s r K (nval (ds t)) _ _ _ w hs z h1 h2 k1 k2 D N1 NS NK NB z2 h3 h4 e1 (by omega) e3 e4 c c0 (by omega) e5 hn er (by omega) P (by simp; omega)
                · have e5 : ((s[K].toNat : Int) != 47) = true := by have := une' _ 47 hsl; simpa using this
                  have off : cyT t = 2 := cyT_off t (fun g => by
                    obtain ⟨r, hr⟩ := g.1
                    rw [bt2] at hr
                    exact hsl (List.cons.inj hr).1)
                  rcases HO.out with c' | ⟨c', q | ⟨q1, q2⟩⟩
                  · exact absurd c c'
                  · exact form off (rcp_low s s K 0 0 0 _ w hs z h1 h2 k1 k2 D N1 NS NK NB z2 h3 h4 e1 (by omega) e3 e4 c q e5)
                  · exact form off (rcp_high s s K 0 0 0 _ w hs z h1 h2 k1 k2 D N1 NS NK NB z2 h3 h4 e1 (by omega) e3 e4 c q1 q2 e5)
    · have e : cyE s.data.toList = 2 := cyE_noR (fun ⟨t, ht⟩ => by rw [hd0] at ht; exact h82 (List.cons.inj ht).1)
      obtain ⟨e1, e2⟩ := cy_bad (l := s.data.toList) (by rw [e]; omega)
      rw [e, e1, e2]
      exact rcp_noR s w hs z h1 (by have := une' _ 82 h82; simpa using this)
  · have e0 : s.data.toList = [] := List.eq_nil_of_length_eq_zero (by omega)
    have e : cyE s.data.toList = 2 := by rw [e0]; rfl
    obtain ⟨e1, e2⟩ := cy_bad (l := s.data.toList) (by rw [e]; omega)
    rw [e, e1, e2]
    exact rcp_empty s w hs (by omega)
end Go.Proofs.YtcdfjheklggfhaaDoor
