/- The contract of the document's Print at this program. -/
import Derived.Test.YtiocnagbcbhggaaDoorWg
namespace Go.Proofs.YtiocnagbcbhggaaDoor
open Go.RowKit SM
set_option linter.unusedSimpArgs false

theorem pr_take (l : List Sg) (k : Nat) (h : k < l.length) : pr (l.take (k + 1)) = if k = 0 then tx l[k] else pr (l.take k) ++ 32 :: tx l[k] := by
  rw [List.take_succ_eq_append_getElem h, pr_snoc]
  by_cases e : k = 0
  · subst e; simp
  · have : l.take k ≠ [] := by
      intro c
      have := congrArg List.length c
      rw [List.length_take, List.length_nil] at this
      omega
    rw [if_neg this, if_neg e]
theorem pr_take_len (l : List Sg) (k : Nat) (hg : ∀ s ∈ l, gs s = true) : (pr (l.take k)).length ≤ l.length * 21 := by
  have := pr_len (l.take k) (fun s hs => hg s (List.mem_of_mem_take hs))
  have h2 : (l.take k).length ≤ l.length := by rw [List.length_take]; omega
  omega
/-- signs of which all may be written. -/
theorem all_up : ∀ l : List Zs, l.all gz = true → (l.map dn).map up = l ∧ ∀ s ∈ l.map dn, gs s = true
  | [], _ => ⟨rfl, fun s h => by cases h⟩
  | z :: l, h => by
    simp only [List.all_cons, Bool.and_eq_true] at h
    obtain ⟨i1, i2⟩ := all_up l h.2
    obtain ⟨s, hs, rfl⟩ := gz_good h.1
    refine ⟨by rw [List.map_cons, List.map_cons, i1, dn_up], fun x hx => ?_⟩
    rcases List.mem_cons.1 hx with rfl | hx
    · rw [dn_up]; exact hs
    · exact i2 x hx

set_option maxHeartbeats 4000000 in
set_option maxRecDepth 100000 in
theorem rprint_yes (l : List Sg) (ao : Option Addr) (ca n : Nat) (r : ByteArray) (w : World) (hn : l.length = n) (hn2 : n ≤ 10000) (ha : Lies w ao (cz l)) (hgd : ∀ s ∈ l, gs s = true) (hr : r.data.toList = pr l) :
    Calls Tryd.prog 12 #[.slice ao n ca] w fun e w' => e = .returned (.agg #[.string r, .bool true]) ∧ Grw w w' := by
  have RA := Lib.hid ha
  have HN := Lib.hid hn
  have GD := Lib.hid hgd
  have HR := Lib.hid hr
  clear ha hn hgd hr
  go_enter Tryd.func12, Tryd.ntmps12
  go_wp2_with fail
  go_loopw [3, 4] (fun sv i wr => ∃ (k : Nat) (q : ByteArray), k ≤ n ∧ i = .int .i64 k ∧ sv = .string q ∧ q.data.toList = pr (l.take k) ∧ Grw (w.alloc (.cells #[.string ByteArray.empty, .bool false] 30)) wr) (fun _ i _ => n - (intOf i).toNat)
  case atStart => exact ⟨0, ⟨#[]⟩, Nat.zero_le _, rfl, rfl, rfl, Grw.rfl' _⟩
  case round =>
    obtain ⟨k, q, hk, rfl, rfl, hq, hg⟩ := hrel
    have G := Lib.hid hg
    have GW := Lib.hid (Grw.two hg)
    have HQ := Lib.hid hq
    by_cases hk' : k < n
    · have hki : (k : Int) < (n : Int) := by omega
      have hkl : k < l.length := by rw [HN.out]; exact hk'
      have hkl' : k < (l.map up).length := by rw [List.length_map]; exact hkl
      have ha' : Lies wr ao (cs (l.map up)) := by rw [cs_up]; exact RA.out.later GW.out
      obtain ⟨ab, off, rfl, c0, c1⟩ := slies_at ha' hkl'
      rw [List.getElem_map] at c0 c1
      obtain ⟨s, hs⟩ : ∃ s, l[k] = s := ⟨_, rfl⟩
      have hgs : gs s = true := by rw [← hs]; exact GD.out _ (List.getElem_mem hkl)
      have hp := pr_take l k hkl
      rw [hs] at c0 c1 hp
      have hpl := pr_take_len l (k + 1) GD.out
      obtain ⟨tq, htq⟩ := ba_of (tx s)
      have htl := tx_len hgs
      have I := fun w => rgood_is s.k s.n true w (by have := gz_up s; rw [hgs] at this; exact this)
      have J := fun w => rtext_yes s tq w hgs htq
      have hql := pr_take_len l k GD.out
      obtain ⟨sk, sn⟩ := s
      simp only [up] at c0 c1 I J
      replace I := Lib.hid I
      replace J := Lib.hid J
      have q1 : (q.size : Int) ≤ 1000000 := by rw [size_len, hq]; rw [HN.out] at hql; omega
      have q2 : (tq.size : Int) ≤ 20 := by rw [size_len, htq]; omega
      have q3 : (((⟨#[32]⟩ : ByteArray).size : Nat) : Int) ≤ 1 := by rw [size_len]; simp
      by_cases k0 : k = 0
      · have k1 : ¬ (0 : Int) < (k : Int) := by omega
        have k2 : decide ((0 : Int) < (k : Int)) = false := decide_eq_false k1
        have HP : Hid ((q ++ tq).data.toList = pr (l.take (k + 1))) := Lib.hid (by rw [hp, if_pos k0, ba_app, hq, htq, k0]; rfl)
        clear hp hq hg hs hgs hpl htq htl hql ha' k0
        go_wp2_with fail
        refine (I.out _).mono ?_
        rintro _ w2 ⟨rfl, hw2⟩
        have d0 := hw2.cell c0
        have d1 := hw2.cell c1
        have G2 := Lib.hid (G.out.trans hw2)
        clear hw2 c0 c1
        go_wp2_with fail
        refine (J.out _).mono ?_
        rintro _ w3 ⟨rfl, hw3⟩
        have G3 := Lib.hid (G2.out.trans hw3)
        clear hw3 d0 d1
        go_wp2_with fail
        go_roundw
        case rel => exact ⟨k + 1, _, by omega, by go_num, rfl, HP.out, G3.out⟩
        case measure => simp [intOf]; omega
      · have k1 : (0 : Int) < (k : Int) := by omega
        have k2 : decide ((0 : Int) < (k : Int)) = true := decide_eq_true k1
        have HP : Hid ((q ++ ⟨#[32]⟩ ++ tq).data.toList = pr (l.take (k + 1))) := Lib.hid (by rw [hp, if_neg k0, ba_app, ba_app, hq, htq]; simp)
        clear hp hq hg hs hgs hpl htq htl hql ha' k0
        generalize (⟨#[32]⟩ : ByteArray) = sp at *
        go_wp2_with fail
        refine (I.out _).mono ?_
        rintro _ w2 ⟨rfl, hw2⟩
        have d0 := hw2.cell c0
        have d1 := hw2.cell c1
        have G2 := Lib.hid (G.out.trans hw2)
        clear hw2 c0 c1
        go_wp2_with fail
        refine (J.out _).mono ?_
        rintro _ w3 ⟨rfl, hw3⟩
        have G3 := Lib.hid (G2.out.trans hw3)
        clear hw3 d0 d1
        go_wp2_with fail
        go_roundw
        case rel => exact ⟨k + 1, _, by omega, by go_num, rfl, HP.out, G3.out⟩
        case measure => simp [intOf]; omega
    · have hki : ¬ (k : Int) < (n : Int) := by omega
      have e : q = r := ba_ext (by rw [hq, HR.out, List.take_of_length_le (by rw [HN.out]; omega)])
      subst e
      have T := Two.grown hg
      have f0 := T.f0
      have f1 := T.f1
      have t0 := T.c0
      have t1 := T.c1
      clear hg hq T
      go_wp2_with fail
      exact bodyPost_ret (v := .agg #[.string q, .bool true]) (by simp [results, Tryd.results12, go_sem, t0, t1]) rfl ⟨rfl, GW.out.set2 (Nat.le_refl _) _ _⟩
end Go.Proofs.YtiocnagbcbhggaaDoor
