/- The contract of the document's Print at this program, where a sign may not be written; both as one. -/
import Derived.Test.YtiocnagbcbhggaaDoorWh
namespace Go.Proofs.YtiocnagbcbhggaaDoor
open Go.RowKit SM
set_option linter.unusedSimpArgs false

set_option maxHeartbeats 4000000 in
set_option maxRecDepth 100000 in
theorem rprint_no (l : List Zs) (ao : Option Addr) (ca n m : Nat) (w : World) (hn : l.length = n) (hn2 : n ≤ 10000) (ha : Lies w ao (cs l)) (hm : m < l.length) (hbad : gz l[m] = false) (hgd : ∀ s ∈ (l.map dn).take m, gs s = true) (hup : ∀ j (h : j < l.length), j < m → l[j] = up (dn l[j])) :
    Calls Tryd.prog 12 #[.slice ao n ca] w fun e w' => e = .returned (.agg #[.string ⟨#[]⟩, .bool false]) ∧ Grw w w' := by
  have RA := Lib.hid ha
  have HN := Lib.hid hn
  have GD := Lib.hid hgd
  have UP := Lib.hid hup
  have HB := Lib.hid hbad
  have hmn : m < n := by rw [← hn]; exact hm
  clear ha hn hgd hup hbad
  go_enter Tryd.func12, Tryd.ntmps12
  go_wp2_with fail
  go_loopw [3, 4] (fun sv i wr => ∃ (k : Nat) (q : ByteArray), k ≤ m ∧ i = .int .i64 k ∧ sv = .string q ∧ q.data.toList = pr (((l.map dn).take m).take k) ∧ Grw (w.alloc (.cells #[.string ByteArray.empty, .bool false] 30)) wr) (fun _ i _ => n - (intOf i).toNat)
  case atStart => exact ⟨0, ⟨#[]⟩, Nat.zero_le _, rfl, rfl, rfl, Grw.rfl' _⟩
  case round =>
    obtain ⟨k, q, hk, rfl, rfl, hq, hg⟩ := hrel
    have G := Lib.hid hg
    have GW := Lib.hid (Grw.two hg)
    have HQ := Lib.hid hq
    have hki : (k : Int) < (n : Int) := by omega
    have hk' : k < n := by omega
    have hkl : k < l.length := by rw [HN.out]; exact hk'
    obtain ⟨ab, off, rfl, c0, c1⟩ := slies_at (RA.out.later GW.out) hkl
    by_cases hkm : k < m
    · have hkM : k < ((l.map dn).take m).length := by rw [List.length_take, List.length_map]; omega
      have hML : ((l.map dn).take m).length ≤ n := by rw [List.length_take, List.length_map, HN.out]; omega
      obtain ⟨s, hs⟩ : ∃ s, dn l[k] = s := ⟨_, rfl⟩
      have hs2 : l[k] = up s := by rw [← hs]; exact UP.out k hkl hkm
      have hs3 : ((l.map dn).take m)[k] = s := by rw [List.getElem_take, List.getElem_map]; exact hs
      have hgs : gs s = true := by rw [← hs3]; exact GD.out _ (List.getElem_mem hkM)
      have hp := pr_take _ k hkM
      rw [hs3] at hp
      rw [hs2] at c0 c1
      have hpl := pr_take_len _ (k + 1) GD.out
      obtain ⟨tq, htq⟩ := ba_of (tx s)
      have htl := tx_len hgs
      have I := fun w => rgood_is s.k s.n true w (by have := gz_up s; rw [hgs] at this; exact this)
      have J := fun w => rtext_yes s tq w hgs htq
      have hql := pr_take_len _ k GD.out
      obtain ⟨sk, sn⟩ := s
      simp only [up] at c0 c1 I J
      replace I := Lib.hid I
      replace J := Lib.hid J
      have q1 : (q.size : Int) ≤ 1000000 := by rw [size_len, hq]; omega
      have q2 : (tq.size : Int) ≤ 20 := by rw [size_len, htq]; omega
      have q3 : (((⟨#[32]⟩ : ByteArray).size : Nat) : Int) ≤ 1 := by rw [size_len]; simp
      by_cases k0 : k = 0
      · have k1 : ¬ (0 : Int) < (k : Int) := by omega
        have k2 : decide ((0 : Int) < (k : Int)) = false := decide_eq_false k1
        have HP : Hid ((q ++ tq).data.toList = pr (((l.map dn).take m).take (k + 1))) := Lib.hid (by rw [hp, if_pos k0, ba_app, hq, htq, k0]; rfl)
        clear hp hq hg hs hs2 hs3 hgs hpl htq htl hql k0 hML hkM
        go_wp2_with fail
        refine (I.out _).mono ?_
        rintro _ w2 ⟨rfl, hw2⟩
        have d0 := hw2.cell c0
        have d1 := hw2.cell c1
        have G2 := Lib.hid (G.out.trans hw2)
        clear hw2 c0 c1
        go_wp2_with fail
        refine (J.out _).mono ?_
        rintro _ w3 ⟨rfl, hw3⟩
        have G3 := Lib.hid (G2.out.trans hw3)
        clear hw3 d0 d1
        go_wp2_with fail
        go_roundw
        case rel => exact ⟨k + 1, _, by omega, by go_num, rfl, HP.out, G3.out⟩
        case measure => simp [intOf]; omega
      · have k1 : (0 : Int) < (k : Int) := by omega
        have k2 : decide ((0 : Int) < (k : Int)) = true := decide_eq_true k1
        have HP : Hid ((q ++ ⟨#[32]⟩ ++ tq).data.toList = pr (((l.map dn).take m).take (k + 1))) := Lib.hid (by rw [hp, if_neg k0, ba_app, ba_app, hq, htq]; simp)
        clear hp hq hg hs hs2 hs3 hgs hpl htq htl hql k0 hML hkM
        generalize (⟨#[32]⟩ : ByteArray) = sp at *
        go_wp2_with fail
        refine (I.out _).mono ?_
        rintro _ w2 ⟨rfl, hw2⟩
        have d0 := hw2.cell c0
        have d1 := hw2.cell c1
        have G2 := Lib.hid (G.out.trans hw2)
        clear hw2 c0 c1
        go_wp2_with fail
        refine (J.out _).mono ?_
        rintro _ w3 ⟨rfl, hw3⟩
        have G3 := Lib.hid (G2.out.trans hw3)
        clear hw3 d0 d1
        go_wp2_with fail
        go_roundw
        case rel => exact ⟨k + 1, _, by omega, by go_num, rfl, HP.out, G3.out⟩
        case measure => simp [intOf]; omega
    · obtain rfl : k = m := by omega
      obtain ⟨z, hz⟩ : ∃ z, l[k] = z := ⟨_, rfl⟩
      have hb := HB.out
      rw [hz] at c0 c1 hb
      obtain ⟨zk, zn⟩ := z
      simp only at c0 c1
      have I := Lib.hid (fun w => rgood_is zk zn false w hb)
      clear hz hb hq hg HB
      go_wp2_with fail
      refine (I.out _).mono ?_
      rintro _ w2 ⟨rfl, hw2⟩
      have T := Two.grown (G.out.trans hw2)
      have f0 := T.f0
      have f1 := T.f1
      have t0 := T.c0
      have t1 := T.c1
      have G2 := Lib.hid (GW.out.trans hw2)
      clear hw2 T c0 c1
      go_wp2_with fail
      exact bodyPost_ret (v := .agg #[.string ⟨#[]⟩, .bool false]) (by simp [results, Tryd.results12, go_sem, t0, t1]) rfl ⟨rfl, G2.out.set2 (Nat.le_refl _) _ _⟩

/-- the first that may not be written. -/
theorem first_bad : ∀ l : List Zs, l.all gz = false → ∃ m, ∃ h : m < l.length, gz l[m] = false ∧ (∀ s ∈ (l.map dn).take m, gs s = true) ∧ ∀ j (h : j < l.length), j < m → l[j] = up (dn l[j])
  | [], h => by simp at h
  | z :: l, h => by
    rcases hz : gz z with _ | _
    · exact ⟨0, by simp, hz, fun s hs => by simp at hs, fun j _ hj => by omega⟩
    · have h2 : l.all gz = false := by rw [List.all_cons, hz] at h; simpa using h
      obtain ⟨m, hm, h3, h4, h5⟩ := first_bad l h2
      obtain ⟨s, hs, rfl⟩ := gz_good hz
      refine ⟨m + 1, by simpa using hm, by simpa using h3, fun x hx => ?_, fun j hj hjm => ?_⟩
      · rw [List.map_cons, List.take_succ_cons] at hx
        rcases List.mem_cons.1 hx with rfl | hx
        · rw [dn_up]; exact hs
        · exact h4 x hx
      · cases j with
        | zero => simp only [List.getElem_cons_zero, dn_up]
        | succ j => simp only [List.getElem_cons_succ]; exact h5 j (by simpa using hj) (by omega)
theorem rprint_is (l : List Zs) (ao : Option Addr) (ca n : Nat) (r : ByteArray) (ok : Bool) (w : World) (hn : l.length = n) (hn2 : n ≤ 10000) (ha : Lies w ao (cs l))
    (hok : ok = l.all gz) (hr : r.data.toList = if ok then pr (l.map dn) else []) :
    Calls Tryd.prog 12 #[.slice ao n ca] w fun e w' => e = .returned (.agg #[.string r, .bool ok]) ∧ Grw w w' := by
  rcases h : l.all gz with _ | _
  · obtain ⟨m, hm, h3, h4, h5⟩ := first_bad l h
    rw [h] at hok
    subst hok
    have : r = ⟨#[]⟩ := ba_ext (by rw [hr]; rfl)
    subst this
    exact rprint_no l ao ca n m w hn hn2 ha hm h3 h4 h5
  · obtain ⟨h1, h2⟩ := all_up l h
    rw [h] at hok
    subst hok
    refine rprint_yes (l.map dn) ao ca n r w (by rw [List.length_map]; exact hn) hn2 ?_ h2 (by rw [hr]; rfl)
    rw [← cs_up, h1]; exact ha
end Go.Proofs.YtiocnagbcbhggaaDoor
