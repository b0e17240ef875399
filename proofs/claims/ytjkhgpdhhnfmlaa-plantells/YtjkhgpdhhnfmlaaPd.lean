/- The contracts of slices.Grow, slices.Concat and plan.Cancel at this program. -/
import Derived.Test.YtjkhgpdhhnfmlaaPc
namespace Go.Proofs.Ytjkhgpdhhnfmlaa
open Go.RowKit
open RG (Du)
open PM
set_option linter.unusedSimpArgs false

theorem grow_ex (m : Nat) (w : World) (h0 : 0 < m) (hm : m ≤ 1000000) :
    ∃ c w', (Builtin.append_ #[22, 3] 22 #[.slice none 0 0, .int .i64 (m : Nat)]).run Try.prog w = .ok (.slice (some ⟨w.heap.size, 0, none⟩) m c) w' ∧ NewD w w' (.slice (some ⟨w.heap.size, 0, none⟩) 0 c) [] ∧ Grw w w' := by
  obtain ⟨i0, hi, hz0, hz1, hz2⟩ := info_parts Try.info25
  have hr := Lib.run_append_nil_zeros (P := Try.prog) w 22 3 22 25 i0 _ .i64 .i64 Try.underlying22 Try.underlying3 hi hz0 m h0 (by rw [hz1]; decide) (by omega) (by rw [hz2]; omega)
  have hge := grownCap_ge w m 0 25
  have hcm := grownCap_le_maxLen w m 0 25 (by unfold maxLen; omega)
  refine ⟨_, _, hr, ⟨rfl, .inr ⟨w.heap.size, _, _, rfl, Nat.le_refl _, heap_alloc_new w.drew _, Nat.zero_le _, hcm, ?_, ?_⟩⟩, ((Grw.rfl' w).drew).alloc _⟩
  · simp only [Array.size_append, size_zeroCells]
    show m * 2 + (grownCap w m 0 25 - m) * 2 = _
    omega
  · simp [cd]
set_option maxRecDepth 100000 in
theorem grow_is (m : Nat) (w : World) (hm : m ≤ 1000000) : Calls Try.prog 35 #[.slice none 0 0, .int .i64 (m : Nat)] w fun e w' => ∃ v, e = .returned v ∧ NewD w w' v [] ∧ Grw w w' := by
  have w0 : IntKind.i64.wrap (m : Int) = m := by rw [IntKind.wrap_i64]; omega
  have hneg : decide ((m : Int) < 0) = false := by simp
  obtain ⟨Q, hQ⟩ : ∃ Q : Ending → World → Prop, Q = fun e w' => ∃ v, e = .returned v ∧ NewD w w' v [] ∧ Grw w w' := ⟨_, rfl⟩
  rw [← hQ]
  have QQ := Lib.hid hQ
  by_cases h0 : 0 < m
  · obtain ⟨c, w', hr, hnew, hg⟩ := grow_ex m w h0 hm
    have R := Lib.hid hr
    have U := Lib.hid (And.intro hnew hg)
    have hp : decide ((0 : Int) < (m : Int)) = true := by simp; omega
    have hp2 : decide (0 < m) = true := by simp; omega
    have hc : (0 : Int) ≤ (c : Int) := by omega
    clear hr hnew hg hQ
    go_enter Try.func35, Try.ntmps35
    go_wp2_with (at_builtin; refine Lib.wpList_append_run _ rfl _ _ _ _ rfl _ _ rfl rfl _ _ R.out ?_)
    rw [QQ.out]
    exact ⟨_, rfl, U.out.1, U.out.2⟩
  · obtain rfl : m = 0 := by omega
    clear hQ
    go_enter Try.func35, Try.ntmps35
    go_wp2_with fail
    rw [QQ.out]
    exact ⟨_, rfl, NewD.nil _ _, Grw.rfl' _⟩
/-- both appends of Concat. -/
theorem cat_appends (w x y : World) (g : Grw w x) (v : Value) (h : NewD x y v []) (gy : Grw x y) (u1 u2 : Value) (l1 l2 : List Du) (r1 : RowD w u1 l1) (r2 : RowD w u2 l2) (hb : l1.length + l2.length ≤ 1000000) :
    ∃ v1 y1 v2 y2, (Builtin.append_ #[22, 22] 22 #[v, u1]).run Try.prog y = .ok v1 y1 ∧ (Builtin.append_ #[22, 22] 22 #[v1, u2]).run Try.prog y1 = .ok v2 y2 ∧ NewD w y2 v2 (l1 ++ l2) ∧ Grw w y2 ∧ Grw w y1 := by
  have gxy := g.trans gy
  have hs := Below.size g
  have hs2 := Below.size gy
  obtain ⟨v1, y1, hr1, o1, gr1, or1⟩ := app_ex y v [] l1 (base_down h) u1 (r1.later gxy) (by simp; omega)
  have b0 : ∀ k, v.ownBlock = some k → w.heap.size ≤ k := fun k hk => Nat.le_trans hs (NewD.ge h hk).1
  have g1 := (grownBy_frm gr1).grw gxy b0
  have b1 : ∀ k, v1.ownBlock = some k → w.heap.size ≤ k := fun k hk => by
    rcases or1 with e | e
    · exact b0 k (e ▸ hk)
    · rw [e] at hk
      injection hk with hk
      omega
  rw [List.nil_append] at o1
  obtain ⟨v2, y2, hr2, o2, gr2, or2⟩ := app_ex y1 v1 l1 l2 o1 u2 (r2.later g1) (by omega)
  refine ⟨v1, y1, v2, y2, hr1, hr2, base_up o2 (fun k hk => ?_), (grownBy_frm gr2).grw g1 b1, g1⟩
  rcases or2 with e | e
  · exact b1 k (e ▸ hk)
  · rw [e] at hk
    injection hk with hk
    have := Below.size g1
    omega
set_option maxHeartbeats 2000000 in
set_option maxRecDepth 100000 in
theorem concat_is (g : Nat) (u1 u2 : Value) (l1 l2 : List Du) (w : World) (c0 : w.cell? ⟨g, 0, none⟩ = some u1) (c1 : w.cell? ⟨g, 1, none⟩ = some u2) (r1 : RowD w u1 l1) (r2 : RowD w u2 l2) (hb : l1.length + l2.length ≤ 1000000) :
    Calls Try.prog 24 #[.slice (some ⟨g, 0, none⟩) 2 2] w fun e w' => ∃ v, e = .returned v ∧ NewD w w' v (l1 ++ l2) ∧ Grw w w' := by
  obtain ⟨Q, hQ⟩ : ∃ Q : Ending → World → Prop, Q = fun e w' => ∃ v, e = .returned v ∧ NewD w w' v (l1 ++ l2) ∧ Grw w w' := ⟨_, rfl⟩
  rw [← hQ]
  have QQ := Lib.hid hQ
  have AP := Lib.hid (fun y v (h : NewD w y v []) (gy : Grw w y) => cat_appends w w y (Grw.rfl' w) v h gy u1 u2 l1 l2 r1 r2 hb)
  obtain ⟨a1, k1, rfl, _⟩ := r1
  obtain ⟨a2, k2, rfl, _⟩ := r2
  obtain ⟨n1, hn1⟩ : ∃ n1, l1.length = n1 := ⟨_, rfl⟩
  obtain ⟨n2, hn2⟩ : ∃ n2, l2.length = n2 := ⟨_, rfl⟩
  rw [hn1] at AP c0 hb
  rw [hn2] at AP c1 hb
  obtain ⟨s, hs⟩ : ∃ s, n1 + n2 = s := ⟨_, rfl⟩
  have e0 : IntKind.i64.wrap (n1 : Int) = n1 := by rw [IntKind.wrap_i64]; omega
  have e1 : (n1 : Int) + (n2 : Int) = s := by omega
  have e2 : IntKind.i64.wrap (s : Int) = s := by rw [IntKind.wrap_i64]; omega
  have d1 : decide ((n1 : Int) < 0) = false := by simp
  have d2 : decide ((s : Int) < 0) = false := by simp
  have GR := Lib.hid (grow_is s w (by omega))
  clear hQ hn1 hn2 hs hb
  go_enter Try.func24, Try.ntmps24
  go_wp2_with fail
  refine wp_loop_rounds 3 ?_
  rw [rounds_succ]
  go_wp2_with fail
  rw [rounds_succ]
  go_wp2_with fail
  rw [rounds_succ]
  go_wp2_with fail
  refine GR.out.mono ?_
  rintro _ w1 ⟨v, rfl, hv, hg⟩
  obtain ⟨v1, y1, v2, y2, hr1, hr2, hnew, gy, gy1⟩ := AP.out w1 v hv hg
  have R1 := Lib.hid hr1
  have R2 := Lib.hid hr2
  have U := Lib.hid (And.intro hnew gy)
  have C1 := Lib.hid (gy1.cell c1)
  have k0 := hg.cell c0
  clear hr1 hr2 hnew gy hv hg c0 c1 gy1
  go_wp2_with fail
  refine wp_loop_rounds 3 ?_
  rw [rounds_succ]
  go_wp2_with (at_builtin; refine Lib.wpList_append_run _ rfl _ _ _ _ rfl _ _ rfl rfl _ _ R1.out ?_)
  have k1 := C1.out
  rw [rounds_succ]
  go_wp2_with (at_builtin; refine Lib.wpList_append_run _ rfl _ _ _ _ rfl _ _ rfl rfl _ _ R2.out ?_)
  rw [rounds_succ]
  go_wp2_with fail
  rw [QQ.out]
  exact ⟨_, rfl, U.out.1, U.out.2⟩
set_option maxHeartbeats 2000000 in
set_option maxRecDepth 100000 in
theorem cancel_none (ao : Option Addr) (cap : Nat) (l : List Du) (n : Nat) (i : Int) (w : World) (hl : Lies w ao (cd l)) (hb : l.length ≤ 100000) (hn : l.length = n) (hi : i ∉ ids l) :
    Calls Try.prog 9 #[.slice ao n cap, .int .i64 i] w (PlanQ false [] w) := by
  have hr := (fx_or l i).resolve_right (fun ⟨k, hk, _, h2, _⟩ => hi (mem_ids.2 ⟨_, List.getElem_mem hk, h2⟩))
  have F := Lib.hid (find_is ao cap l n i (-1) w hl (by omega) hn hr.1)
  clear hl hb hn hi hr
  go_enter Try.func9, Try.ntmps9
  go_wp2_with fail
  refine F.out.mono ?_
  rintro _ w1 ⟨rfl, hg⟩
  have G := Lib.hid hg
  clear hg
  go_wp2_with fail
  go_ret2
  exact ⟨_, rfl, NewD.nil _ _, G.out⟩
set_option maxHeartbeats 2000000 in
set_option maxRecDepth 100000 in
theorem cancel_bad (ao : Option Addr) (cap : Nat) (l : List Du) (n : Nat) (i : Int) (w : World) (hl : Lies w ao (cd l)) (hb : l.length ≤ 100000) (hw : Wis l) (hn : l.length = n) (hi : i ∈ ids l) (ho : ¬ Gd l) :
    Calls Try.prog 9 #[.slice ao n cap, .int .i64 i] w (PlanQ false [] w) := by
  obtain ⟨r, hr⟩ : ∃ r, fx l i = r := ⟨_, rfl⟩
  have F := Lib.hid (find_is ao cap l n i r w hl (by omega) hn hr)
  have GD := Lib.hid (fun u (g : Grw w u) => good_is ao cap l n false u (hl.later g) (by omega) hw hn (gdB_f ho))
  have hr0 : 0 ≤ r := by
    have := mt fx_neg.1 (fun c => c hi)
    omega
  have hrb : decide (r < 0) = false := by simp; omega
  clear hl hb hw hn ho hi hr
  go_enter Try.func9, Try.ntmps9
  go_wp2_with fail
  refine F.out.mono ?_
  rintro _ w1 ⟨rfl, hg⟩
  have G0 := Lib.hid (GD.out w1 hg)
  have G := Lib.hid hg
  clear hg
  go_wp2_with fail
  refine G0.out.mono ?_
  rintro _ w2 ⟨rfl, hg⟩
  have G2 := Lib.hid (G.out.trans hg)
  clear hg
  go_wp2_with fail
  go_ret2
  exact ⟨_, rfl, NewD.nil _ _, G2.out⟩
theorem lies_tail {w : World} {a : Option Addr} {l : List Du} {d : Du} (h : Lies w a (cd (d :: l))) (q : Nat) (hq : l.length = q) : Lies w (if q + 1 = 1 then a else a.map (·.add (1 * 2))) (cd l) := by
  rcases h with h | ⟨b, off, e, hb, hc⟩
  · cases h
  · subst e
    by_cases h0 : q + 1 = 1
    · left
      have : l = [] := List.eq_nil_of_length_eq_zero (by omega)
      rw [this]; rfl
    · rw [if_neg h0]
      refine Or.inr ⟨b, off + 2, by simp [Addr.add_lit], hb, fun j u hj => ?_⟩
      have := hc (j + 2) u (by simpa [cd] using hj)
      rwa [show off + (j + 2) = off + 2 + j by omega] at this
set_option maxHeartbeats 2000000 in
set_option maxRecDepth 100000 in
theorem cancel_yes (ao : Option Addr) (cap : Nat) (l : List Du) (n : Nat) (i : Int) (w : World) (hl : Lies w ao (cd l)) (hb : l.length ≤ 100000) (hw : Wis l) (hn : l.length = n) (hcap : n ≤ cap) (hnil : ao = none → n = 0) (hi : i ∈ ids l) (ho : Gd l) :
    Calls Try.prog 9 #[.slice ao n cap, .int .i64 i] w (PlanQ true (del i l) w) := by
  obtain ⟨Q, hQ⟩ : ∃ Q, PlanQ true (del i l) w = Q := ⟨_, rfl⟩
  rw [hQ]
  have QQ := Lib.hid hQ
  obtain ⟨k, hk, hr, he, _⟩ := (fx_or l i).resolve_left (fun c => c.2 hi)
  have F := Lib.hid (find_is ao cap l n i k w hl (by omega) hn hr)
  have GD := Lib.hid (fun u (g : Grw w u) => good_is ao cap l n true u (hl.later g) (by omega) hw hn (gdB_t ho))
  obtain ⟨q, hq⟩ : ∃ q, k + (q + 1) = n := ⟨n - k - 1, by omega⟩
  have CT := Lib.hid (fun u (g : Grw w u) => cut_is ao cap l n k (q + 1) u (hl.later g) hn hq hcap hnil)
  have hdrop : l.drop k = l[k] :: l.drop (k + 1) := (List.getElem_cons_drop hk).symm
  have hlen : (l.drop (k + 1)).length = q := by rw [List.length_drop]; omega
  have hlen1 : (l.take k).length = k := by rw [List.length_take]; omega
  have CD := cut_del ho.2 hk he
  have hbk : k + q ≤ 100000 := by omega
  have HH := Lib.hid (And.intro hdrop (And.intro hlen (And.intro hlen1 CD)))
  have hrb : decide ((k : Int) < 0) = false := by simp
  have hkk : ¬ (k : Int) < 0 := by omega
  clear hl hb hw hn hcap hnil hi ho hr hQ hdrop hlen hlen1 CD hq
  go_enter Try.func9, Try.ntmps9
  go_wp2_with fail
  refine F.out.mono ?_
  rintro _ w1 ⟨rfl, hg⟩
  have G0 := Lib.hid (GD.out w1 hg)
  have G1 := Lib.hid hg
  clear hg
  go_wp2_with fail
  refine G0.out.mono ?_
  rintro _ w2 ⟨rfl, hg⟩
  have G2 := Lib.hid (G1.out.trans hg)
  have C0 := Lib.hid (CT.out w2 G2.out)
  clear hg
  go_wp2_with fail
  refine C0.out.mono ?_
  rintro _ w3 ⟨a1, a2, rfl, h1, l1, h2, l2, hg⟩
  have G3 := Lib.hid (G2.out.trans hg)
  rw [HH.out.1] at l2
  have l3 := lies_tail l2 q HH.out.2.1
  have CC : Hid (∀ a3, (if q + 1 = 1 then a2 else a2.map (·.add (1 * 2))) = a3 → Calls Try.prog 24 #[.slice (some ⟨w3.heap.size, 0, none⟩) 2 2] (w3.alloc (.cells #[.slice a1 k k, .slice a3 q q] 22)) fun e w' => ∃ v, e = .returned v ∧ NewD w w' v (del i l) ∧ Grw w w') := (fun a3 h3 => by
    rw [h3] at l3
    have gx := (Grw.rfl' w3).alloc (.cells #[.slice a1 k k, .slice a3 q q] 22)
    refine (concat_is w3.heap.size (.slice a1 k k) (.slice a3 q q) (l.take k) (l.drop (k + 1)) _ (by simp [go_sem]) (by simp [go_sem]) ⟨a1, k, by rw [HH.out.2.2.1], l1.later gx⟩ ⟨a3, q, by rw [HH.out.2.1], l3.later gx⟩ (by rw [HH.out.2.1, HH.out.2.2.1]; omega)).mono ?_
    rintro e w' ⟨v, he, hnew, hg'⟩
    rw [HH.out.2.2.2] at hnew
    refine ⟨v, he, base_up (base_down hnew) (fun c hc => ?_), (G3.out.trans gx).trans hg'⟩
    exact Nat.le_trans (Below.size (G3.out.trans gx)) (NewD.ge hnew hc).1 : ∀ a3, (if q + 1 = 1 then a2 else a2.map (·.add (1 * 2))) = a3 → Calls Try.prog 24 #[.slice (some ⟨w3.heap.size, 0, none⟩) 2 2] (w3.alloc (.cells #[.slice a1 k k, .slice a3 q q] 22)) fun e w' => ∃ v, e = .returned v ∧ NewD w w' v (del i l) ∧ Grw w w')
  have hs1 : (1 : Int) ≤ ((q + 1 : Nat) : Int) := by omega
  by_cases hq0 : q = 0
  · subst hq0
    have C3 := Lib.hid (CC.out a2 (by simp))
    clear hg h1 l1 h2 l2 l3 CC
    go_wp2_with fail
    refine C3.out.mono ?_
    rintro _ w4 ⟨v, rfl, hnew, hg⟩
    have U := Lib.hid (And.intro hnew hg)
    clear hnew hg
    go_wp2_with fail
    rw [← QQ.out]
    exact ⟨_, rfl, U.out.1, U.out.2⟩
  · have C3 := Lib.hid (CC.out (a2.map (·.add 2)) (by simp [hq0]))
    clear hg h1 l1 h2 l2 l3 CC
    go_wp2_with fail
    refine C3.out.mono ?_
    rintro _ w4 ⟨v, rfl, hnew, hg⟩
    have U := Lib.hid (And.intro hnew hg)
    clear hnew hg
    go_wp2_with fail
    rw [← QQ.out]
    exact ⟨_, rfl, U.out.1, U.out.2⟩
end Go.Proofs.Ytjkhgpdhhnfmlaa
