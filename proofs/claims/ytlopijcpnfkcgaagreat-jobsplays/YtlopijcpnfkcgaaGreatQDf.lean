/- The document's queue: Drop. -/
import Derived.Test.YtlopijcpnfkcgaaGreatQDd
namespace Go.Proofs.YtlopijcpnfkcgaaGreat
namespace QQ
open Go.RowKit
set_option linter.unusedSimpArgs false
variable {X : Nat → Value → Prop}

/-- a slice, cut: where its end lies. -/
theorem cut_drop {w : World} {b off : Nat} {xs : List Value} (h : Lies w (some ⟨b, off, none⟩) xs) (k : Nat) : ∀ j u, (xs.drop k)[j]? = some u → w.cell? ((⟨b, off + k, none⟩ : Addr).add j) = some u := by
  intro j u hj
  rw [List.getElem?_drop] at hj
  rcases h with h | ⟨b', off', e, _, hc⟩
  · rw [h] at hj; cases hj
  · injection e with e
    injection e with e1 e2
    subst e1; subst e2
    rw [Addr.add_lit, Nat.add_assoc]
    exact hc _ u hj
theorem cut_take {w : World} {ao : Option Addr} {xs : List Value} (h : Lies w ao xs) (k : Nat) : Lies w ao (xs.take k) := by
  rcases h with h | ⟨b, off, e, hb, hc⟩
  · left; rw [h]; simp
  · refine Or.inr ⟨b, off, e, hb, fun j u hj => hc j u ?_⟩
    rw [List.getElem?_take] at hj
    split at hj
    · exact hj
    · cases hj
set_option maxRecDepth 100000 in
/-- a copy without the k-th. -/
theorem app_drop (w u : World) (g cap n k m : Nat) (L : List Wt) (hu : Grw w u) (he : u.heap[w.heap.size]? = some (.cells #[] 77)) (hl : Lies w (some ⟨g, 0, none⟩) (cw L)) (hn : L.length = n) (hk : k + 1 + m = n) (hnc : n ≤ cap) (hL : L.length ≤ 100000)
    (ad : Addr) (c : Nat) (had : if cap = k + 1 then ad = ⟨g, 0, none⟩ else ad = ⟨g, (k + 1) * 3, none⟩) :
    ∃ v1 u1 v2 u2, (Builtin.append_ #[62, 62] 62 #[.slice (some ⟨w.heap.size, 0, none⟩) 0 0, .slice (some ⟨g, 0, none⟩) k cap]).run Tryz.prog u = .ok v1 u1 ∧ (Builtin.append_ #[62, 62] 62 #[v1, .slice (some ad) m c]).run Tryz.prog u1 = .ok v2 u2 ∧
      Grw w u1 ∧ Grw w u2 ∧ u2.ownsRow w.heap.size 77 3 v2 (k + m) (cw (L.take k ++ L.drop (k + 1))) := by
  obtain ⟨i0, hi, hz0, hz1, hz2⟩ := info_parts Tryz.info77
  have ht : Lies w (some ⟨g, 0, none⟩) (cw (L.take k)) := by rw [cw_take]; exact cut_take hl _
  have hlt : (L.take k).length = k := by rw [List.length_take]; omega
  obtain ⟨v1, u1, r1, o1, f1⟩ := app_copy w.heap.size w.heap.size cap k (some ⟨g, 0, none⟩) (L.take k) u (empty_row w u w.heap.size (Nat.le_refl _) he) (ht.later hu) hlt (fun e => by cases e) (by omega) (Below.size hu)
  have g1 : Grw w u1 := f1.grw hu (fun k e => Nat.le_of_eq e.symm)
  have hdl : (cw (L.drop (k + 1))).length = m * 3 := by rw [cw_len, List.length_drop]; omega
  have hnews : ∀ j x, (cw (L.drop (k + 1)))[j]? = some x → u1.cell? (ad.add j) = some x := by
    intro j x hj
    by_cases hc : cap = k + 1
    · have hm : m = 0 := by omega
      rw [hm] at hdl
      have h0 : cw (L.drop (k + 1)) = [] := List.eq_nil_of_length_eq_zero (by simpa using hdl)
      rw [h0] at hj
      cases hj
    · rw [if_neg hc] at had
      subst had
      rw [cw_drop] at hj
      have := cut_drop (hl.later g1) ((k + 1) * 3) j x hj
      rwa [Nat.zero_add] at this
  obtain ⟨v2, u2, r2, o2, f2, _⟩ := run_append_own (P := Tryz.prog) u1 w.heap.size 62 62 77 i0 _ 3 24 Tryz.underlying62 hi hz0 hz1 hz2 rfl (by decide) v1 k (cw (L.take k)) o1 ad m c (cw (L.drop (k + 1))) hdl hnews (cw_one _) (by unfold maxLen; omega) (by omega) (Below.size g1)
  refine ⟨v1, u1, v2, u2, r1, r2, g1, (grownBy_frm f2).grw g1 (fun q e => (o1.lt q e).1), ?_⟩
  rw [cw_app]
  exact o2
theorem own_or {w : World} {B n : Nat} {v : Value} {xs : List Value} (o : w.ownsRow B 77 3 v n xs) : ∃ ao cap, v = .slice ao n cap := by
  obtain ⟨ao, cap, e, _⟩ := ownsRow_lies o
  exact ⟨ao, cap, e⟩
set_option maxHeartbeats 20000000 in
set_option maxRecDepth 100000 in
theorem rdrop_no {r : Nat} {a room count : Int} {v : Value} {L : List Wt} {w : World} (h : RQ X w r a room count v L) (id : Int) (hn : ∀ j, j < L.length → (gt L j).id ≠ id) :
    Calls Tryz.prog 44 #[.pointer (some ⟨r, 0, none⟩), .int .i64 id] w fun e w' => e = .returned (.bool false) ∧ Grw w w' := by
  have C := Lib.hid (rfind_is h id)
  have HT := Lib.hid hn
  clear h hn
  go_enter Tryz.func44, Tryz.ntmps44
  go_wp2_with fail
  refine C.out.mono ?_
  rintro _ w1 ⟨k, rfl, hat, hg⟩
  have hk : k = -1 := by
    rcases hat with ⟨j, hj, e, e'⟩ | ⟨e, _⟩
    · exact absurd e' (HT.out j hj)
    · exact e
  subst hk
  have G := Lib.hid hg
  clear hat hg
  go_wp2_with fail
  go_ret
  exact ⟨rfl, G.out⟩
set_option maxHeartbeats 20000000 in
set_option maxRecDepth 100000 in
theorem rdrop_yes {r : Nat} {a room count : Int} {v : Value} {L : List Wt} {w : World} (h : RQ X w r a room count v L) (id : Int) (k : Nat) (hk : k < L.length) (hid : (gt L k).id = id) (hu : ∀ j, j < L.length → (gt L j).id = id → j = k) :
    Calls Tryz.prog 44 #[.pointer (some ⟨r, 0, none⟩), .int .i64 id] w fun e w' => e = .returned (.bool true) ∧ ∃ v', RQ X w' r a room count v' (L.take k ++ L.drop (k + 1)) ∧ Frm (fun k => k = r) w w' ∧ (∀ k, v'.ownBlock = some k → w.heap.size ≤ k) := by
  have C := Lib.hid (rfind_is h id)
  obtain ⟨g, cap, hv, hnc⟩ : ∃ g cap, v = .slice (some ⟨g, 0, none⟩) L.length cap ∧ L.length ≤ cap := by
    rcases h.row.2 with ⟨_, e2⟩ | ⟨b, cap, _, e1, _, _, e4, _⟩
    · omega
    · exact ⟨b, cap, e1, e4⟩
  subst hv
  have H := Lib.hid h
  obtain ⟨n, hn⟩ : ∃ n, L.length = n := ⟨_, rfl⟩
  have HN := Lib.hid hn
  obtain ⟨m, hm⟩ : ∃ m, k + 1 + m = n := ⟨n - (k + 1), by omega⟩
  have HM := Lib.hid hm
  have HU := Lib.hid (And.intro hk (And.intro hid hu))
  have hbn : n ≤ 10000 := by have := h.len; omega
  rw [hn] at hnc
  have q0 : decide ((k : Int) < 0) = false := by simp
  obtain ⟨K, hK⟩ : ∃ K, k + 1 = K := ⟨_, rfl⟩
  have q1 : IntKind.i64.wrap ((k : Int) + 1) = (K : Int) := by rw [← hK]; simp [IntKind.wrap_i64]; omega
  have HK := Lib.hid hK
  have HM := Lib.hid hm
  clear h hn hk hid hu hK hm
  go_enter Tryz.func44, Tryz.ntmps44
  go_wp2_with fail
  refine C.out.mono ?_
  rintro _ w2 ⟨k', rfl, hat, hg⟩
  have hk' : k' = (k : Int) := by
    rcases hat with ⟨j, hj, e, e'⟩ | ⟨_, hno⟩
    · rw [e, HU.out.2.2 j hj e']
    · exact absurd HU.out.2.1 (hno k HU.out.1)
  subst hk'
  have GQ := Lib.hid hg
  have H2 := Lib.hid (H.out.later hg)
  clear hat hg
  go_upto_region 4 with fail
  have LI : Lies w2 (some ⟨g, 0, none⟩) (cw L) := by
    obtain ⟨_, _, e, hl⟩ := ownsRow_lies H2.out.row
    injection e with e
    rw [e]; exact hl
  have hs0 : K ≤ n := by have := HK.out; have := HM.out; omega
  have hs3 : k ≤ K := by have := HK.out; omega
  by_cases hck : cap = K
  · obtain rfl : n = K := by omega
    subst hck
    clear hs0
    obtain ⟨v1, u1, v2, u2, r1, r2, g1, g2, o2⟩ := app_drop w2 (w2.drew.alloc (.cells #[] 77)) g cap cap k (cap - (k + 1)) L (((Grw.rfl' w2).drew).alloc _) (heap_alloc_new w2.drew _) LI HN.out (by have := HK.out; omega) hnc (by have := HN.out; omega) ⟨g, 0, none⟩ 0 (by rw [if_pos (by rw [HK.out])])
    obtain ⟨N2, hN2⟩ : ∃ N2, k + (cap - (k + 1)) = N2 := ⟨_, rfl⟩
    rw [hN2] at o2
    obtain ⟨ao2, cap2, rfl⟩ := own_or o2
    have LE : (L.take k ++ L.drop (k + 1)).length = N2 := by rw [List.length_append, List.length_take, List.length_drop, HN.out]; have := HK.out; have := HM.out; omega
    have O2 := Lib.hid (H2.out.row' (v' := .slice ao2 N2 cap2) (L' := L.take k ++ L.drop (k + 1)) g2 (by rw [LE]; exact o2) (by rw [LE]; have := HK.out; have := HM.out; omega))
    have FN := Lib.hid (And.intro O2.out.1 (And.intro ((GQ.out.frm (fun k => k = r)).trans O2.out.2 (fun _ e => Or.inl e)) (fun k e => Nat.le_trans (Below.size GQ.out) (o2.lt k e).1)))
    have SS : Hid (∀ x, Grw w2 x → x.cell? ⟨r, 3, none⟩ = some (.slice (some ⟨g, 0, none⟩) cap cap)) := (fun x g => by have := g.cell H2.out.c3; rwa [HN.out] at this : ∀ x, Grw w2 x → x.cell? ⟨r, 3, none⟩ = some (.slice (some ⟨g, 0, none⟩) cap cap))
    have k2 : u2.frozen? ⟨r, 3, none⟩ = false := frz_frm (g2.frm (fun _ => False)) H2.out.c3 (fun e => e) H2.out.f3
    have a0 := SS.out _ (Grw.rfl' w2)
    have a1 : ∀ o, (w2.alloc o).cell? ⟨r, 3, none⟩ = some (.slice (some ⟨g, 0, none⟩) cap cap) := fun o => SS.out _ ((Grw.rfl' w2).alloc o)
    have b1 := SS.out _ g1
    have s0 := SS.out _ g2
    replace r1 : (Builtin.append_ #[62, 62] 62 #[.slice (some ⟨w2.heap.size, 0, none⟩) 0 0, .slice (some ⟨g, 0, none⟩) k cap]).run Tryz.prog (w2.alloc (.cells #[] 77)).drew = .ok v1 u1 := r1
    clear LI g1 g2 o2 LE hN2
    rw [HK.out, Nat.sub_self] at r2
    go_region_law (first | (refine step_append_run rfl (.tmp 12) (.tmp 18) 62 rfl _ _ (by simp [Act.eval, Act.put]) (by simp [Act.eval, Act.put]) r1 ?_) | (refine step_append_run rfl (.tmp 19) (.tmp 26) 62 rfl _ _ (by simp [Act.eval, Act.put]) (by simp [Act.eval, Act.put]) r2 ?_))
    all_goals (go_wp2_with fail; go_ret; exact ⟨rfl, _, FN.out⟩)
  · skip
    obtain ⟨v1, u1, v2, u2, r1, r2, g1, g2, o2⟩ := app_drop w2 (w2.drew.alloc (.cells #[] 77)) g cap n k (n - (k + 1)) L (((Grw.rfl' w2).drew).alloc _) (heap_alloc_new w2.drew _) LI HN.out (by have := HK.out; have := HM.out; omega) hnc (by have := HN.out; omega) ⟨g, (k + 1) * 3, none⟩ (cap - (k + 1)) (by rw [if_neg (by rw [HK.out]; exact hck)])
    obtain ⟨N2, hN2⟩ : ∃ N2, k + (n - (k + 1)) = N2 := ⟨_, rfl⟩
    rw [hN2] at o2
    obtain ⟨ao2, cap2, rfl⟩ := own_or o2
    have LE : (L.take k ++ L.drop (k + 1)).length = N2 := by rw [List.length_append, List.length_take, List.length_drop, HN.out]; have := HK.out; have := HM.out; omega
    have O2 := Lib.hid (H2.out.row' (v' := .slice ao2 N2 cap2) (L' := L.take k ++ L.drop (k + 1)) g2 (by rw [LE]; exact o2) (by rw [LE]; have := HK.out; have := HM.out; omega))
    have FN := Lib.hid (And.intro O2.out.1 (And.intro ((GQ.out.frm (fun k => k = r)).trans O2.out.2 (fun _ e => Or.inl e)) (fun k e => Nat.le_trans (Below.size GQ.out) (o2.lt k e).1)))
    have SS : Hid (∀ x, Grw w2 x → x.cell? ⟨r, 3, none⟩ = some (.slice (some ⟨g, 0, none⟩) n cap)) := (fun x g => by have := g.cell H2.out.c3; rwa [HN.out] at this : ∀ x, Grw w2 x → x.cell? ⟨r, 3, none⟩ = some (.slice (some ⟨g, 0, none⟩) n cap))
    have k2 : u2.frozen? ⟨r, 3, none⟩ = false := frz_frm (g2.frm (fun _ => False)) H2.out.c3 (fun e => e) H2.out.f3
    have a0 := SS.out _ (Grw.rfl' w2)
    have a1 : ∀ o, (w2.alloc o).cell? ⟨r, 3, none⟩ = some (.slice (some ⟨g, 0, none⟩) n cap) := fun o => SS.out _ ((Grw.rfl' w2).alloc o)
    have b1 := SS.out _ g1
    have s0 := SS.out _ g2
    replace r1 : (Builtin.append_ #[62, 62] 62 #[.slice (some ⟨w2.heap.size, 0, none⟩) 0 0, .slice (some ⟨g, 0, none⟩) k cap]).run Tryz.prog (w2.alloc (.cells #[] 77)).drew = .ok v1 u1 := r1
    have hs1 : k ≤ cap := by have := HK.out; have := HM.out; omega
    clear LI g1 g2 o2 LE hN2
    rw [HK.out] at r2
    go_region_law (first | (refine step_append_run rfl (.tmp 12) (.tmp 18) 62 rfl _ _ (by simp [Act.eval, Act.put]) (by simp [Act.eval, Act.put]) r1 ?_) | (refine step_append_run rfl (.tmp 19) (.tmp 26) 62 rfl _ _ (by simp [Act.eval, Act.put]) (by simp [Act.eval, Act.put]) r2 ?_))
    all_goals (go_wp2_with fail; go_ret; exact ⟨rfl, _, FN.out⟩)
end QQ
end Go.Proofs.YtlopijcpnfkcgaaGreat
