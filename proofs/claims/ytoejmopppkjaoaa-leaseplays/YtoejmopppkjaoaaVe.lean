/- append(out[:k:k], append([]api.Grant{g}, out[k:]...)...): the runs; where one is put in. -/
import Derived.Test.YtoejmopppkjaoaaVd
namespace Go.Proofs.Ytoejmopppkjaoaa
open Go.RowKit
set_option linter.unusedSimpArgs false

/-- a slice without room, whatever it lies in, and more than nothing: a new row. -/
theorem append_fresh {P : Program} (t e : TypeId) (z : Value) (size bytes : Nat) (ht : P.underlying t = some (.slice e)) (hinfo : (P.info? e).map (fun i => (i.zero, i.size, i.bytes)) = some (some z, size, bytes)) (hzs : z.cells.size = size)
    (w : World) (ty : TypeId) (ao : Option Addr) (k : Nat) (hnil : ao = none → k = 0) (ys : List Value) (hy : ys.length = k * size) (hl : Lies w ao ys) (ad : Addr) (m c : Nat) (news : List Value) (hn : news.length = m * size)
    (hnews : ∀ j u, news[j]? = some u → w.cell? (ad.add j) = some u) (hm : 0 < m) (h63 : k + m ≤ 1000000) (hbytes : (k + m) * bytes ≤ 140737488355328) :
    ∃ v' w', (Builtin.append_ #[t, t] ty #[.slice ao k k, .slice (some ad) m c]).run P w = .ok v' w' ∧ w'.ownsRow w.heap.size e size v' (k + m) (ys ++ news) ∧ Grw w w' := by
  obtain ⟨i, hi, hz, hsize, hby⟩ := info_parts hinfo
  subst hsize
  subst hby
  have hge := grownCap_ge w (k + m) k e
  have hcm := grownCap_le_maxLen w (k + m) k e (by unfold maxLen; omega)
  have hlen : (ys ++ news).length = (k + m) * i.size := by rw [List.length_append, hy, hn, Nat.add_mul]
  have fin : (w.drew.alloc (.cells (ys.toArray ++ news.toArray ++ Builtin.zeroCells z.cells (grownCap w (k + m) k e - (k + m))) e)).ownsRow w.heap.size e i.size (.slice (some ⟨w.heap.size, 0, none⟩) (k + m) (grownCap w (k + m) k e)) (k + m) (ys ++ news) := by
    refine ⟨hlen, .inr ⟨w.heap.size, _, _, rfl, Nat.le_refl _, heap_alloc_new w.drew _, hge, hcm, ?_, ?_⟩⟩
    · simp only [Array.size_append, List.size_toArray, size_zeroCells, hzs, hy, hn, ← Nat.add_mul]
      congr 1
      omega
    · simp only [Array.toList_append, List.append_assoc]
      rw [← List.append_assoc, ← hlen]
      exact List.take_left
  cases ao with
  | none =>
    have hk := hnil rfl
    subst hk
    have hye : ys = [] := List.eq_nil_of_length_eq_zero (by simpa using hy)
    subst hye
    have hr := run_append_nil (P := P) w t ty e i z ht hi hz ad m c news hn hnews hm (by omega) (by simp only [Nat.zero_add] at hbytes; omega)
    simp only [Nat.zero_add, List.nil_append, Array.empty_append] at fin ⊢
    exact ⟨_, _, hr, fin, ((Grw.rfl' w).drew).alloc _⟩
  | some a =>
    have holds : ∀ j u, ys[j]? = some u → w.cell? (a.add j) = some u := fun j u hj => by
      rcases hl with h | ⟨b, off, e, _, hc⟩
      · rw [h] at hj; cases hj
      · injection e with e
        subst e
        rw [Addr.add_lit]
        exact hc j u hj
    have hr := run_append_grow (P := P) w t ty e i z ht hi hz a k k ys hy holds ad m c news hn hnews (by omega) (by omega) (growslice_fits (by omega) hbytes)
    exact ⟨_, _, hr, fin, ((Grw.rfl' w).drew).alloc _⟩
/-- a slice, cut: where its end lies. -/
theorem cut_drop {w : World} {b off : Nat} {xs : List Value} (h : Lies w (some ⟨b, off, none⟩) xs) (k : Nat) : ∀ j u, (xs.drop k)[j]? = some u → w.cell? ((⟨b, off + k, none⟩ : Addr).add j) = some u := by
  intro j u hj
  rw [List.getElem?_drop] at hj
  rcases h with h | ⟨b', off', e, _, hc⟩
  · rw [h] at hj; cases hj
  · injection e with e
    injection e with e1 e2
    subst e1; subst e2
    rw [Addr.add_lit, Nat.add_assoc]
    exact hc _ u hj
theorem cut_take {w : World} {ao : Option Addr} {xs : List Value} (h : Lies w ao xs) (k : Nat) : Lies w ao (xs.take k) := by
  rcases h with h | ⟨b, off, e, hb, hc⟩
  · left; rw [h]; simp
  · refine Or.inr ⟨b, off, e, hb, fun j u hj => hc j u ?_⟩
    rw [List.getElem?_take] at hj
    split at hj
    · exact hj
    · cases hj
/-- what lies in out: nil at first. -/
def Out (B : Nat) (w : World) (v : Value) (l : List Gr) : Prop := (l = [] ∧ v = .slice none 0 0) ∨ (0 < l.length ∧ ∃ b off cap, v = .slice (some ⟨b, off, none⟩) l.length cap ∧ B ≤ b ∧ l.length ≤ cap ∧ cap ≤ 9223372036854775807 ∧ Lies w (some ⟨b, off, none⟩) (cg l))
theorem Out.later {B : Nat} {w x : World} {v : Value} {l : List Gr} (h : Out B w v l) (g : Grw w x) : Out B x v l := by
  rcases h with h | ⟨h, b, off, cap, e, hb, h1, h2, r⟩
  · exact Or.inl h
  · exact Or.inr ⟨h, b, off, cap, e, hb, h1, h2, r.later g⟩
theorem Out.base {B B' : Nat} {w : World} {v : Value} {l : List Gr} (h : Out B w v l) (g : B' ≤ B) : Out B' w v l := by
  rcases h with h | ⟨h, b, off, cap, e, hb, h1, h2, r⟩
  · exact Or.inl h
  · exact Or.inr ⟨h, b, off, cap, e, Nat.le_trans g hb, h1, h2, r⟩
theorem own_out {w : World} {B : Nat} {v : Value} {l : List Gr} (h : w.ownsRow B 39 3 v l.length (cg l)) (hl : 0 < l.length) : Out B w v l := by
  rcases h.2 with ⟨_, h2⟩ | ⟨g, cap, cur, h1, hB, h3, h4, h5, _⟩
  · omega
  · obtain ⟨ao, c, e, r⟩ := ownsRow_lies h
    rw [h1] at e
    injection e with e1 _ e3
    subst e1; subst h1
    exact Or.inr ⟨hl, g, 0, cap, rfl, hB, h4, by unfold maxLen at h5; omega, r⟩
theorem lit_row (w : World) (x : Gr) : ((w.alloc (.cells #[.int .i64 x.n, .int .i64 x.j, .int .u64 (x.u : Nat)] 39)).drew).ownsRow w.heap.size 39 3 (.slice (some ⟨w.heap.size, 0, none⟩) 1 1) 1 (cg [x]) :=
  World.ownsRow_lit w #[.int .i64 x.n, .int .i64 x.j, .int .u64 (x.u : Nat)] 1 (Nat.le_refl _) (by unfold maxLen; omega) rfl
theorem cg_put (o : List Gr) (x : Gr) (k : Nat) : cg (o.take k ++ x :: o.drop k) = (cg o).take (k * 3) ++ (cg [x] ++ (cg o).drop (k * 3)) := by
  rw [cg_app, cg_take, show x :: o.drop k = [x] ++ o.drop k from rfl, cg_app, cg_drop]
set_option maxRecDepth 100000 in
theorem sort_appends (w : World) (ob ooff ocap : Nat) (o : List Gr) (x : Gr) (k : Nat) (hk : k ≤ o.length) (hoc : o.length ≤ ocap) (hol : Lies w (some ⟨ob, ooff, none⟩) (cg o)) (hb : o.length ≤ 100000)
    (ad : Addr) (c : Nat) (had : if ocap = k then ad = ⟨ob, ooff, none⟩ else ad = ⟨ob, ooff + k * 3, none⟩) :
    ∃ v1 y1 v2 y2, (∀ ty, (Builtin.append_ #[26, 26] ty #[.slice (some ⟨w.heap.size, 0, none⟩) 1 1, .slice (some ad) (o.length - k) c]).run Try.prog ((w.alloc (.cells #[.int .i64 x.n, .int .i64 x.j, .int .u64 (x.u : Nat)] 39)).drew) = .ok v1 y1) ∧
      (∀ ty, (Builtin.append_ #[26, 26] ty #[.slice (some ⟨ob, ooff, none⟩) k k, v1]).run Try.prog y1 = .ok v2 y2) ∧ Out w.heap.size y2 v2 (o.take k ++ x :: o.drop k) ∧ Grw w y2 := by
  obtain ⟨i0, hi, hz0, hz1, hz2⟩ := info_parts Try.info39
  have g1 : Grw w ((w.alloc (.cells #[.int .i64 x.n, .int .i64 x.j, .int .u64 (x.u : Nat)] 39)).drew) := ((Grw.rfl' w).alloc _).drew
  have hol1 := hol.later g1
  have hnews : ∀ j u, ((cg o).drop (k * 3))[j]? = some u → ((w.alloc (.cells #[.int .i64 x.n, .int .i64 x.j, .int .u64 (x.u : Nat)] 39)).drew).cell? (ad.add j) = some u := by
    intro j u hj
    by_cases hck : ocap = k
    · rw [List.drop_eq_nil_of_le (by rw [cg_len]; omega)] at hj
      cases hj
    · rw [if_neg hck] at had
      subst had
      exact cut_drop hol1 (k * 3) j u hj
  obtain ⟨v1, y1, hr1, ho1, hgr1, _⟩ := run_append_own (P := Try.prog) _ w.heap.size 26 26 39 i0 _ 3 24 Try.underlying26 hi hz0 hz1 hz2 rfl (by decide) _ 1 (cg [x]) (lit_row w x) ad (o.length - k) c ((cg o).drop (k * 3)) (by rw [List.length_drop, cg_len]; omega) hnews
    (fun u hu => cg_one o u (List.mem_of_mem_drop hu)) (by unfold maxLen; omega) (by omega) (Below.size g1)
  have gy1 : Grw w y1 := Below.grown g1 hgr1 (Below.size g1) (fun q e => by injection e with e; rw [← e]; exact Nat.le_refl _)
  obtain ⟨ao1, cap1, hv1, hl1⟩ := ownsRow_lies ho1
  have hne : ao1 ≠ none := by
    intro e
    subst e
    rcases ho1.2 with ⟨_, h2⟩ | ⟨_, _, _, h1, _⟩
    · omega
    · rw [hv1] at h1; cases h1
  obtain ⟨a1, rfl⟩ := Option.ne_none_iff_exists'.1 hne
  subst hv1
  have hn1 : ∀ j u, (cg [x] ++ (cg o).drop (k * 3))[j]? = some u → y1.cell? (a1.add j) = some u := by
    intro j u hj
    rcases hl1 with h | ⟨b, off, e, _, hc⟩
    · rw [h] at hj; cases hj
    · injection e with e
      subst e
      rw [Addr.add_lit]
      exact hc j u hj
  obtain ⟨v2, y2, hr2, ho2, gy2⟩ := append_fresh (P := Try.prog) 26 39 _ 3 24 Try.underlying26 Try.info39 rfl y1 26 (some ⟨ob, ooff, none⟩) k (fun e => by cases e) ((cg o).take (k * 3)) (by rw [List.length_take, cg_len]; omega) (cut_take (hol.later gy1) _) a1 (1 + (o.length - k)) cap1 _
    (by rw [List.length_append, List.length_drop, cg_len o, cg_len]; simp; omega) hn1 (by omega) (by omega) (by omega)
  refine ⟨_, y1, v2, y2, fun ty => hr1, fun ty => hr2, ?_, gy1.trans gy2⟩
  refine Out.base (own_out (B := y1.heap.size) ?_ (by simp; omega)) (Below.size gy1)
  rw [cg_put, show (o.take k ++ x :: o.drop k).length = k + (1 + (o.length - k)) by simp; omega]
  exact ho2
theorem sort_first (w : World) (x : Gr) :
    ∃ v2 y2, (∀ ty, (Builtin.append_ #[26, 26] ty #[.slice (some ⟨w.heap.size, 0, none⟩) 1 1, .slice none 0 0]).run Try.prog ((w.alloc (.cells #[.int .i64 x.n, .int .i64 x.j, .int .u64 (x.u : Nat)] 39)).drew) = .ok (.slice (some ⟨w.heap.size, 0, none⟩) 1 1) ((w.alloc (.cells #[.int .i64 x.n, .int .i64 x.j, .int .u64 (x.u : Nat)] 39)).drew)) ∧
      (∀ ty, (Builtin.append_ #[26, 26] ty #[.slice none 0 0, .slice (some ⟨w.heap.size, 0, none⟩) 1 1]).run Try.prog ((w.alloc (.cells #[.int .i64 x.n, .int .i64 x.j, .int .u64 (x.u : Nat)] 39)).drew) = .ok v2 y2) ∧ Out w.heap.size y2 v2 [x] ∧ Grw w y2 := by
  obtain ⟨i0, hi, hz0, hz1, hz2⟩ := info_parts Try.info39
  have g1 : Grw w ((w.alloc (.cells #[.int .i64 x.n, .int .i64 x.j, .int .u64 (x.u : Nat)] 39)).drew) := ((Grw.rfl' w).alloc _).drew
  obtain ⟨v2, y2, hr2, ho2, gy2⟩ := append_fresh (P := Try.prog) 26 39 _ 3 24 Try.underlying26 Try.info39 rfl _ 26 none 0 (fun _ => rfl) [] rfl (Or.inl rfl) ⟨w.heap.size, 0, none⟩ 1 1 (cg [x]) rfl ((lit_row w x).cells (g := w.heap.size) rfl) (by omega) (by omega) (by omega)
  refine ⟨v2, y2, fun ty => ?_, fun ty => hr2, Out.base (own_out ho2 (by simp)) (Below.size g1), g1.trans gy2⟩
  simp [Builtin.append_, run_underlying Try.underlying26, sizeOf, typeInfo, hi, Builtin.lenOf, Builtin.firstCells, loadCells, loadCellsFrom, storeCells]
/-- put in behind all that end no later. -/
theorem insG_split (g : Gr) : ∀ (o : List Gr) (p : Nat), p ≤ o.length → (∀ j (h : j < o.length), j < p → o[j].u ≤ g.u) → (∀ h : p < o.length, g.u < o[p].u) → insG g o = o.take p ++ g :: o.drop p
  | [], p, hp, _, _ => by have : p = 0 := by simpa using hp
                          subst this; rfl
  | x :: l, 0, _, _, h => by
    have := h (by simp)
    simp only [List.getElem_cons_zero] at this
    unfold insG
    rw [if_neg (by omega)]
    rfl
  | x :: l, p + 1, hp, ha, hb => by
    have h0 := ha 0 (by simp) (by omega)
    simp only [List.getElem_cons_zero] at h0
    unfold insG
    rw [if_pos h0, insG_split g l p (by simpa using hp) (fun j h hj => by have := ha (j + 1) (by simpa using h) (by omega); simpa using this) (fun h => by have := hb (by simpa using h); simpa using this)]
    rfl
theorem ov_put {t : Nat} {L : List Gr} {i : Nat} (h : i < L.length) (hu : L[i].u ≤ t) : ov t (L.take (i + 1)) = insG L[i] (ov t (L.take i)) := by
  unfold ov
  rw [← List.take_append_getElem h, List.filter_append, List.filter_cons_of_pos (by simpa using hu), List.filter_nil, srtG_snoc]
theorem ov_not {t : Nat} {L : List Gr} {i : Nat} (h : i < L.length) (hu : ¬ L[i].u ≤ t) : ov t (L.take (i + 1)) = ov t (L.take i) := by
  unfold ov
  rw [← List.take_append_getElem h, List.filter_append, List.filter_cons_of_neg (by simpa using hu), List.filter_nil, List.append_nil]
theorem lf_put {t : Nat} {L : List Gr} {i : Nat} (h : i < L.length) (hu : t < L[i].u) : lf t (L.take (i + 1)) = lf t (L.take i) ++ [L[i]] := by
  unfold lf
  rw [← List.take_append_getElem h, List.filter_append, List.filter_cons_of_pos (by simpa using hu), List.filter_nil]
theorem lf_not {t : Nat} {L : List Gr} {i : Nat} (h : i < L.length) (hu : ¬ t < L[i].u) : lf t (L.take (i + 1)) = lf t (L.take i) := by
  unfold lf
  rw [← List.take_append_getElem h, List.filter_append, List.filter_cons_of_neg (by simpa using hu), List.filter_nil, List.append_nil]
/-- in a sorted row: what stands ahead ends no later. -/
theorem pw_le {o : List Gr} (h : o.Pairwise lt) {j k : Nat} (hk : k < o.length) (hj : j ≤ k) : (o[j]'(by omega)).u ≤ o[k].u := by
  rcases Nat.lt_or_ge j k with c | c
  · have := List.pairwise_iff_getElem.1 h j k (by omega) hk c
    unfold lt at this; omega
  · obtain rfl : j = k := by omega
    exact Nat.le_refl _
end Go.Proofs.Ytoejmopppkjaoaa
