/- The contracts of slices.Insert (one timer), slices.Delete (one timer), slices.Clone at this program. -/
import Derived.Test.YtlihcljjpalapaaDoorRc
import Derived.Test.YtlihcljjpalapaaDoorFc
import Derived.Laws.Externs
import Derived.Shelf.RegionOpenPlain
namespace Go.Proofs.YtlihcljjpalapaaDoor
open Go.RowKit MK
open RG (Du)
set_option linter.unusedSimpArgs false

theorem Tryd.size31 : (Tryd.prog.info? 31).map (·.size) = some 2 := by kernel_rfl
theorem Tryd.info31 : (Tryd.prog.info? 31).map (fun i => (i.zero, i.size, i.bytes)) = some (some (.agg #[.int .i64 0, .int .u64 0]), 2, 16) := by kernel_rfl
/-- what Insert and Delete tell: a row of one's own, in the same block or a new one; nothing else has turned. -/
def RowQ (v : Value) (l : List Du) (w : World) (e : Ending) (w' : World) : Prop :=
  ∃ v', e = .returned v' ∧ w'.ownsRow 0 31 2 v' l.length (cd l) ∧ Frm (fun k => v.ownBlock = some k) w w' ∧ (v'.ownBlock = v.ownBlock ∨ ∃ g, v'.ownBlock = some g ∧ w.heap.size ≤ g)
theorem blk_cells {w : World} {g : Nat} {xs : List Value} {t : TypeId} (h : w.heap[g]? = some (.cells xs.toArray t (0, 0))) : ∀ j u, xs[j]? = some u → w.cell? ((⟨g, 0, none⟩ : Addr).add j) = some u := by
  intro j u hj
  rw [Addr.add_lit, Nat.zero_add]
  simp [World.cell?, h, hj]
theorem cd2 (d : Du) : cd [d] = [.int .i64 d.id, .int .u64 (d.t : Nat)] := rfl
set_option maxHeartbeats 1000000 in
set_option maxRecDepth 100000 in
/-- at the end. -/
theorem insert_end (v : Value) (l : List Du) (d : Du) (g : Nat) (w : World) (ho : w.ownsRow 0 31 2 v l.length (cd l)) (hb : l.length ≤ 1000000)
    (hgb : w.heap[g]? = some (.cells (cd [d]).toArray 31 (0, 0))) :
    Calls Tryd.prog 26 #[v, .int .i64 (l.length : Nat), .slice (some ⟨g, 0, none⟩) 1 1] w (RowQ v (l ++ [d]) w) := by
  obtain ⟨i0, hi, hz0, hz1, hz2⟩ := info_parts Tryd.info31
  have O := Lib.hid ho
  have C := Lib.hid (blk_cells hgb)
  obtain ⟨ao, cap, rfl, hl⟩ := ownsRow_lies ho
  have hsl : ao = none → l.length = 0 ∧ cap = 0 := by
    intro e
    subst e
    rcases ho.2 with ⟨h1, h2⟩ | ⟨_, _, _, h1, _⟩
    · injection h1 with _ _ h3; exact ⟨h2, h3⟩
    · cases h1
  have hnc : l.length ≤ cap := by
    rcases ho.2 with ⟨h1, h2⟩ | ⟨_, _, _, h1, _, _, h3, _⟩
    · rw [h2]; exact Nat.zero_le _
    · injection h1 with _ _ h4; rw [h4]; exact h3
  have P := Lib.hid (fun (v' : Value) (w' : World) (h : w'.ownsRow 0 31 2 v' (l.length + 1) (cd l ++ cd [d])) => (show w'.ownsRow 0 31 2 v' (l ++ [d]).length (cd (l ++ [d])) by rw [List.length_append, cd_app]; exact h))
  have D1 := Lib.hid (show (cd [d]).length = 1 * 2 from rfl)
  have D2 := Lib.hid (cd_one [d])
  obtain ⟨n, hn⟩ : ∃ n, l.length = n := ⟨_, rfl⟩
  obtain ⟨xs, hxs⟩ : ∃ xs, cd l = xs := ⟨_, rfl⟩
  obtain ⟨ds, hds⟩ : ∃ ds, cd [d] = ds := ⟨_, rfl⟩
  rw [hn] at O P hb hsl hnc ⊢
  rw [hxs] at O P
  rw [hds] at P C D1 D2
  clear ho hl hgb hn hxs hds
  cases ao with
  | none =>
    obtain ⟨h1, h2⟩ := hsl rfl
    subst h1; subst h2
    clear hsl hnc
    go_enter Tryd.func26, Tryd.ntmps26
    go_wp2_with (at_builtin; refine wpList_append_mine _ rfl _ _ 42 rfl 31 i0 _ 2 16 Tryd.underlying42 hi hz0 hz1 hz2 rfl (by decide) _ _ _ rfl O.out ⟨g, 0, none⟩ 1 1 ds rfl D1.out C.out D2.out (by unfold maxLen; omega) (by omega) ?_)
    intro v' w2 hown' hgrow hblk
    have U := Lib.hid (And.intro (P.out v' w2 hown') (And.intro (grownBy_frm hgrow) hblk))
    clear hown' hgrow hblk
    go_wp2_with fail
    go_ret
    exact ⟨_, rfl, U.out.1, U.out.2.1, U.out.2.2.imp id (fun h => ⟨_, h, Nat.le_refl _⟩)⟩
  | some a =>
    clear hsl
    by_cases hcn : cap = n
    · subst hcn
      go_enter Tryd.func26, Tryd.ntmps26
      go_wp2_with (at_builtin; refine wpList_append_mine _ rfl _ _ 42 rfl 31 i0 _ 2 16 Tryd.underlying42 hi hz0 hz1 hz2 rfl (by decide) _ _ _ rfl O.out ⟨g, 0, none⟩ 1 1 ds rfl D1.out C.out D2.out (by unfold maxLen; omega) (by omega) ?_)
      intro v' w2 hown' hgrow hblk
      have U := Lib.hid (And.intro (P.out v' w2 hown') (And.intro (grownBy_frm hgrow) hblk))
      clear hown' hgrow hblk
      go_wp2_with fail
      go_ret
      exact ⟨_, rfl, U.out.1, U.out.2.1, U.out.2.2.imp id (fun h => ⟨_, h, Nat.le_refl _⟩)⟩
    · go_enter Tryd.func26, Tryd.ntmps26
      go_wp2_with (at_builtin; refine wpList_append_mine _ rfl _ _ 42 rfl 31 i0 _ 2 16 Tryd.underlying42 hi hz0 hz1 hz2 rfl (by decide) _ _ _ rfl O.out ⟨g, 0, none⟩ 1 1 ds rfl D1.out C.out D2.out (by unfold maxLen; omega) (by omega) ?_)
      intro v' w2 hown' hgrow hblk
      have U := Lib.hid (And.intro (P.out v' w2 hown') (And.intro (grownBy_frm hgrow) hblk))
      clear hown' hgrow hblk
      go_wp2_with fail
      go_ret
      exact ⟨_, rfl, U.out.1, U.out.2.1, U.out.2.2.imp id (fun h => ⟨_, h, Nat.le_refl _⟩)⟩
theorem copy_ex (w : World) (g off dLen dCap : Nat) (ad : Addr) (sLen sCap : Nat) (cur : List Value) (hg : w.heap[g]? = some (.cells cur.toArray 31 (0, 0))) (cs : List Value) (m : Nat) (hm : Nat.min sLen dLen = m) (hn : cs.length = m * 2)
    (hsrc : ∀ j v, cs[j]? = some v → w.cell? (ad.add j) = some v) (hfit : off + cs.length ≤ cur.length) (h1 : ∀ v ∈ cs, v.oneCell' = true) :
    ∃ w', (Builtin.copy_ #[42, 42] 3 #[.slice (some ⟨g, off, none⟩) dLen dCap, .slice (some ad) sLen sCap]).run Tryd.prog w = .ok (goInt m) w' ∧ Hid (w'.heap[g]? = some (.cells (splice cur off cs).toArray 31 (0, 0))) ∧ Hid (Frm (fun k => k = g) w w') :=
  ⟨_, run_copy_rowN (P := Tryd.prog) w 42 42 3 31 2 g off dLen dCap ad sLen sCap cur.toArray 31 cs Tryd.underlying42 Tryd.size31 hg m hm hn hsrc (by simpa using hfit) h1,
    (show _ = _ by simpa [splice] using setRow_heap w g _ _ 31 _ hg), (show Frm _ _ _ from frm_setRow w g _ rfl)⟩
/-- the row behind the two copies. -/
theorem two_splices (cur xs ds : List Value) (p n c : Nat) (hc : cur.length = c * 2) (hx : cur.take (n * 2) = xs) (hxl : xs.length = n * 2) (hd : ds.length = 2) (hp : p < n) (hn : n + 1 ≤ c) :
    (splice (splice cur ((p + 1) * 2) (xs.drop (p * 2))) (p * 2) ds).take ((n + 1) * 2) = xs.take (p * 2) ++ (ds ++ xs.drop (p * 2)) ∧ (splice (splice cur ((p + 1) * 2) (xs.drop (p * 2))) (p * 2) ds).length = c * 2 := by
  have l1 : (splice cur ((p + 1) * 2) (xs.drop (p * 2))).length = c * 2 := by
    rw [length_splice _ _ _ (by simp; omega), hc]
  have l2 : (splice (splice cur ((p + 1) * 2) (xs.drop (p * 2))) (p * 2) ds).length = c * 2 := by
    rw [length_splice _ _ _ (by omega), l1]
  refine ⟨?_, l2⟩
  have e1 : (splice cur ((p + 1) * 2) (xs.drop (p * 2))).take (p * 2) = xs.take (p * 2) := by
    unfold splice
    rw [List.take_append_of_le_length (by simp; omega), List.take_take, ← hx, List.take_take]
    congr 1; omega
  have e2 : (splice cur ((p + 1) * 2) (xs.drop (p * 2))).drop (p * 2 + ds.length) = xs.drop (p * 2) ++ cur.drop ((n + 1) * 2) := by
    unfold splice
    rw [hd, show p * 2 + 2 = (cur.take ((p + 1) * 2)).length by simp; omega, List.drop_left]
    congr 2
    simp; omega
  show ((splice cur ((p + 1) * 2) (xs.drop (p * 2))).take (p * 2) ++ (ds ++ (splice cur ((p + 1) * 2) (xs.drop (p * 2))).drop (p * 2 + ds.length))).take ((n + 1) * 2) = _
  rw [e1, e2, ← List.append_assoc, ← List.append_assoc, List.take_left' (by simp; omega)]
  simp
set_option maxHeartbeats 4000000 in
set_option maxRecDepth 100000 in
/-- in the midst, there is room: in place. -/
theorem insert_shift (b cap p : Nat) (l : List Du) (d : Du) (g : Nat) (w : World) (ho : w.ownsRow 0 31 2 (.slice (some ⟨b, 0, none⟩) l.length cap) l.length (cd l)) (hb : l.length ≤ 1000000)
    (hp : p < l.length) (hroom : l.length + 1 ≤ cap) (hgb : w.heap[g]? = some (.cells (cd [d]).toArray 31 (0, 0))) (hne : g ≠ b) :
    Calls Tryd.prog 26 #[.slice (some ⟨b, 0, none⟩) l.length cap, .int .i64 p, .slice (some ⟨g, 0, none⟩) 1 1] w (RowQ (.slice (some ⟨b, 0, none⟩) l.length cap) (l.take p ++ d :: l.drop p) w) := by
  obtain ⟨cur, hblk, hcap, hsz, htake⟩ : ∃ cur : List Value, w.heap[b]? = some (.cells cur.toArray 31 (0, 0)) ∧ cap ≤ maxLen ∧ cur.length = cap * 2 ∧ cur.take (l.length * 2) = cd l := by
    rcases ho.2 with ⟨h1, _⟩ | ⟨g', cap', cur, h1, _, h3, _, h5, h6, h7⟩
    · cases h1
    · injection h1 with e1 _ e3
      injection e1 with e1
      injection e1 with e1
      subst e1; subst e3
      exact ⟨cur.toList, by simpa using h3, h5, by simpa using h6, by simpa using h7⟩
  have hxl := cd_len l
  have T := Lib.hid (two_splices cur (cd l) (cd [d]) p l.length cap hsz htake hxl rfl hp hroom)
  have P := Lib.hid (show cd (l.take p ++ d :: l.drop p) = (cd l).take (p * 2) ++ (cd [d] ++ (cd l).drop (p * 2)) by rw [cd_app, cd_take, show d :: l.drop p = [d] ++ l.drop p from rfl, cd_app, cd_drop])
  have PL := Lib.hid (show (l.take p ++ d :: l.drop p).length = l.length + 1 by simp; omega)
  have D1 := Lib.hid (show (cd [d]).length = 1 * 2 from rfl)
  have D2 := Lib.hid (cd_one [d])
  have X2 := Lib.hid (cd_one l)
  have C := Lib.hid (blk_cells hgb)
  have hov : ∀ lb cb, (callFunc 38 #[.slice (some ⟨g, 0, none⟩) 1 1, .slice (some ⟨b, (p + 1) * 2, none⟩) lb cb]).run Tryd.prog w = .ok (.value (.bool false)) w := fun lb cb => by
    rw [run_callFunc_extern Tryd.func38 (by kernel_rfl) (by kernel_rfl) (by kernel_rfl) (e := Extern.SlicesOverlaps.overlaps #[42, 42] #[4]) (by kernel_rfl),
      Lib.run_overlaps_apart w 42 4 31 Tryd.underlying42 2 Tryd.sizeOf31 ⟨g, 0, none⟩ ⟨b, (p + 1) * 2, none⟩ 1 1 lb cb hne 31 31 2 (cap * 2) (by simp [World.shape?, hgb, cd2]) (by simp [World.shape?, hblk, hsz]) (by omega) (by simp [World.frozen?, hgb]) (by simp [World.frozen?, hgb])]
    rfl
  obtain ⟨n, hn⟩ : ∃ n, l.length = n := ⟨_, rfl⟩
  obtain ⟨xs, hxs⟩ : ∃ xs, cd l = xs := ⟨_, rfl⟩
  obtain ⟨ds, hds⟩ : ∃ ds, cd [d] = ds := ⟨_, rfl⟩
  rw [hn] at T PL hp hroom hb hxl htake ⊢
  rw [hxs] at T P X2 hxl htake
  rw [hds] at T P D1 D2 C
  obtain ⟨x2, hx2⟩ : ∃ x2, xs.drop (p * 2) = x2 := ⟨_, rfl⟩
  have X3 : Hid (∀ u ∈ x2, u.oneCell' = true) := (fun u hu => X2.out u (by rw [← hx2] at hu; exact List.mem_of_mem_drop hu) : ∀ u ∈ x2, u.oneCell' = true)
  have X4 : Hid (x2.length = (n - p) * 2) := (by rw [← hx2, List.length_drop, hxl]; omega : x2.length = (n - p) * 2)
  have X5 : Hid (∀ j u, x2[j]? = some u → w.cell? ((⟨b, p * 2, none⟩ : Addr).add j) = some u) := (fun j u hj => by
    rw [Addr.add_lit]
    rw [← hx2, List.getElem?_drop, ← htake, List.getElem?_take] at hj
    split at hj
    · simp [World.cell?, hblk, hj]
    · exact absurd hj (by simp) : ∀ j u, x2[j]? = some u → w.cell? ((⟨b, p * 2, none⟩ : Addr).add j) = some u)
  rw [hx2] at T P
  have B := Lib.hid hblk
  have CS := Lib.hid hsz
  have GB := Lib.hid hgb
  have NE := Lib.hid hne
  have hc63 : cap ≤ 9223372036854775807 := by unfold maxLen at hcap; omega
  have hw1 : IntKind.i64.wrap ((p : Int) + 1) = (p : Int) + 1 := by rw [IntKind.wrap_i64]; omega
  have hb1 : (0 : Int) ≤ (p : Int) + 1 := by omega
  have hin : p ≤ n := by omega
  have htn : ((p : Int) + 1).toNat = p + 1 := by omega
  have hb2 : ¬ (cap = p + 1) := by omega
  have hb3 : (p : Int) ≤ (n : Int) + 1 := by omega
  have hb4 : ¬ (cap = p) := by omega
  have hb5 : ¬ ((p : Int) = (n : Int)) := by omega
  clear ho hgb hblk hsz hne htake hxl hn hxs hds hx2 hcap
  go_enter Tryd.func26, Tryd.ntmps26
  go_wp2_with (simp only [hov])
  have M1 : Hid (Nat.min (n + 1 - p) (n + 1 - (p + 1)) = n - p) := (by simp only [Nat.min_def]; split <;> omega : Nat.min (n + 1 - p) (n + 1 - (p + 1)) = n - p)
  have M2 : Hid ((p + 1) * 2 + x2.length ≤ cur.length) := (by rw [X4.out, CS.out]; omega : (p + 1) * 2 + x2.length ≤ cur.length)
  go_region_law (refine step_copy_two rfl (.tmp 73) (.tmp 76) 42 42 rfl 31 2 Tryd.underlying42 Tryd.size31 b ((p + 1) * 2) (n + 1 - (p + 1)) (cap - (p + 1)) ⟨b, p * 2, none⟩ (n + 1 - p) (cap - p) (by simp [Act.eval, Act.put]) (by simp [Act.eval, Act.put]) cur 31 B.out x2 (n - p) M1.out X4.out X5.out M2.out X3.out ?_; intro w1 H1 F1)
  have C1 : Hid (∀ j u, ds[j]? = some u → w1.cell? ((⟨g, 0, none⟩ : Addr).add j) = some u) := (fun j u hj => F1.out.cell (C.out j u hj) (by rw [Addr.add_lit]; exact NE.out) : ∀ j u, ds[j]? = some u → w1.cell? ((⟨g, 0, none⟩ : Addr).add j) = some u)
  have M3 : Hid (Nat.min 1 (n + 1 - p) = 1) := (by simp only [Nat.min_def]; split <;> omega : Nat.min 1 (n + 1 - p) = 1)
  have M4 : Hid (p * 2 + ds.length ≤ (splice cur ((p + 1) * 2) x2).length) := (by rw [length_splice _ _ _ M2.out, D1.out, CS.out]; omega : p * 2 + ds.length ≤ (splice cur ((p + 1) * 2) x2).length)
  obtain ⟨w2, hrun, H2, F2⟩ := copy_ex w1 b (p * 2) (n + 1 - p) (cap - p) ⟨g, 0, none⟩ 1 1 (splice cur ((p + 1) * 2) x2) H1.out ds 1 M3.out D1.out C1.out M4.out D2.out
  go_wp2_with (simp only [hrun])
  go_ret
  refine ⟨_, rfl, ?_, ?_, Or.inl rfl⟩
  · rw [PL.out, P.out]
    refine ⟨by rw [← T.out.1, List.length_take, T.out.2]; omega, Or.inr ⟨b, cap, _, rfl, Nat.zero_le _, H2.out, hroom, by unfold maxLen; omega, by simpa using T.out.2, by simpa using T.out.1⟩⟩
  · exact (((Frm.rfl' _ w).drew).trans F1.out (fun k e => Or.inl (by rw [e]; rfl))).trans F2.out (fun k e => Or.inl (by rw [e]; rfl))
/-- append of zeros at a row without room. -/
theorem zeros_ex (w : World) (b p n : Nat) (ys : List Value) (hy : ys.length = p * 2) (hc : ∀ j u, ys[j]? = some u → w.cell? ((⟨b, 0, none⟩ : Addr).add j) = some u) (hp : p < n) (hb : n ≤ 1000000) :
    ∃ w1 G row, (∀ ty, (Builtin.append_ #[42, 3] ty #[.slice (some ⟨b, 0, none⟩) p n, .int .i64 ((n : Int) + 1 - (p : Int))]).run Tryd.prog w = .ok (.slice (some ⟨w.heap.size, 0, none⟩) (n + 1) G) w1) ∧
      Hid (w1.heap[w.heap.size]? = some (.cells (row : List Value).toArray 31 (0, 0))) ∧ Hid (row.length = G * 2) ∧ Hid (row.take (p * 2) = ys) ∧ n + 1 ≤ G ∧ G ≤ 9223372036854775807 ∧ Hid (Grw w w1) := by
  obtain ⟨i0, hi, hz0, hz1, hz2⟩ := info_parts Tryd.info31
  have hk : (n : Int) + 1 - (p : Int) = ((n + 1 - p : Nat) : Int) := by omega
  have hs : p + (n + 1 - p) = n + 1 := by omega
  have hge := grownCap_ge w (n + 1) n 31
  have hle := grownCap_le_maxLen w (n + 1) n 31 (by unfold maxLen; omega)
  refine ⟨w.drew.alloc (.cells (ys.toArray ++ Builtin.zeroCells (Value.agg #[.int .i64 0, .int .u64 0]).cells (n + 1 - p) ++ Builtin.zeroCells (Value.agg #[.int .i64 0, .int .u64 0]).cells (grownCap w (n + 1) n 31 - (n + 1))) 31), grownCap w (n + 1) n 31,
    (ys.toArray ++ Builtin.zeroCells (Value.agg #[.int .i64 0, .int .u64 0]).cells (n + 1 - p) ++ Builtin.zeroCells (Value.agg #[.int .i64 0, .int .u64 0]).cells (grownCap w (n + 1) n 31 - (n + 1))).toList, fun ty => ?_, ?_, ?_, ?_, hge, by unfold maxLen at hle; omega, ((Grw.rfl' w).drew).alloc _⟩
  · have h := run_append_zeros (P := Tryd.prog) w 42 3 ty 31 i0 _ 2 16 .i64 .i64 Tryd.underlying42 Tryd.underlying3 hi hz0 hz1 hz2 ⟨b, 0, none⟩ p n ys hy hc (n + 1 - p) (by omega) (by omega) (by omega) (by omega) (by omega)
    rw [hs] at h
    rw [hk]
    exact h
  · show _ = _
    rw [Array.toArray_toList]
    exact heap_alloc_new w.drew _
  · show _ = _
    simp only [Array.length_toList, Array.size_append, size_zeroCells, List.size_toArray, hy]
    simp [Value.cells]
    omega
  · show _ = _
    rw [Array.toList_append, Array.toList_append, List.append_assoc, ← hy]
    exact List.take_left
theorem two_splices' (row ys ds x2 : List Value) (p n G : Nat) (hr : row.length = G * 2) (hy : row.take (p * 2) = ys) (hd : ds.length = 2) (hx : x2.length = (n - p) * 2) (hp : p < n) (hn : n + 1 ≤ G) :
    (splice (splice row (p * 2) ds) ((p + 1) * 2) x2).take ((n + 1) * 2) = ys ++ (ds ++ x2) ∧ (splice (splice row (p * 2) ds) ((p + 1) * 2) x2).length = G * 2 ∧ (splice row (p * 2) ds).length = G * 2 := by
  have l1 : (splice row (p * 2) ds).length = G * 2 := by rw [length_splice _ _ _ (by omega), hr]
  have l2 : (splice (splice row (p * 2) ds) ((p + 1) * 2) x2).length = G * 2 := by rw [length_splice _ _ _ (by omega), l1]
  refine ⟨?_, l2, l1⟩
  have e1 : (splice row (p * 2) ds).take ((p + 1) * 2) = ys ++ ds := by
    unfold splice
    rw [hy, ← List.append_assoc]
    have hyl : ys.length = p * 2 := by rw [← hy, List.length_take]; omega
    exact List.take_left' (by rw [List.length_append]; omega)
  show ((splice row (p * 2) ds).take ((p + 1) * 2) ++ (x2 ++ (splice row (p * 2) ds).drop ((p + 1) * 2 + x2.length))).take ((n + 1) * 2) = _
  have hyl : ys.length = p * 2 := by rw [← hy, List.length_take]; omega
  rw [e1, ← List.append_assoc (ys ++ ds) x2, List.take_left' (by simp only [List.length_append]; omega), List.append_assoc]
set_option maxHeartbeats 4000000 in
set_option maxRecDepth 100000 in
/-- in the midst, there is no room: a new row. -/
theorem insert_grow (b p : Nat) (l : List Du) (d : Du) (g : Nat) (w : World) (ho : w.ownsRow 0 31 2 (.slice (some ⟨b, 0, none⟩) l.length l.length) l.length (cd l)) (hb : l.length ≤ 1000000)
    (hp : p < l.length) (hgb : w.heap[g]? = some (.cells (cd [d]).toArray 31 (0, 0))) :
    Calls Tryd.prog 26 #[.slice (some ⟨b, 0, none⟩) l.length l.length, .int .i64 p, .slice (some ⟨g, 0, none⟩) 1 1] w (RowQ (.slice (some ⟨b, 0, none⟩) l.length l.length) (l.take p ++ d :: l.drop p) w) := by
  have hcs := ho.cells (g := b) rfl
  have hxl := cd_len l
  have P := Lib.hid (show cd (l.take p ++ d :: l.drop p) = (cd l).take (p * 2) ++ (cd [d] ++ (cd l).drop (p * 2)) by rw [cd_app, cd_take, show d :: l.drop p = [d] ++ l.drop p from rfl, cd_app, cd_drop])
  have PL := Lib.hid (show (l.take p ++ d :: l.drop p).length = l.length + 1 by simp; omega)
  have D1 := Lib.hid (show (cd [d]).length = 1 * 2 from rfl)
  have D2 := Lib.hid (cd_one [d])
  have X2 := Lib.hid (cd_one l)
  have hgl : g < w.heap.size := (Array.getElem?_eq_some_iff.1 hgb).1
  have hbl : b < w.heap.size := (ho.lt b rfl).2
  obtain ⟨n, hn⟩ : ∃ n, l.length = n := ⟨_, rfl⟩
  obtain ⟨xs, hxs⟩ : ∃ xs, cd l = xs := ⟨_, rfl⟩
  obtain ⟨ds, hds⟩ : ∃ ds, cd [d] = ds := ⟨_, rfl⟩
  rw [hn] at PL hp hb hxl ⊢
  rw [hxs] at P X2 hxl hcs
  rw [hds] at P D1 D2 hgb
  obtain ⟨ys, hys⟩ : ∃ ys, xs.take (p * 2) = ys := ⟨_, rfl⟩
  obtain ⟨x2, hx2⟩ : ∃ x2, xs.drop (p * 2) = x2 := ⟨_, rfl⟩
  obtain ⟨w1, G, row, hrz, H1, R1, R2, hG1, hG2, GW1⟩ := zeros_ex w b p n ys (by rw [← hys, List.length_take]; omega) (fun j u hj => hcs j u (by
    rw [← hys, List.getElem?_take] at hj
    split at hj
    · exact hj
    · exact absurd hj (by simp))) hp hb
  have X3 : Hid (∀ u ∈ x2, u.oneCell' = true) := (fun u hu => X2.out u (by rw [← hx2] at hu; exact List.mem_of_mem_drop hu) : ∀ u ∈ x2, u.oneCell' = true)
  have X4 : Hid (x2.length = (n - p) * 2) := (by rw [← hx2, List.length_drop, hxl]; omega : x2.length = (n - p) * 2)
  have T := Lib.hid (two_splices' row ys ds x2 p n G R1.out R2.out D1.out X4.out hp hG1)
  rw [hys, hx2] at P
  have C1 : ∀ j u, ds[j]? = some u → w1.cell? ((⟨g, 0, none⟩ : Addr).add j) = some u := fun j u hj => GW1.out.cell (blk_cells hgb j u hj)
  obtain ⟨w2, hrun, H2, F2⟩ := copy_ex w1 w.heap.size (p * 2) (n + 1 - p) (G - p) ⟨g, 0, none⟩ 1 1 row H1.out ds 1 (by simp only [Nat.min_def]; split <;> omega) D1.out C1 (by rw [D1.out, R1.out]; omega) D2.out
  have X5 : Hid (∀ j u, x2[j]? = some u → w2.cell? ((⟨b, p * 2, none⟩ : Addr).add j) = some u) := (fun j u hj => by
    have h1 := hcs (p * 2 + j) u (by rw [← hx2, List.getElem?_drop] at hj; exact hj)
    rw [Addr.add_lit, Nat.zero_add] at h1
    rw [Addr.add_lit]
    exact F2.out.cell (GW1.out.cell h1) (by show ¬ b = w.heap.size; omega) : ∀ j u, x2[j]? = some u → w2.cell? ((⟨b, p * 2, none⟩ : Addr).add j) = some u)
  have M1 : Hid (Nat.min (n - p) (n + 1 - (p + 1)) = n - p) := (by simp only [Nat.min_def]; split <;> omega : Nat.min (n - p) (n + 1 - (p + 1)) = n - p)
  have M2 : Hid ((p + 1) * 2 + x2.length ≤ (splice row (p * 2) ds).length) := (by rw [X4.out, T.out.2.2]; omega : (p + 1) * 2 + x2.length ≤ (splice row (p * 2) ds).length)
  have hw1 : IntKind.i64.wrap ((p : Int) + 1) = (p : Int) + 1 := by rw [IntKind.wrap_i64]; omega
  have hb1 : (0 : Int) ≤ (p : Int) + 1 := by omega
  have hin : p ≤ n := by omega
  have htn : ((p : Int) + 1).toNat = p + 1 := by omega
  have hb2 : ¬ (G = p + 1) := by omega
  have hb6 : ¬ (G = p) := by omega
  have hb3 : (p : Int) ≤ (n : Int) := by omega
  have hb4 : ¬ (n = p) := by omega
  have hb5 : ¬ ((p : Int) = (n : Int)) := by omega
  clear ho hgb hcs hxl hn hxs hds hx2 hys C1
  go_enter Tryd.func26, Tryd.ntmps26
  go_wp2_with (first | (at_builtin; refine Lib.wpList_append_run _ rfl _ _ _ _ rfl _ _ rfl rfl _ _ (hrz _) ?_) | (simp only [hrun]))
  go_region_law (refine step_copy_two rfl (.tmp 50) (.tmp 53) 42 42 rfl 31 2 Tryd.underlying42 Tryd.size31 w.heap.size ((p + 1) * 2) (n + 1 - (p + 1)) (G - (p + 1)) ⟨b, p * 2, none⟩ (n - p) (n - p) (by simp [Act.eval, Act.put]) (by simp [Act.eval, Act.put]) (splice row (p * 2) ds) 31 H2.out x2 (n - p) M1.out X4.out X5.out M2.out X3.out ?_; intro w3 H3 F3)
  go_wp2_with fail
  go_ret
  refine ⟨_, rfl, ?_, ?_, Or.inr ⟨w.heap.size, rfl, Nat.le_refl _⟩⟩
  · rw [PL.out, P.out]
    refine ⟨by rw [← T.out.1, List.length_take, T.out.2.1]; omega, Or.inr ⟨_, G, _, rfl, Nat.zero_le _, H3.out, hG1, by unfold maxLen; omega, by simpa using T.out.2.1, by simpa using T.out.1⟩⟩
  · exact ((GW1.out.frm _).trans (F2.out.drew) (fun k e => Or.inr (by rw [e]; exact Nat.le_refl _))).trans F3.out (fun k e => Or.inr (by rw [e]; exact Nat.le_refl _))
end Go.Proofs.YtlihcljjpalapaaDoor
