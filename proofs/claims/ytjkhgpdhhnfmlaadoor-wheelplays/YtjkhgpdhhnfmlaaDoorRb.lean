/- The contracts of slices.Insert (one timer), slices.Delete (one timer), slices.Clone at this program. -/
import Derived.Test.YtjkhgpdhhnfmlaaDoorRc
import Derived.Test.YtjkhgpdhhnfmlaaDoorFc
import Derived.Laws.Externs
import Derived.Shelf.RegionOpenPlain
import Derived.Lib.SliceRun
namespace Go.Proofs.YtjkhgpdhhnfmlaaDoor
open Go.RowKit MK
open RG (Du)
set_option linter.unusedSimpArgs false

theorem Tryd.size42 : (Tryd.prog.info? 42).map (·.size) = some 2 := by kernel_rfl
theorem Tryd.info42 : (Tryd.prog.info? 42).map (fun i => (i.zero, i.size, i.bytes)) = some (some (.agg #[.int .i64 0, .int .u64 0]), 2, 16) := by kernel_rfl
/-- what Insert and Delete tell: a row of one's own, in the same block or a new one; nothing else has turned. -/
def RowQ (v : Value) (l : List Du) (w : World) (e : Ending) (w' : World) : Prop :=
  ∃ v', e = .returned v' ∧ w'.ownsRow 0 42 2 v' l.length (cd l) ∧ Frm (fun k => v.ownBlock = some k) w w' ∧ (v'.ownBlock = v.ownBlock ∨ ∃ g, v'.ownBlock = some g ∧ w.heap.size ≤ g)
theorem blk_cells {w : World} {g : Nat} {xs : List Value} {t : TypeId} (h : w.heap[g]? = some (.cells xs.toArray t (0, 0))) : ∀ j u, xs[j]? = some u → w.cell? ((⟨g, 0, none⟩ : Addr).add j) = some u := by
  intro j u hj
  rw [Addr.add_lit, Nat.zero_add]
  simp [World.cell?, h, hj]
theorem cd2 (d : Du) : cd [d] = [.int .i64 d.id, .int .u64 (d.t : Nat)] := rfl
set_option maxHeartbeats 1000000 in
set_option maxRecDepth 100000 in
/-- at the end. -/
theorem insert_end (v : Value) (l : List Du) (d : Du) (g : Nat) (w : World) (ho : w.ownsRow 0 42 2 v l.length (cd l)) (hb : l.length ≤ 1000000)
    (hgb : w.heap[g]? = some (.cells (cd [d]).toArray 42 (0, 0))) :
    Calls Tryd.prog 54 #[v, .int .i64 (l.length : Nat), .slice (some ⟨g, 0, none⟩) 1 1] w (RowQ v (l ++ [d]) w) := by
  obtain ⟨i0, hi, hz0, hz1, hz2⟩ := info_parts Tryd.info42
  have O := Lib.hid ho
  have C := Lib.hid (blk_cells hgb)
  obtain ⟨ao, cap, rfl, hl⟩ := ownsRow_lies ho
  have hsl : ao = none → l.length = 0 ∧ cap = 0 := by
    intro e
    subst e
    rcases ho.2 with ⟨h1, h2⟩ | ⟨_, _, _, h1, _⟩
    · injection h1 with _ _ h3; exact ⟨h2, h3⟩
    · cases h1
  have hnc : l.length ≤ cap := by
    rcases ho.2 with ⟨h1, h2⟩ | ⟨_, _, _, h1, _, _, h3, _⟩
    · rw [h2]; exact Nat.zero_le _
    · injection h1 with _ _ h4; rw [h4]; exact h3
  have P := Lib.hid (fun (v' : Value) (w' : World) (h : w'.ownsRow 0 42 2 v' (l.length + 1) (cd l ++ cd [d])) => (show w'.ownsRow 0 42 2 v' (l ++ [d]).length (cd (l ++ [d])) by rw [List.length_append, cd_app]; exact h))
  have D1 := Lib.hid (show (cd [d]).length = 1 * 2 from rfl)
  have D2 := Lib.hid (cd_one [d])
  obtain ⟨n, hn⟩ : ∃ n, l.length = n := ⟨_, rfl⟩
  obtain ⟨xs, hxs⟩ : ∃ xs, cd l = xs := ⟨_, rfl⟩
  obtain ⟨ds, hds⟩ : ∃ ds, cd [d] = ds := ⟨_, rfl⟩
  rw [hn] at O P hb hsl hnc ⊢
  rw [hxs] at O P
  rw [hds] at P C D1 D2
  clear ho hl hgb hn hxs hds
  cases ao with
  | none =>
    obtain ⟨h1, h2⟩ := hsl rfl
    subst h1; subst h2
    clear hsl hnc
    go_enter Tryd.func54, Tryd.ntmps54
    go_wp2_with (at_builtin; refine wpList_append_mine _ rfl _ _ 27 rfl 42 i0 _ 2 16 Tryd.underlying27 hi hz0 hz1 hz2 rfl (by decide) _ _ _ rfl O.out ⟨g, 0, none⟩ 1 1 ds rfl D1.out C.out D2.out (by unfold maxLen; omega) (by omega) ?_)
    intro v' w2 hown' hgrow hblk
    have U := Lib.hid (And.intro (P.out v' w2 hown') (And.intro (grownBy_frm hgrow) hblk))
    clear hown' hgrow hblk
    go_wp2_with fail
    go_ret
    exact ⟨_, rfl, U.out.1, U.out.2.1, U.out.2.2.imp id (fun h => ⟨_, h, Nat.le_refl _⟩)⟩
  | some a =>
    clear hsl
    by_cases hcn : cap = n
    · subst hcn
      go_enter Tryd.func54, Tryd.ntmps54
      go_wp2_with (at_builtin; refine wpList_append_mine _ rfl _ _ 27 rfl 42 i0 _ 2 16 Tryd.underlying27 hi hz0 hz1 hz2 rfl (by decide) _ _ _ rfl O.out ⟨g, 0, none⟩ 1 1 ds rfl D1.out C.out D2.out (by unfold maxLen; omega) (by omega) ?_)
      intro v' w2 hown' hgrow hblk
      have U := Lib.hid (And.intro (P.out v' w2 hown') (And.intro (grownBy_frm hgrow) hblk))
      clear hown' hgrow hblk
      go_wp2_with fail
      go_ret
      exact ⟨_, rfl, U.out.1, U.out.2.1, U.out.2.2.imp id (fun h => ⟨_, h, Nat.le_refl _⟩)⟩
    · go_enter Tryd.func54, Tryd.ntmps54
      go_wp2_with (at_builtin; refine wpList_append_mine _ rfl _ _ 27 rfl 42 i0 _ 2 16 Tryd.underlying27 hi hz0 hz1 hz2 rfl (by decide) _ _ _ rfl O.out ⟨g, 0, none⟩ 1 1 ds rfl D1.out C.out D2.out (by unfold maxLen; omega) (by omega) ?_)
      intro v' w2 hown' hgrow hblk
      have U := Lib.hid (And.intro (P.out v' w2 hown') (And.intro (grownBy_frm hgrow) hblk))
      clear hown' hgrow hblk
      go_wp2_with fail
      go_ret
      exact ⟨_, rfl, U.out.1, U.out.2.1, U.out.2.2.imp id (fun h => ⟨_, h, Nat.le_refl _⟩)⟩
theorem copy_ex (w : World) (g off dLen dCap : Nat) (ad : Addr) (sLen sCap : Nat) (cur : List Value) (hg : w.heap[g]? = some (.cells cur.toArray 42 (0, 0))) (cs : List Value) (m : Nat) (hm : Nat.min sLen dLen = m) (hn : cs.length = m * 2)
    (hsrc : ∀ j v, cs[j]? = some v → w.cell? (ad.add j) = some v) (hfit : off + cs.length ≤ cur.length) (h1 : ∀ v ∈ cs, v.oneCell' = true) :
    ∃ w', (Builtin.copy_ #[27, 27] 3 #[.slice (some ⟨g, off, none⟩) dLen dCap, .slice (some ad) sLen sCap]).run Tryd.prog w = .ok (goInt m) w' ∧ Hid (w'.heap[g]? = some (.cells (splice cur off cs).toArray 42 (0, 0))) ∧ Hid (Frm (fun k => k = g) w w') :=
  ⟨_, run_copy_rowN (P := Tryd.prog) w 27 27 3 42 2 g off dLen dCap ad sLen sCap cur.toArray 42 cs Tryd.underlying27 Tryd.size42 hg m hm hn hsrc (by simpa using hfit) h1,
    (show _ = _ by simpa [splice] using setRow_heap w g _ _ 42 _ hg), (show Frm _ _ _ from frm_setRow w g _ rfl)⟩
/-- the row behind the two copies. -/
theorem two_splices (cur xs ds : List Value) (p n c : Nat) (hc : cur.length = c * 2) (hx : cur.take (n * 2) = xs) (hxl : xs.length = n * 2) (hd : ds.length = 2) (hp : p < n) (hn : n + 1 ≤ c) :
    (splice (splice cur ((p + 1) * 2) (xs.drop (p * 2))) (p * 2) ds).take ((n + 1) * 2) = xs.take (p * 2) ++ (ds ++ xs.drop (p * 2)) ∧ (splice (splice cur ((p + 1) * 2) (xs.drop (p * 2))) (p * 2) ds).length = c * 2 := by
  have l1 : (splice cur ((p + 1) * 2) (xs.drop (p * 2))).length = c * 2 := by
    rw [length_splice _ _ _ (by simp; omega), hc]
  have l2 : (splice (splice cur ((p + 1) * 2) (xs.drop (p * 2))) (p * 2) ds).length = c * 2 := by
    rw [length_splice _ _ _ (by omega), l1]
  refine ⟨?_, l2⟩
  have e1 : (splice cur ((p + 1) * 2) (xs.drop (p * 2))).take (p * 2) = xs.take (p * 2) := by
    unfold splice
    rw [List.take_append_of_le_length (by simp; omega), List.take_take, ← hx, List.take_take]
    congr 1; omega
  have e2 : (splice cur ((p + 1) * 2) (xs.drop (p * 2))).drop (p * 2 + ds.length) = xs.drop (p * 2) ++ cur.drop ((n + 1) * 2) := by
    unfold splice
    rw [hd, show p * 2 + 2 = (cur.take ((p + 1) * 2)).length by simp; omega, List.drop_left]
    congr 2
    simp; omega
  show ((splice cur ((p + 1) * 2) (xs.drop (p * 2))).take (p * 2) ++ (ds ++ (splice cur ((p + 1) * 2) (xs.drop (p * 2))).drop (p * 2 + ds.length))).take ((n + 1) * 2) = _
  rw [e1, e2, ← List.append_assoc, ← List.append_assoc, List.take_left' (by simp; omega)]
  simp
set_option maxHeartbeats 4000000 in
set_option maxRecDepth 100000 in
/-- in the midst, there is room: in place. -/
theorem insert_shift (b cap p : Nat) (l : List Du) (d : Du) (g : Nat) (w : World) (ho : w.ownsRow 0 42 2 (.slice (some ⟨b, 0, none⟩) l.length cap) l.length (cd l)) (hb : l.length ≤ 1000000)
    (hp : p < l.length) (hroom : l.length + 1 ≤ cap) (hgb : w.heap[g]? = some (.cells (cd [d]).toArray 42 (0, 0))) (hne : g ≠ b) :
    Calls Tryd.prog 54 #[.slice (some ⟨b, 0, none⟩) l.length cap, .int .i64 p, .slice (some ⟨g, 0, none⟩) 1 1] w (RowQ (.slice (some ⟨b, 0, none⟩) l.length cap) (l.take p ++ d :: l.drop p) w) := by
  obtain ⟨cur, hblk, hcap, hsz, htake⟩ : ∃ cur : List Value, w.heap[b]? = some (.cells cur.toArray 42 (0, 0)) ∧ cap ≤ maxLen ∧ cur.length = cap * 2 ∧ cur.take (l.length * 2) = cd l := by
    rcases ho.2 with ⟨h1, _⟩ | ⟨g', cap', cur, h1, _, h3, _, h5, h6, h7⟩
    · cases h1
    · injection h1 with e1 _ e3
      injection e1 with e1
      injection e1 with e1
      subst e1; subst e3
      exact ⟨cur.toList, by simpa using h3, h5, by simpa using h6, by simpa using h7⟩
  have hxl := cd_len l
  have T := Lib.hid (two_splices cur (cd l) (cd [d]) p l.length cap hsz htake hxl rfl hp hroom)
  have P := Lib.hid (show cd (l.take p ++ d :: l.drop p) = (cd l).take (p * 2) ++ (cd [d] ++ (cd l).drop (p * 2)) by rw [cd_app, cd_take, show d :: l.drop p = [d] ++ l.drop p from rfl, cd_app, cd_drop])
  have PL := Lib.hid (show (l.take p ++ d :: l.drop p).length = l.length + 1 by simp; omega)
  have D1 := Lib.hid (show (cd [d]).length = 1 * 2 from rfl)
  have D2 := Lib.hid (cd_one [d])
  have X2 := Lib.hid (cd_one l)
  have C := Lib.hid (blk_cells hgb)
  have hov : ∀ lb cb, (callFunc 77 #[.slice (some ⟨g, 0, none⟩) 1 1, .slice (some ⟨b, (p + 1) * 2, none⟩) lb cb]).run Tryd.prog w = .ok (.value (.bool false)) w := fun lb cb => by
    rw [run_callFunc_extern Tryd.func77 (by kernel_rfl) (by kernel_rfl) (by kernel_rfl) (e := Extern.SlicesOverlaps.overlaps #[27, 27] #[4]) (by kernel_rfl),
      Lib.run_overlaps_apart w 27 4 42 Tryd.underlying27 2 Tryd.sizeOf42 ⟨g, 0, none⟩ ⟨b, (p + 1) * 2, none⟩ 1 1 lb cb hne 42 42 2 (cap * 2) (by simp [World.shape?, hgb, cd2]) (by simp [World.shape?, hblk, hsz]) (by omega) (by simp [World.frozen?, hgb]) (by simp [World.frozen?, hgb])]
    rfl
  obtain ⟨n, hn⟩ : ∃ n, l.length = n := ⟨_, rfl⟩
  obtain ⟨xs, hxs⟩ : ∃ xs, cd l = xs := ⟨_, rfl⟩
  obtain ⟨ds, hds⟩ : ∃ ds, cd [d] = ds := ⟨_, rfl⟩
  rw [hn] at T PL hp hroom hb hxl htake ⊢
  rw [hxs] at T P X2 hxl htake
  rw [hds] at T P D1 D2 C
  obtain ⟨x2, hx2⟩ : ∃ x2, xs.drop (p * 2) = x2 := ⟨_, rfl⟩
  have X3 : Hid (∀ u ∈ x2, u.oneCell' = true) := (fun u hu => X2.out u (by rw [← hx2] at hu; exact List.mem_of_mem_drop hu) : ∀ u ∈ x2, u.oneCell' = true)
  have X4 : Hid (x2.length = (n - p) * 2) := (by rw [← hx2, List.length_drop, hxl]; omega : x2.length = (n - p) * 2)
  have X5 : Hid (∀ j u, x2[j]? = some u → w.cell? ((⟨b, p * 2, none⟩ : Addr).add j) = some u) := (fun j u hj => by
    rw [Addr.add_lit]
    rw [← hx2, List.getElem?_drop, ← htake, List.getElem?_take] at hj
    split at hj
    · simp [World.cell?, hblk, hj]
    · exact absurd hj (by simp) : ∀ j u, x2[j]? = some u → w.cell? ((⟨b, p * 2, none⟩ : Addr).add j) = some u)
  rw [hx2] at T P
  have B := Lib.hid hblk
  have CS := Lib.hid hsz
  have GB := Lib.hid hgb
  have NE := Lib.hid hne
  have hc63 : cap ≤ 9223372036854775807 := by unfold maxLen at hcap; omega
  have hw1 : IntKind.i64.wrap ((p : Int) + 1) = (p : Int) + 1 := by rw [IntKind.wrap_i64]; omega
  have hb1 : (0 : Int) ≤ (p : Int) + 1 := by omega
  have hin : p ≤ n := by omega
  have htn : ((p : Int) + 1).toNat = p + 1 := by omega
  have hb2 : ¬ (cap = p + 1) := by omega
  have hb3 : (p : Int) ≤ (n : Int) + 1 := by omega
  have hb4 : ¬ (cap = p) := by omega
  have hb5 : ¬ ((p : Int) = (n : Int)) := by omega
  clear ho hgb hblk hsz hne htake hxl hn hxs hds hx2 hcap
  go_enter Tryd.func54, Tryd.ntmps54
  go_wp2_with (simp only [hov])
  have M1 : Hid (Nat.min (n + 1 - p) (n + 1 - (p + 1)) = n - p) := (by simp only [Nat.min_def]; split <;> omega : Nat.min (n + 1 - p) (n + 1 - (p + 1)) = n - p)
  have M2 : Hid ((p + 1) * 2 + x2.length ≤ cur.length) := (by rw [X4.out, CS.out]; omega : (p + 1) * 2 + x2.length ≤ cur.length)
  go_region_law (refine step_copy_two rfl (.tmp 73) (.tmp 76) 27 27 rfl 42 2 Tryd.underlying27 Tryd.size42 b ((p + 1) * 2) (n + 1 - (p + 1)) (cap - (p + 1)) ⟨b, p * 2, none⟩ (n + 1 - p) (cap - p) (by simp [Act.eval, Act.put]) (by simp [Act.eval, Act.put]) cur 42 B.out x2 (n - p) M1.out X4.out X5.out M2.out X3.out ?_; intro w1 H1 F1)
  have C1 : Hid (∀ j u, ds[j]? = some u → w1.cell? ((⟨g, 0, none⟩ : Addr).add j) = some u) := (fun j u hj => F1.out.cell (C.out j u hj) (by rw [Addr.add_lit]; exact NE.out) : ∀ j u, ds[j]? = some u → w1.cell? ((⟨g, 0, none⟩ : Addr).add j) = some u)
  have M3 : Hid (Nat.min 1 (n + 1 - p) = 1) := (by simp only [Nat.min_def]; split <;> omega : Nat.min 1 (n + 1 - p) = 1)
  have M4 : Hid (p * 2 + ds.length ≤ (splice cur ((p + 1) * 2) x2).length) := (by rw [length_splice _ _ _ M2.out, D1.out, CS.out]; omega : p * 2 + ds.length ≤ (splice cur ((p + 1) * 2) x2).length)
  obtain ⟨w2, hrun, H2, F2⟩ := copy_ex w1 b (p * 2) (n + 1 - p) (cap - p) ⟨g, 0, none⟩ 1 1 (splice cur ((p + 1) * 2) x2) H1.out ds 1 M3.out D1.out C1.out M4.out D2.out
  go_wp2_with (simp only [hrun])
  go_ret
  refine ⟨_, rfl, ?_, ?_, Or.inl rfl⟩
  · rw [PL.out, P.out]
    refine ⟨by rw [← T.out.1, List.length_take, T.out.2]; omega, Or.inr ⟨b, cap, _, rfl, Nat.zero_le _, H2.out, hroom, by unfold maxLen; omega, by simpa using T.out.2, by simpa using T.out.1⟩⟩
  · exact (((Frm.rfl' _ w).drew).trans F1.out (fun k e => Or.inl (by rw [e]; rfl))).trans F2.out (fun k e => Or.inl (by rw [e]; rfl))
/-- append of zeros at a row without room. -/
theorem zeros_ex (w : World) (b p n : Nat) (ys : List Value) (hy : ys.length = p * 2) (hc : ∀ j u, ys[j]? = some u → w.cell? ((⟨b, 0, none⟩ : Addr).add j) = some u) (hp : p < n) (hb : n ≤ 1000000) :
    ∃ w1 G row, (∀ ty, (Builtin.append_ #[27, 3] ty #[.slice (some ⟨b, 0, none⟩) p n, .int .i64 ((n : Int) + 1 - (p : Int))]).run Tryd.prog w = .ok (.slice (some ⟨w.heap.size, 0, none⟩) (n + 1) G) w1) ∧
      Hid (w1.heap[w.heap.size]? = some (.cells (row : List Value).toArray 42 (0, 0))) ∧ Hid (row.length = G * 2) ∧ Hid (row.take (p * 2) = ys) ∧ n + 1 ≤ G ∧ G ≤ 9223372036854775807 ∧ Hid (Grw w w1) := by
  obtain ⟨i0, hi, hz0, hz1, hz2⟩ := info_parts Tryd.info42
  have hk : (n : Int) + 1 - (p : Int) = ((n + 1 - p : Nat) : Int) := by omega
  have hs : p + (n + 1 - p) = n + 1 := by omega
  have hge := grownCap_ge w (n + 1) n 42
  have hle := grownCap_le_maxLen w (n + 1) n 42 (by unfold maxLen; omega)
  refine ⟨w.drew.alloc (.cells (ys.toArray ++ Builtin.zeroCells (Value.agg #[.int .i64 0, .int .u64 0]).cells (n + 1 - p) ++ Builtin.zeroCells (Value.agg #[.int .i64 0, .int .u64 0]).cells (grownCap w (n + 1) n 42 - (n + 1))) 42), grownCap w (n + 1) n 42,
    (ys.toArray ++ Builtin.zeroCells (Value.agg #[.int .i64 0, .int .u64 0]).cells (n + 1 - p) ++ Builtin.zeroCells (Value.agg #[.int .i64 0, .int .u64 0]).cells (grownCap w (n + 1) n 42 - (n + 1))).toList, fun ty => ?_, ?_, ?_, ?_, hge, by unfold maxLen at hle; omega, ((Grw.rfl' w).drew).alloc _⟩
  · have h := run_append_zeros (P := Tryd.prog) w 27 3 ty 42 i0 _ 2 16 .i64 .i64 Tryd.underlying27 Tryd.underlying3 hi hz0 hz1 hz2 ⟨b, 0, none⟩ p n ys hy hc (n + 1 - p) (by omega) (by omega) (by omega) (by omega) (by omega)
    rw [hs] at h
    rw [hk]
    exact h
  · show _ = _
    rw [Array.toArray_toList]
    exact heap_alloc_new w.drew _
  · show _ = _
    simp only [Array.length_toList, Array.size_append, size_zeroCells, List.size_toArray, hy]
    simp [Value.cells]
    omega
  · show _ = _
    rw [Array.toList_append, Array.toList_append, List.append_assoc, ← hy]
    exact List.take_left
theorem two_splices' (row ys ds x2 : List Value) (p n G : Nat) (hr : row.length = G * 2) (hy : row.take (p * 2) = ys) (hd : ds.length = 2) (hx : x2.length = (n - p) * 2) (hp : p < n) (hn : n + 1 ≤ G) :
    (splice (splice row (p * 2) ds) ((p + 1) * 2) x2).take ((n + 1) * 2) = ys ++ (ds ++ x2) ∧ (splice (splice row (p * 2) ds) ((p + 1) * 2) x2).length = G * 2 ∧ (splice row (p * 2) ds).length = G * 2 := by
  have l1 : (splice row (p * 2) ds).length = G * 2 := by rw [length_splice _ _ _ (by omega), hr]
  have l2 : (splice (splice row (p * 2) ds) ((p + 1) * 2) x2).length = G * 2 := by rw [length_splice _ _ _ (by omega), l1]
  refine ⟨?_, l2, l1⟩
  have e1 : (splice row (p * 2) ds).take ((p + 1) * 2) = ys ++ ds := by
    unfold splice
    rw [hy, ← List.append_assoc]
    have hyl : ys.length = p * 2 := by rw [← hy, List.length_take]; omega
    exact List.take_left' (by rw [List.length_append]; omega)
  show ((splice row (p * 2) ds).take ((p + 1) * 2) ++ (x2 ++ (splice row (p * 2) ds).drop ((p + 1) * 2 + x2.length))).take ((n + 1) * 2) = _
  have hyl : ys.length = p * 2 := by rw [← hy, List.length_take]; omega
  rw [e1, ← List.append_assoc (ys ++ ds) x2, List.take_left' (by simp only [List.length_append]; omega), List.append_assoc]
set_option maxHeartbeats 4000000 in
set_option maxRecDepth 100000 in
/-- in the midst, there is no room: a new row. -/
theorem insert_grow (b p : Nat) (l : List Du) (d : Du) (g : Nat) (w : World) (ho : w.ownsRow 0 42 2 (.slice (some ⟨b, 0, none⟩) l.length l.length) l.length (cd l)) (hb : l.length ≤ 1000000)
    (hp : p < l.length) (hgb : w.heap[g]? = some (.cells (cd [d]).toArray 42 (0, 0))) :
    Calls Tryd.prog 54 #[.slice (some ⟨b, 0, none⟩) l.length l.length, .int .i64 p, .slice (some ⟨g, 0, none⟩) 1 1] w (RowQ (.slice (some ⟨b, 0, none⟩) l.length l.length) (l.take p ++ d :: l.drop p) w) := by
  have hcs := ho.cells (g := b) rfl
  have hxl := cd_len l
  have P := Lib.hid (show cd (l.take p ++ d :: l.drop p) = (cd l).take (p * 2) ++ (cd [d] ++ (cd l).drop (p * 2)) by rw [cd_app, cd_take, show d :: l.drop p = [d] ++ l.drop p from rfl, cd_app, cd_drop])
  have PL := Lib.hid (show (l.take p ++ d :: l.drop p).length = l.length + 1 by simp; omega)
  have D1 := Lib.hid (show (cd [d]).length = 1 * 2 from rfl)
  have D2 := Lib.hid (cd_one [d])
  have X2 := Lib.hid (cd_one l)
  have hgl : g < w.heap.size := (Array.getElem?_eq_some_iff.1 hgb).1
  have hbl : b < w.heap.size := (ho.lt b rfl).2
  obtain ⟨n, hn⟩ : ∃ n, l.length = n := ⟨_, rfl⟩
  obtain ⟨xs, hxs⟩ : ∃ xs, cd l = xs := ⟨_, rfl⟩
  obtain ⟨ds, hds⟩ : ∃ ds, cd [d] = ds := ⟨_, rfl⟩
  rw [hn] at PL hp hb hxl ⊢
  rw [hxs] at P X2 hxl hcs
  rw [hds] at P D1 D2 hgb
  obtain ⟨ys, hys⟩ : ∃ ys, xs.take (p * 2) = ys := ⟨_, rfl⟩
  obtain ⟨x2, hx2⟩ : ∃ x2, xs.drop (p * 2) = x2 := ⟨_, rfl⟩
  obtain ⟨w1, G, row, hrz, H1, R1, R2, hG1, hG2, GW1⟩ := zeros_ex w b p n ys (by rw [← hys, List.length_take]; omega) (fun j u hj => hcs j u (by
    rw [← hys, List.getElem?_take] at hj
    split at hj
    · exact hj
    · exact absurd hj (by simp))) hp hb
  have X3 : Hid (∀ u ∈ x2, u.oneCell' = true) := (fun u hu => X2.out u (by rw [← hx2] at hu; exact List.mem_of_mem_drop hu) : ∀ u ∈ x2, u.oneCell' = true)
  have X4 : Hid (x2.length = (n - p) * 2) := (by rw [← hx2, List.length_drop, hxl]; omega : x2.length = (n - p) * 2)
  have T := Lib.hid (two_splices' row ys ds x2 p n G R1.out R2.out D1.out X4.out hp hG1)
  rw [hys, hx2] at P
  have C1 : ∀ j u, ds[j]? = some u → w1.cell? ((⟨g, 0, none⟩ : Addr).add j) = some u := fun j u hj => GW1.out.cell (blk_cells hgb j u hj)
  obtain ⟨w2, hrun, H2, F2⟩ := copy_ex w1 w.heap.size (p * 2) (n + 1 - p) (G - p) ⟨g, 0, none⟩ 1 1 row H1.out ds 1 (by simp only [Nat.min_def]; split <;> omega) D1.out C1 (by rw [D1.out, R1.out]; omega) D2.out
  have X5 : Hid (∀ j u, x2[j]? = some u → w2.cell? ((⟨b, p * 2, none⟩ : Addr).add j) = some u) := (fun j u hj => by
    have h1 := hcs (p * 2 + j) u (by rw [← hx2, List.getElem?_drop] at hj; exact hj)
    rw [Addr.add_lit, Nat.zero_add] at h1
    rw [Addr.add_lit]
    exact F2.out.cell (GW1.out.cell h1) (by show ¬ b = w.heap.size; omega) : ∀ j u, x2[j]? = some u → w2.cell? ((⟨b, p * 2, none⟩ : Addr).add j) = some u)
  have M1 : Hid (Nat.min (n - p) (n + 1 - (p + 1)) = n - p) := (by simp only [Nat.min_def]; split <;> omega : Nat.min (n - p) (n + 1 - (p + 1)) = n - p)
  have M2 : Hid ((p + 1) * 2 + x2.length ≤ (splice row (p * 2) ds).length) := (by rw [X4.out, T.out.2.2]; omega : (p + 1) * 2 + x2.length ≤ (splice row (p * 2) ds).length)
  have hw1 : IntKind.i64.wrap ((p : Int) + 1) = (p : Int) + 1 := by rw [IntKind.wrap_i64]; omega
  have hb1 : (0 : Int) ≤ (p : Int) + 1 := by omega
  have hin : p ≤ n := by omega
  have htn : ((p : Int) + 1).toNat = p + 1 := by omega
  have hb2 : ¬ (G = p + 1) := by omega
  have hb6 : ¬ (G = p) := by omega
  have hb3 : (p : Int) ≤ (n : Int) := by omega
  have hb4 : ¬ (n = p) := by omega
  have hb5 : ¬ ((p : Int) = (n : Int)) := by omega
  clear ho hgb hcs hxl hn hxs hds hx2 hys C1
  go_enter Tryd.func54, Tryd.ntmps54
  go_wp2_with (first | (at_builtin; refine Lib.wpList_append_run _ rfl _ _ _ _ rfl _ _ rfl rfl _ _ (hrz _) ?_) | (simp only [hrun]))
  go_region_law (refine step_copy_two rfl (.tmp 50) (.tmp 53) 27 27 rfl 42 2 Tryd.underlying27 Tryd.size42 w.heap.size ((p + 1) * 2) (n + 1 - (p + 1)) (G - (p + 1)) ⟨b, p * 2, none⟩ (n - p) (n - p) (by simp [Act.eval, Act.put]) (by simp [Act.eval, Act.put]) (splice row (p * 2) ds) 42 H2.out x2 (n - p) M1.out X4.out X5.out M2.out X3.out ?_; intro w3 H3 F3)
  go_wp2_with fail
  go_ret
  refine ⟨_, rfl, ?_, ?_, Or.inr ⟨w.heap.size, rfl, Nat.le_refl _⟩⟩
  · rw [PL.out, P.out]
    refine ⟨by rw [← T.out.1, List.length_take, T.out.2.1]; omega, Or.inr ⟨_, G, _, rfl, Nat.zero_le _, H3.out, hG1, by unfold maxLen; omega, by simpa using T.out.2.1, by simpa using T.out.1⟩⟩
  · exact ((GW1.out.frm _).trans (F2.out.drew) (fun k e => Or.inr (by rw [e]; exact Nat.le_refl _))).trans F3.out (fun k e => Or.inr (by rw [e]; exact Nat.le_refl _))
end Go.Proofs.YtjkhgpdhhnfmlaaDoor

/- The contracts of slices.Insert at every place, slices.Delete (one timer), slices.Clone at this program. -/
namespace Go.Proofs.YtjkhgpdhhnfmlaaDoor
open Go.RowKit MK
open RG (Du)
set_option linter.unusedSimpArgs false

theorem insert_any (v : Value) (p : Nat) (l : List Du) (d : Du) (g : Nat) (w : World) (ho : w.ownsRow 0 42 2 v l.length (cd l)) (hb : l.length ≤ 1000000)
    (hp : p ≤ l.length) (hgb : w.heap[g]? = some (.cells (cd [d]).toArray 42 (0, 0))) (hne : v.ownBlock ≠ some g) :
    Calls Tryd.prog 54 #[v, .int .i64 p, .slice (some ⟨g, 0, none⟩) 1 1] w (RowQ v (l.take p ++ d :: l.drop p) w) := by
  by_cases hpn : p = l.length
  · subst hpn
    have := insert_end v l d g w ho hb hgb
    simpa using this
  · rcases ho.2 with ⟨h1, h2⟩ | ⟨b, cap, cur, h1, _, h3, h4, h5, _⟩
    · omega
    · subst h1
      by_cases hroom : l.length + 1 ≤ cap
      · exact insert_shift b cap p l d g w ho hb (by omega) hroom hgb (fun e => hne (by rw [e]; rfl))
      · obtain rfl : cap = l.length := by omega
        exact insert_grow b p l d g w ho hb (by omega) hgb

theorem clone_nil (w : World) : Calls Tryd.prog 81 #[.slice none 0 0] w fun e w' => e = .returned (.slice none 0 0) ∧ w = w' := by
  have q42 : ∀ (w : World) (a : Option Addr) (n c n' c' : Nat), (binOp .eql 27 (.slice a n c) (.slice none n' c')).run Tryd.prog w = .ok (.bool a.isNone) w := fun w a n c n' c' => Lib.run_eql_slice_nil w _ _ a n c n' c' Tryd.underlying27
  go_enter Tryd.func81, Tryd.ntmps81
  go_wp2_with fail
  go_ret
  exact ⟨rfl, rfl⟩
def CloneQ (l : List Du) (w : World) (e : Ending) (w' : World) : Prop := ∃ v', e = .returned v' ∧ w'.ownsRow w.heap.size 42 2 v' l.length (cd l) ∧ Grw w w'
theorem empty_row (w : World) : (w.alloc (.cells #[] 42)).ownsRow w.heap.size 42 2 (.slice (some ⟨w.heap.size, 0, none⟩) 0 0) 0 [] :=
  World.ownsRow_lit w #[] 0 (Nat.le_refl _) (by unfold maxLen; omega) rfl
set_option maxHeartbeats 1000000 in
set_option maxRecDepth 100000 in
theorem clone_some (a : Addr) (cap : Nat) (l : List Du) (w : World) (hl : Lies w (some a) (cd l)) (hb : l.length ≤ 1000000) :
    Calls Tryd.prog 81 #[.slice (some a) l.length cap] w (CloneQ l w) := by
  obtain ⟨i0, hi, hz0, hz1, hz2⟩ := info_parts Tryd.info42
  have D1 := Lib.hid (cd_len l)
  have D2 := Lib.hid (cd_one l)
  have C : Hid (∀ j u, (cd l)[j]? = some u → (w.alloc (.cells #[] 42)).cell? (a.add j) = some u) := (fun j u hj => by
    rcases hl with h | ⟨b, off, e, _, hc⟩
    · rw [h] at hj; cases hj
    · injection e with e
      subst e
      rw [Addr.add_lit]
      exact ((Grw.rfl' w).alloc _).cell (hc j u hj) : ∀ j u, (cd l)[j]? = some u → (w.alloc (.cells #[] 42)).cell? (a.add j) = some u)
  have O := Lib.hid (empty_row w)
  obtain ⟨n, hn⟩ : ∃ n, l.length = n := ⟨_, rfl⟩
  obtain ⟨xs, hxs⟩ : ∃ xs, cd l = xs := ⟨_, rfl⟩
  have HN := Lib.hid (And.intro hn hxs)
  rw [hn] at D1 hb ⊢
  rw [hxs] at D1 D2 C
  clear hl hn hxs
  have q42 : ∀ (w : World) (a : Option Addr) (n c n' c' : Nat), (binOp .eql 27 (.slice a n c) (.slice none n' c')).run Tryd.prog w = .ok (.bool a.isNone) w := fun w a n c n' c' => Lib.run_eql_slice_nil w _ _ a n c n' c' Tryd.underlying27
  go_enter Tryd.func81, Tryd.ntmps81
  go_wp2_with (at_builtin; refine wpList_append_own _ rfl _ _ 27 rfl w.heap.size 42 i0 _ 2 16 Tryd.underlying27 hi hz0 hz1 hz2 rfl (by decide) _ _ _ rfl O.out a n cap xs rfl D1.out C.out D2.out (by unfold maxLen; omega) (by omega) (by simp) ?_)
  intro v' w2 hown' hgrow _
  have U := Lib.hid (And.intro hown' (Below.grown (B := w.heap.size) (a := w) ((Grw.rfl' w).alloc (.cells #[] 42)) hgrow (by rw [size_new]; omega) (fun k e => by injection e with e; rw [← e]; exact Nat.le_refl _)))
  clear hown' hgrow
  go_wp2_with fail
  go_ret
  refine ⟨_, rfl, ?_, U.out.2⟩
  rw [HN.out.1, HN.out.2]
  simpa using U.out.1
theorem clone_any (v : Value) (l : List Du) (w : World) (ho : w.ownsRow 0 42 2 v l.length (cd l)) (hb : l.length ≤ 1000000) : Calls Tryd.prog 81 #[v] w (CloneQ l w) := by
  rcases ho.2 with ⟨h1, h2⟩ | ⟨b, cap, cur, h1, _⟩
  · subst h1
    have hl : l = [] := List.eq_nil_of_length_eq_zero h2
    subst hl
    exact (clone_nil w).mono fun e w' ⟨he, hw⟩ => ⟨_, he, by subst hw; exact World.ownsRow_nil _ _ _ _, by subst hw; exact Grw.rfl' _⟩
  · subst h1
    obtain ⟨ao, cap', e, r⟩ := ownsRow_lies ho
    injection e with e1 _ e3
    subst e1
    exact clone_some _ _ l w r hb

/-- the row behind append and clear. -/
theorem del_rows (cur xs : List Value) (p m c : Nat) (hc : cur.length = c * 2) (hx : cur.take ((p + m + 1) * 2) = xs) (hxl : xs.length = (p + m + 1) * 2) (hn : p + m + 1 ≤ c) (z : List Value) (hz : z.length = 2) :
    (splice (splice cur (p * 2) (xs.drop ((p + 1) * 2))) ((p + m) * 2) z).take ((p + m) * 2) = xs.take (p * 2) ++ xs.drop ((p + 1) * 2) ∧ (splice (splice cur (p * 2) (xs.drop ((p + 1) * 2))) ((p + m) * 2) z).length = c * 2 ∧ (splice cur (p * 2) (xs.drop ((p + 1) * 2))).length = c * 2 := by
  have l1 : (splice cur (p * 2) (xs.drop ((p + 1) * 2))).length = c * 2 := by rw [length_splice _ _ _ (by simp; omega), hc]
  have l2 : (splice (splice cur (p * 2) (xs.drop ((p + 1) * 2))) ((p + m) * 2) z).length = c * 2 := by rw [length_splice _ _ _ (by omega), l1]
  refine ⟨?_, l2, l1⟩
  have e0 : (splice (splice cur (p * 2) (xs.drop ((p + 1) * 2))) ((p + m) * 2) z).take ((p + m) * 2) = (splice cur (p * 2) (xs.drop ((p + 1) * 2))).take ((p + m) * 2) := by
    show ((splice cur (p * 2) (xs.drop ((p + 1) * 2))).take ((p + m) * 2) ++ _).take _ = _
    rw [List.take_append_of_le_length (by rw [List.length_take, l1]; omega), List.take_take, Nat.min_self]
  rw [e0]
  unfold splice
  rw [← List.append_assoc, List.take_left' (by simp; omega)]
  congr 1
  rw [← hx, List.take_take]
  congr 1; omega
/-- append where there is room, as one step of a region that draws: the row behind it, whole. -/
theorem step_append_two {ops : Array Oper} {o : Oper} {a : Act} {w : World} {K : Act → World → Prop} {Q : Exit → Act → World → Prop} {E : Prop} (hgd : o.guard = none) (s x : Operand)
    (ho : o.op = .call { callee := .builtin .append, args := #[s, x], argTypes := #[27, 27] })
    (g n cap : Nat) (hs : a.eval s = .slice (some ⟨g, 0, none⟩) n cap) (ad : Addr) (m c : Nat) (hx : a.eval x = .slice (some ad) m c)
    (cur : List Value) (hg : w.heap[g]? = some (.cells cur.toArray 42 (0, 0))) (news : List Value) (hn : news.length = m * 2)
    (hsrc : ∀ j v, news[j]? = some v → w.cell? (ad.add j) = some v) (h1 : ∀ v ∈ news, v.oneCell' = true) (hroom : n + m ≤ cap) (hfit : n * 2 + news.length ≤ cur.length)
    (h : ∀ w', Hid (w'.heap[g]? = some (.cells (splice cur (n * 2) news).toArray 42 (0, 0))) → Hid (Frm (fun k => k = g) w w') → K (a.put o.dst (.slice (some ⟨g, 0, none⟩) (n + m) cap)) w') :
    if Region.wanted o (yielded ops a.tmps) = true then Oper.wp Tryd.prog o a w K Q else E := by
  obtain ⟨i0, hi, hz0, hz1, hz2⟩ := info_parts Tryd.info42
  have hw : Region.wanted o (yielded ops a.tmps) = true := by simp [Region.wanted, hgd]
  rw [if_pos hw]
  have hrun := run_append_room (P := Tryd.prog) w 27 o.type 42 i0 Tryd.underlying27 hi g n cap cur.toArray hg ad m c news (by rw [hz1]; exact hn) hsrc h1 hroom (by rw [hz1]; simpa using hfit)
  rw [hz1] at hrun
  unfold Oper.wp
  simp [execOp, ho, resolve, invoke, builtin, hs, hx, hrun, Result.andThen]
  exact h _ (show _ = _ by simpa [splice] using setRow_heap w g _ _ 42 _ hg) (show Frm _ _ _ from frm_setRow w g _ rfl)
theorem clear_ex (w : World) (g off c : Nat) (cur : List Value) (hg : w.heap[g]? = some (.cells cur.toArray 42 (0, 0))) (hfit : off + 2 ≤ cur.length) :
    ∃ w', (∀ ty, (Builtin.clear_ #[27] ty #[.slice (some ⟨g, off, none⟩) 1 c]).run Tryd.prog w = .ok (.tuple #[]) w') ∧ Hid (w'.heap[g]? = some (.cells (splice cur off [.int .i64 0, .int .u64 0]).toArray 42 (0, 0))) ∧ Hid (Frm (fun k => k = g) w w') := by
  have hst := run_storeCells_at Tryd.prog g off 42 [Value.int .i64 0, Value.int .u64 0] 0 cur.toArray w hg (by simpa using hfit) (by intro v hv; simp at hv; rcases hv with rfl | rfl <;> rfl)
  refine ⟨w.setRow g (cur.take off ++ [Value.int .i64 0, Value.int .u64 0] ++ cur.drop (off + 2)).toArray, fun ty => ?_, (show _ = _ by simpa [splice] using setRow_heap w g _ _ 42 _ hg), (show Frm _ _ _ from frm_setRow w g _ rfl)⟩
  have hz : (Builtin.zeroCells (Value.agg #[.int .i64 0, .int .u64 0]).cells 1).toList = [Value.int .i64 0, Value.int .u64 0] := by simp [Builtin.zeroCells, Value.cells, List.range_succ]
  simp only [Nat.add_zero, List.length_cons, List.length_nil] at hst
  simp [Builtin.clear_, run_underlying Tryd.underlying27, Tryd.zeroValue42, hz]
  simpa using congrArg (fun r => r.andThen fun _ w' => Result.ok (Value.tuple #[]) w') hst
def DelQ (v : Value) (l : List Du) (w : World) (e : Ending) (w' : World) : Prop :=
  ∃ v', e = .returned v' ∧ w'.ownsRow 0 42 2 v' l.length (cd l) ∧ Frm (fun k => v.ownBlock = some k) w w' ∧ v'.ownBlock = v.ownBlock
set_option maxHeartbeats 4000000 in
set_option maxRecDepth 100000 in
theorem delete_any (v : Value) (p m : Nat) (l : List Du) (w : World) (ho : w.ownsRow 0 42 2 v l.length (cd l)) (hb : l.length ≤ 1000000) (hp : l.length = p + m + 1) :
    Calls Tryd.prog 57 #[v, .int .i64 p, .int .i64 ((p : Int) + 1)] w (DelQ v (l.take p ++ l.drop (p + 1)) w) := by
  obtain ⟨b, cap, cur, rfl, hblk, hroom, hcap, hsz, htake⟩ : ∃ b cap, ∃ cur : List Value, v = .slice (some ⟨b, 0, none⟩) l.length cap ∧ w.heap[b]? = some (.cells cur.toArray 42 (0, 0)) ∧ l.length ≤ cap ∧ cap ≤ maxLen ∧ cur.length = cap * 2 ∧ cur.take (l.length * 2) = cd l := by
    rcases ho.2 with ⟨_, h2⟩ | ⟨g', cap', cur, h1, _, h3, h4, h5, h6, h7⟩
    · omega
    · exact ⟨g', cap', cur.toList, h1, by simpa using h3, h4, h5, by simpa using h6, by simpa using h7⟩
  have hxl := cd_len l
  rw [hp] at hxl htake hroom hb
  have T := Lib.hid (del_rows cur (cd l) p m cap hsz htake hxl hroom [.int .i64 0, .int .u64 0] rfl)
  have P := Lib.hid (show cd (l.take p ++ l.drop (p + 1)) = (cd l).take (p * 2) ++ (cd l).drop ((p + 1) * 2) by rw [cd_app, cd_take, cd_drop])
  have PL := Lib.hid (show (l.take p ++ l.drop (p + 1)).length = p + m by simp; omega)
  have X2 := Lib.hid (cd_one l)
  rw [hp]
  obtain ⟨xs, hxs⟩ : ∃ xs, cd l = xs := ⟨_, rfl⟩
  rw [hxs] at T P X2 hxl htake
  obtain ⟨x2, hx2⟩ : ∃ x2, xs.drop ((p + 1) * 2) = x2 := ⟨_, rfl⟩
  have X3 : Hid (∀ u ∈ x2, u.oneCell' = true) := (fun u hu => X2.out u (by rw [← hx2] at hu; exact List.mem_of_mem_drop hu) : ∀ u ∈ x2, u.oneCell' = true)
  have X4 : Hid (x2.length = m * 2) := (by rw [← hx2, List.length_drop, hxl]; omega : x2.length = m * 2)
  have X5 : Hid (∀ j u, x2[j]? = some u → w.cell? ((⟨b, (p + 1) * 2, none⟩ : Addr).add j) = some u) := (fun j u hj => by
    rw [Addr.add_lit]
    rw [← hx2, List.getElem?_drop, ← htake, List.getElem?_take] at hj
    split at hj
    · simp [World.cell?, hblk, hj]
    · exact absurd hj (by simp) : ∀ j u, x2[j]? = some u → w.cell? ((⟨b, (p + 1) * 2, none⟩ : Addr).add j) = some u)
  rw [hx2] at T P
  have B := Lib.hid hblk
  have CS := Lib.hid hsz
  have hc63 : cap ≤ 9223372036854775807 := by unfold maxLen at hcap; omega
  have hw1 : IntKind.i64.wrap ((p : Int) + 1) = (p : Int) + 1 := by rw [IntKind.wrap_i64]; omega
  have hb1 : (0 : Int) ≤ (p : Int) + 1 := by omega
  have htn : ((p : Int) + 1).toNat = p + 1 := by omega
  have hb3 : (p : Int) ≤ (p : Int) + 1 := by omega
  have hb4 : (p : Int) + 1 ≤ (p : Int) + (m : Int) + 1 := by omega
  have hb5 : ¬ ((p : Int) = (p : Int) + 1) := by omega
  have hb6 : ¬ (cap = p) := by omega
  have hb7 : ¬ (cap = p + m) := by omega
  have hpc : p ≤ cap := by omega
  have hpm : p + m ≤ cap := by omega
  have hpm1 : p + m + 1 ≤ cap := by omega
  have M2 : Hid (p * 2 + x2.length ≤ cur.length) := (by rw [X4.out, CS.out]; omega : p * 2 + x2.length ≤ cur.length)
  have M3 : Hid (p + m ≤ cap) := (by omega : p + m ≤ cap)
  clear ho hblk hsz htake hxl hxs hx2 hcap hp
  by_cases hcp : cap = p + 1
  · subst hcp
    obtain rfl : m = 0 := by omega
    have X6 : Hid (∀ j u, x2[j]? = some u → w.cell? ((⟨b, 0, none⟩ : Addr).add j) = some u) := (fun j u hj => by
      have := X4.out
      rw [List.eq_nil_of_length_eq_zero (show x2.length = 0 by omega)] at hj
      cases hj
      done : ∀ j u, x2[j]? = some u → w.cell? ((⟨b, 0, none⟩ : Addr).add j) = some u)
    go_enter Tryd.func57, Tryd.ntmps57
    go_wp2_with fail
    go_region_law (refine step_append_two rfl (.tmp 22) (.tmp 25) rfl b p (p + 1) (by simp [Act.eval, Act.put]) ⟨b, 0, none⟩ 0 0 (by simp [Act.eval, Act.put]) cur B.out x2 X4.out X6.out X3.out M3.out M2.out ?_; intro w1 H1 F1)
    obtain ⟨w2, hclr, H2, F2⟩ := clear_ex w1 b (p * 2) 1 _ H1.out (by have := T.out.2.2; omega)
    go_wp2_with (simp only [hclr])
    go_ret
    refine ⟨_, rfl, ?_, ?_, rfl⟩
    · rw [PL.out, P.out]
      refine ⟨by rw [← T.out.1, List.length_take, T.out.2.1]; omega, Or.inr ⟨b, p + 1, _, rfl, Nat.zero_le _, H2.out, M3.out, by unfold maxLen; omega, by simpa using T.out.2.1, by simpa using T.out.1⟩⟩
    · exact (((Frm.rfl' _ w).drew).trans F1.out (fun k e => Or.inl (by rw [e]; rfl))).trans F2.out (fun k e => Or.inl (by rw [e]; rfl))
  · go_enter Tryd.func57, Tryd.ntmps57
    go_wp2_with fail
    go_region_law (refine step_append_two rfl (.tmp 22) (.tmp 25) rfl b p cap (by simp [Act.eval, Act.put]) ⟨b, (p + 1) * 2, none⟩ m (cap - (p + 1)) (by simp [Act.eval, Act.put]) cur B.out x2 X4.out X5.out X3.out M3.out M2.out ?_; intro w1 H1 F1)
    obtain ⟨w2, hclr, H2, F2⟩ := clear_ex w1 b ((p + m) * 2) (cap - (p + m)) _ H1.out (by rw [T.out.2.2]; omega)
    go_wp2_with (simp only [hclr])
    go_ret
    refine ⟨_, rfl, ?_, ?_, rfl⟩
    · rw [PL.out, P.out]
      refine ⟨by rw [← T.out.1, List.length_take, T.out.2.1]; omega, Or.inr ⟨b, cap, _, rfl, Nat.zero_le _, H2.out, M3.out, by unfold maxLen; omega, by simpa using T.out.2.1, by simpa using T.out.1⟩⟩
    · exact (((Frm.rfl' _ w).drew).trans F1.out (fun k e => Or.inl (by rw [e]; rfl))).trans F2.out (fun k e => Or.inl (by rw [e]; rfl))
end Go.Proofs.YtjkhgpdhhnfmlaaDoor

/- The contract of ring.find at this program. -/
namespace Go.Proofs.YtjkhgpdhhnfmlaaDoor
open Go.RowKit MK
open RG (Du)
set_option linter.unusedSimpArgs false

/-- what find tells: where it is, or that it is nowhere. -/
def Fnd (L : Nat → List Du) (id : Int) (s p : Int) (o : Bool) : Prop :=
  (∃ (k j : Nat) (h : j < (L k).length), k < 64 ∧ s = k ∧ p = j ∧ o = true ∧ ((L k)[j]).id = id) ∨
  (s = 0 ∧ p = 0 ∧ o = false ∧ ∀ k, k < 64 → ∀ j (h : j < (L k).length), ((L k)[j]).id ≠ id)
def FindQ (L : Nat → List Du) (id : Int) (w : World) (e : Ending) (w' : World) : Prop := ∃ s p o, e = .returned (.tuple #[.int .i64 s, .int .i64 p, .bool o]) ∧ Fnd L id s p o ∧ Grw w w'
theorem findQ_yes {L : Nat → List Du} {id : Int} {w w' : World} {k j : Nat} (hk : k < 64) {m : List Du} (hm : L k = m) (hj : j < m.length) (h : m[j].id = id) (g : Grw w w') : FindQ L id w (.returned (.tuple #[.int .i64 k, .int .i64 j, .bool true])) w' := by
  subst hm
  exact ⟨k, j, true, rfl, Or.inl ⟨k, j, hj, hk, rfl, rfl, rfl, h⟩, g⟩
theorem findQ_no {L : Nat → List Du} {id : Int} {w w' : World} (h : ∀ k, k < 64 → ∀ j (h : j < (L k).length), ((L k)[j]).id ≠ id) (g : Grw w w') : FindQ L id w (.returned (.tuple #[.int .i64 0, .int .i64 0, .bool false])) w' :=
  ⟨0, 0, false, rfl, Or.inr ⟨rfl, rfl, rfl, h⟩, g⟩
set_option maxHeartbeats 2000000 in
set_option maxRecDepth 100000 in
theorem find_any (b : Nat) (A : Array Value) (L : Nat → List Du) (id : Int) (w : World) (h : RingL w b A L) (hb : ∀ k, (L k).length ≤ 1000000) :
    Calls Tryd.prog 75 #[.pointer (some ⟨b, 0, none⟩), .int .i64 id] w (FindQ L id w) := by
  have R := Lib.hid h
  have hr := Lib.hid (ring_range h)
  have hz : (Tryd.prog.info? 96).map (·.size) = some A.toList.length := by rw [Tryd.size96, Array.length_toList, h.size]
  have HZ := Lib.hid hz
  obtain ⟨l, hl⟩ : ∃ l, A.toList = l := ⟨_, rfl⟩
  rw [hl] at hr HZ
  have hA : A = l.toArray := by rw [← hl]
  have HA := Lib.hid hA
  have HB := Lib.hid hb
  clear h hz hl hA hb
  go_enter Tryd.func75, Tryd.ntmps75
  go_wp2_with (refine wpList_load_mid rfl 96 _ rfl b 0 rfl l _ hr.out Tryd.underlying96 rfl HZ.out ?_)
  go_loopw [17] (fun i wr => ∃ k : Nat, k ≤ 64 ∧ i = .int .i64 k ∧ Grw w wr ∧ ∀ q, q < k → ∀ j (h : j < (L q).length), ((L q)[j]).id ≠ id) (fun i _ => 64 - (intOf i).toNat)
  case atStart => exact ⟨0, Nat.zero_le _, rfl, Grw.rfl' _, fun q hq => by omega⟩
  case round =>
    obtain ⟨k, hk, rfl, hg, hno⟩ := hrel
    have G := Lib.hid hg
    have NO := Lib.hid hno
    clear hg hno
    by_cases hk' : k < 64
    · have hki : (k : Int) < 64 := by omega
      obtain ⟨ao, cap, hcell, hlies⟩ := R.out.row hk'
      rw [HA.out] at hcell
      have hix := run_index64 l k _ hk' hcell
      have hb := HB.out k
      have LI := Lib.hid hlies
      obtain ⟨m, hm⟩ : ∃ m, L k = m := ⟨_, rfl⟩
      rw [hm] at hix hb LI
      obtain ⟨n, hn⟩ : ∃ n, m.length = n := ⟨_, rfl⟩
      rw [hn] at hix hb
      have HM := Lib.hid hm
      have HN := Lib.hid hn
      clear hcell hlies hm hn
      go_wp2_with fail
      go_loopw [23] (fun i wi => ∃ j : Nat, j ≤ n ∧ i = .int .i64 j ∧ Grw w wi ∧ ∀ q (h : q < m.length), q < j → (m[q]).id ≠ id) (fun i _ => n - (intOf i).toNat)
      case atStart => exact ⟨0, Nat.zero_le _, rfl, G.out, fun q _ hq => by omega⟩
      case round =>
        obtain ⟨j, hj, rfl, hg, hno⟩ := hrel
        have GI := Lib.hid hg
        have NI := Lib.hid hno
        clear hg hno
        by_cases hj' : j < n
        · have hji : (j : Int) < (n : Int) := by omega
          have hjm : j < m.length := by rw [HN.out]; exact hj'
          obtain ⟨bb, off, rfl, c0, c1⟩ := lies_at (LI.out.later GI.out) hjm
          obtain ⟨d, hd⟩ : ∃ d, m[j] = d := ⟨_, rfl⟩
          rw [hd] at c0 c1
          obtain ⟨di, dt⟩ := d
          simp only at c0 c1
          have HD := Lib.hid hd
          clear hd
          by_cases he : di = id
          · have ht : (di == id) = true := by simp [he]
            have HE := Lib.hid he
            clear he
            go_wp2_with fail
            refine bodyPost_ret (v := .tuple #[.int .i64 k, .int .i64 j, .bool true]) (by simp [results, Tryd.results75, go_sem]) rfl ?_
            exact findQ_yes hk' HM.out hjm (by rw [HD.out]; exact HE.out) (GI.out.alloc _)
          · have ht : (di == id) = false := by simp [he]
            have HE := Lib.hid he
            clear he
            go_wp2_with fail
            go_roundw
            case rel => exact ⟨j + 1, by omega, by go_num, GI.out.alloc _, fun q h1 h2 => by
              rcases (by omega : q < j ∨ q = j) with h | h
              · exact NI.out q h1 h
              · subst h; rw [HD.out]; exact HE.out⟩
            case measure => simp [intOf]; omega
        · have hji : ¬ (j : Int) < (n : Int) := by omega
          go_wp2_with fail
          refine ⟨⟨k + 1, by omega, by go_num, GI.out, fun q hq i hi => ?_⟩, by simp [intOf]; omega⟩
          rcases (by omega : q < k ∨ q = k) with h | h
          · exact NO.out q h i hi
          · subst h
            have hi' : i < m.length := by rw [← HM.out]; exact hi
            have := NI.out i hi' (by rw [HN.out] at hi'; omega)
            simpa [HM.out] using this
    · have hki : ¬ (k : Int) < 64 := by omega
      have hke : k = 64 := by omega
      subst hke
      go_wp2_with fail
      refine bodyPost_ret (v := .tuple #[.int .i64 0, .int .i64 0, .bool false]) (by simp [results, Tryd.results75, go_sem]) rfl ?_
      exact findQ_no NO.out G.out
end Go.Proofs.YtjkhgpdhhnfmlaaDoor
