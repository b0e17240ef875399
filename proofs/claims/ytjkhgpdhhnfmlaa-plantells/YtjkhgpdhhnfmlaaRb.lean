/- The contracts of remontoirref05.Less, cmp.Compare, cmp.Or, plan.order, slices.Clone and slices.BinarySearchFunc at this program, over rows of timers. -/
import Derived.Test.YtjkhgpdhhnfmlaaProg
import Derived.Test.YtjkhgpdhhnfmlaaRl
import Derived.Test.YtjkhgpdhhnfmlaaFc
import Derived.Deep.MidRow
import Derived.Deep.RegionHeld3
import Derived.Deep.RegionLaw
import Derived.Laws.Externs
import Derived.Shelf.RegionOpenPlain
import Derived.Lib.SliceRun
namespace Go.Proofs.Ytjkhgpdhhnfmlaa
open Go.RowKit
open RG (Du)
set_option linter.unusedSimpArgs false

/-- two cells that lie, and their block is there. -/
structure Kp (x : World) (b : Nat) (c0 c1 : Value) : Prop where
  t : Two x b c0 c1
  lt : b < x.heap.size
theorem Kp.new (w : World) (c0 c1 : Value) (T : TypeId) : Kp (w.alloc (.cells #[c0, c1] T)) w.heap.size c0 c1 := ⟨Two.new w c0 c1 T, by simp only [size_new]; omega⟩
theorem Kp.later {w x : World} {b : Nat} {c0 c1 : Value} (k : Kp w b c0 c1) (h : Grw w x) : Kp x b c0 c1 := ⟨k.t.later h k.lt, Nat.lt_of_lt_of_le k.lt (Below.size h)⟩
theorem Kp.grown {w x : World} {c0 c1 : Value} {T : TypeId} (h : Grw (w.alloc (.cells #[c0, c1] T)) x) : Kp x w.heap.size c0 c1 := (Kp.new w c0 c1 T).later h

def dv (d : Du) : Value := .agg #[.int .i64 d.id, .int .u64 (d.t : Nat)]
set_option maxRecDepth 100000 in
theorem less_any (a b : Du) (w : World) :
    Calls Try.prog 19 #[dv a, dv b] w fun e w' => e = .returned (.bool (RG.less a b)) ∧ Grw w w' := by
  obtain ⟨ai, a2⟩ := a
  obtain ⟨bi, b2⟩ := b
  obtain ⟨r, hr⟩ : ∃ r, RG.less ⟨ai, a2⟩ ⟨bi, b2⟩ = r := ⟨_, rfl⟩
  rw [hr]
  unfold RG.less at hr
  simp only at hr
  unfold dv
  by_cases h1 : a2 < b2
  · have hlt : (a2 : Int) < (b2 : Int) := by omega
    have HR : Hid (r = true) := (by rw [← hr]; simp [h1] : r = true)
    clear hr
    go_enter Try.func19, Try.ntmps19
    go_wp2_with fail
    go_ret
    exact ⟨by rw [HR.out]; rfl, ((Grw.rfl' _).alloc _).alloc _⟩
  · have hlt : ¬ (a2 : Int) < (b2 : Int) := by omega
    by_cases h2 : a2 = b2
    · have he : ((a2 : Int) == (b2 : Int)) = true := by simp [h2]
      by_cases h3 : ai < bi
      · have HR : Hid (r = true) := (by rw [← hr]; simp [h2, h3] : r = true)
        clear hr h2
        go_enter Try.func19, Try.ntmps19
        go_wp2_with fail
        go_ret
        exact ⟨by rw [HR.out]; rfl, ((Grw.rfl' _).alloc _).alloc _⟩
      · have HR : Hid (r = false) := (by rw [← hr]; simp [h2, h3] : r = false)
        clear hr h2
        go_enter Try.func19, Try.ntmps19
        go_wp2_with fail
        go_ret
        exact ⟨by rw [HR.out]; rfl, ((Grw.rfl' _).alloc _).alloc _⟩
    · have he : ((a2 : Int) == (b2 : Int)) = false := by simp; omega
      have HR : Hid (r = false) := (by rw [← hr]; simp [h1, h2] : r = false)
      clear hr h2
      go_enter Try.func19, Try.ntmps19
      go_wp2_with fail
      go_ret
      exact ⟨by rw [HR.out]; rfl, ((Grw.rfl' _).alloc _).alloc _⟩
/-- compare. -/
def cmp (a b : Int) : Int := if a < b then -1 else if b < a then 1 else 0
theorem cmpu_any (a b : Nat) (w : World) : Calls Try.prog 33 #[.int .u64 a, .int .u64 b] w fun e w' => e = .returned (.int .i64 (cmp a b)) ∧ w = w' := by
  obtain ⟨r, hr⟩ : ∃ r, cmp a b = r := ⟨_, rfl⟩
  rw [hr]
  unfold cmp at hr
  by_cases h1 : (a : Int) < (b : Int)
  · have HR : Hid (r = -1) := (by rw [← hr]; simp [h1] : r = -1)
    clear hr
    go_enter Try.func33, Try.ntmps33
    go_wp2
    go_ret
    exact ⟨by rw [HR.out]; rfl, rfl⟩
  · by_cases h2 : (b : Int) < (a : Int)
    · have HR : Hid (r = 1) := (by rw [← hr]; simp [h1, h2] : r = 1)
      clear hr
      go_enter Try.func33, Try.ntmps33
      go_wp2
      go_ret
      exact ⟨by rw [HR.out]; rfl, rfl⟩
    · have HR : Hid (r = 0) := (by rw [← hr]; simp [h1, h2] : r = 0)
      clear hr
      go_enter Try.func33, Try.ntmps33
      go_wp2
      go_ret
      exact ⟨by rw [HR.out]; rfl, rfl⟩
theorem cmpi_any (a b : Int) (w : World) : Calls Try.prog 34 #[.int .i64 a, .int .i64 b] w fun e w' => e = .returned (.int .i64 (cmp a b)) ∧ w = w' := by
  obtain ⟨r, hr⟩ : ∃ r, cmp a b = r := ⟨_, rfl⟩
  rw [hr]
  unfold cmp at hr
  by_cases h1 : a < b
  · have HR : Hid (r = -1) := (by rw [← hr]; simp [h1] : r = -1)
    clear hr
    go_enter Try.func34, Try.ntmps34
    go_wp2
    go_ret
    exact ⟨by rw [HR.out]; rfl, rfl⟩
  · by_cases h2 : b < a
    · have HR : Hid (r = 1) := (by rw [← hr]; simp [h1, h2] : r = 1)
      clear hr
      go_enter Try.func34, Try.ntmps34
      go_wp2
      go_ret
      exact ⟨by rw [HR.out]; rfl, rfl⟩
    · have HR : Hid (r = 0) := (by rw [← hr]; simp [h1, h2] : r = 0)
      clear hr
      go_enter Try.func34, Try.ntmps34
      go_wp2
      go_ret
      exact ⟨by rw [HR.out]; rfl, rfl⟩
/-- the first that is not zero. -/
def or2 (x y : Int) : Int := if x = 0 then y else x
theorem or_any (x y : Int) (g : Nat) (w : World) (c0 : w.cell? ⟨g, 0, none⟩ = some (.int .i64 x)) (c1 : w.cell? ⟨g, 1, none⟩ = some (.int .i64 y)) :
    Calls Try.prog 32 #[.slice (some ⟨g, 0, none⟩) 2 2] w fun e w' => e = .returned (.int .i64 (or2 x y)) ∧ w = w' := by
  obtain ⟨r, hr⟩ : ∃ r, or2 x y = r := ⟨_, rfl⟩
  rw [hr]
  unfold or2 at hr
  by_cases h1 : x = 0
  · rw [if_pos h1] at hr
    subst h1
    by_cases h2 : y = 0
    · subst h2
      subst hr
      go_enter Try.func32, Try.ntmps32
      go_wp2_with fail
      refine wp_loop_rounds 3 ?_
      rw [rounds_succ]
      go_wp2_with fail
      rw [rounds_succ]
      go_wp2_with fail
      rw [rounds_succ]
      go_wp2_with fail
      go_ret
      exact ⟨rfl, rfl⟩
    · have h3 : (y != 0) = true := by simp [h2]
      have HR := Lib.hid hr
      clear hr h2
      go_enter Try.func32, Try.ntmps32
      go_wp2_with fail
      refine wp_loop_rounds 2 ?_
      rw [rounds_succ]
      go_wp2_with fail
      rw [rounds_succ]
      go_wp2_with fail
      go_ret
      exact ⟨by rw [← HR.out]; rfl, rfl⟩
  · rw [if_neg h1] at hr
    have h3 : (x != 0) = true := by simp [h1]
    have HR := Lib.hid hr
    clear hr h1
    go_enter Try.func32, Try.ntmps32
    go_wp2_with fail
    refine wp_loop_rounds 1 ?_
    rw [rounds_succ]
    go_wp2_with fail
    go_ret
    exact ⟨by rw [← HR.out]; rfl, rfl⟩
/-- the order of two timers. -/
def ord (a b : Du) : Int := or2 (cmp a.t b.t) (cmp a.id b.id)
theorem ord_neg (a b : Du) : decide (ord a b < 0) = RG.less a b := by
  rw [Bool.eq_iff_iff, RG.less_iff, decide_eq_true_eq]
  unfold ord or2 cmp
  by_cases h1 : a.t < b.t
  · simp [h1]
  · by_cases h2 : b.t < a.t
    · have e : ¬ a.t = b.t := by omega
      simp [h1, h2, e]
    · have e : a.t = b.t := by omega
      simp only [e, Nat.lt_irrefl, Int.lt_irrefl, if_false, if_true, false_or, true_and]
      split
      · simp; assumption
      · split <;> simp_all
theorem cmpu_is (a b : Nat) (c : Int) (h : cmp a b = c) (w : World) : Calls Try.prog 33 #[.int .u64 a, .int .u64 b] w fun e w' => e = .returned (.int .i64 c) ∧ w = w' := by rw [← h]; exact cmpu_any a b w
theorem cmpi_is (a b : Int) (c : Int) (h : cmp a b = c) (w : World) : Calls Try.prog 34 #[.int .i64 a, .int .i64 b] w fun e w' => e = .returned (.int .i64 c) ∧ w = w' := by rw [← h]; exact cmpi_any a b w
theorem or_is (x y z : Int) (h : or2 x y = z) (g : Nat) (w : World) (c0 : w.cell? ⟨g, 0, none⟩ = some (.int .i64 x)) (c1 : w.cell? ⟨g, 1, none⟩ = some (.int .i64 y)) :
    Calls Try.prog 32 #[.slice (some ⟨g, 0, none⟩) 2 2] w fun e w' => e = .returned (.int .i64 z) ∧ w = w' := by rw [← h]; exact or_any x y g w c0 c1
set_option maxHeartbeats 1000000 in
set_option maxRecDepth 100000 in
theorem order_any (a b : Du) (w : World) :
    Calls Try.prog 22 #[dv a, dv b] w fun e w' => e = .returned (.int .i64 (ord a b)) ∧ Grw w w' := by
  obtain ⟨r, hr⟩ : ∃ r, ord a b = r := ⟨_, rfl⟩
  rw [hr]
  unfold ord at hr
  obtain ⟨ai, a2⟩ := a
  obtain ⟨bi, b2⟩ := b
  simp only at hr
  unfold dv
  simp only
  obtain ⟨x, hx⟩ : ∃ x, cmp a2 b2 = x := ⟨_, rfl⟩
  obtain ⟨y, hy⟩ : ∃ y, cmp ai bi = y := ⟨_, rfl⟩
  rw [hx, hy] at hr
  have C1 := Lib.hid (fun w => cmpu_is a2 b2 x hx w)
  have C2 := Lib.hid (fun w => cmpi_is ai bi y hy w)
  have C3 := Lib.hid (fun g w => or_is x y r hr g w)
  clear hx hy hr
  go_enter Try.func22, Try.ntmps22
  go_wp2_with fail
  go_region_held3 (fun u => u.cell? ⟨w.heap.size, 0, none⟩ = some (.int .i64 ai) ∧ u.cell? ⟨w.heap.size, 1, none⟩ = some (.int .u64 a2) ∧ u.cell? ⟨w.heap.size + 1, 0, none⟩ = some (.int .i64 bi) ∧ u.cell? ⟨w.heap.size + 1, 1, none⟩ = some (.int .u64 b2)) (go_keep)
    (first | (go_at_call 33; refine (C1.out _).mono ?_; rintro _ w1 ⟨rfl, rfl⟩) | (go_at_call 34; refine (C2.out _).mono ?_; rintro _ w1 ⟨rfl, rfl⟩) | (go_at_call 32; refine (C3.out _ _ (by simp [go_sem]) (by simp [go_sem])).mono ?_; rintro _ w1 ⟨rfl, rfl⟩))
  go_wp2_with fail
  go_ret
  exact ⟨rfl, ((((Grw.rfl' _).alloc _).alloc _).drew).alloc _⟩
theorem Try.size25 : (Try.prog.info? 25).map (·.size) = some 2 := by kernel_rfl
theorem Try.info25 : (Try.prog.info? 25).map (fun i => (i.zero, i.size, i.bytes)) = some (some (.agg #[.int .i64 0, .int .u64 0]), 2, 16) := by kernel_rfl
/-- what Insert and Delete tell: a row of one's own, in the same block or a new one; nothing else has turned. -/
def RowQ (v : Value) (l : List Du) (w : World) (e : Ending) (w' : World) : Prop :=
  ∃ v', e = .returned v' ∧ w'.ownsRow 0 25 2 v' l.length (cd l) ∧ Frm (fun k => v.ownBlock = some k) w w' ∧ (v'.ownBlock = v.ownBlock ∨ ∃ g, v'.ownBlock = some g ∧ w.heap.size ≤ g)
theorem blk_cells {w : World} {g : Nat} {xs : List Value} {t : TypeId} (h : w.heap[g]? = some (.cells xs.toArray t (0, 0))) : ∀ j u, xs[j]? = some u → w.cell? ((⟨g, 0, none⟩ : Addr).add j) = some u := by
  intro j u hj
  rw [Addr.add_lit, Nat.zero_add]
  simp [World.cell?, h, hj]
theorem cd2 (d : Du) : cd [d] = [.int .i64 d.id, .int .u64 (d.t : Nat)] := rfl
theorem copy_ex (w : World) (g off dLen dCap : Nat) (ad : Addr) (sLen sCap : Nat) (cur : List Value) (hg : w.heap[g]? = some (.cells cur.toArray 25 (0, 0))) (cs : List Value) (m : Nat) (hm : Nat.min sLen dLen = m) (hn : cs.length = m * 2)
    (hsrc : ∀ j v, cs[j]? = some v → w.cell? (ad.add j) = some v) (hfit : off + cs.length ≤ cur.length) (h1 : ∀ v ∈ cs, v.oneCell' = true) :
    ∃ w', (Builtin.copy_ #[22, 22] 3 #[.slice (some ⟨g, off, none⟩) dLen dCap, .slice (some ad) sLen sCap]).run Try.prog w = .ok (goInt m) w' ∧ Hid (w'.heap[g]? = some (.cells (splice cur off cs).toArray 25 (0, 0))) ∧ Hid (Frm (fun k => k = g) w w') :=
  ⟨_, run_copy_rowN (P := Try.prog) w 22 22 3 25 2 g off dLen dCap ad sLen sCap cur.toArray 25 cs Try.underlying22 Try.size25 hg m hm hn hsrc (by simpa using hfit) h1,
    (show _ = _ by simpa [splice] using setRow_heap w g _ _ 25 _ hg), (show Frm _ _ _ from frm_setRow w g _ rfl)⟩
/-- the row behind the two copies. -/
theorem two_splices (cur xs ds : List Value) (p n c : Nat) (hc : cur.length = c * 2) (hx : cur.take (n * 2) = xs) (hxl : xs.length = n * 2) (hd : ds.length = 2) (hp : p < n) (hn : n + 1 ≤ c) :
    (splice (splice cur ((p + 1) * 2) (xs.drop (p * 2))) (p * 2) ds).take ((n + 1) * 2) = xs.take (p * 2) ++ (ds ++ xs.drop (p * 2)) ∧ (splice (splice cur ((p + 1) * 2) (xs.drop (p * 2))) (p * 2) ds).length = c * 2 := by
  have l1 : (splice cur ((p + 1) * 2) (xs.drop (p * 2))).length = c * 2 := by
    rw [length_splice _ _ _ (by simp; omega), hc]
  have l2 : (splice (splice cur ((p + 1) * 2) (xs.drop (p * 2))) (p * 2) ds).length = c * 2 := by
    rw [length_splice _ _ _ (by omega), l1]
  refine ⟨?_, l2⟩
  have e1 : (splice cur ((p + 1) * 2) (xs.drop (p * 2))).take (p * 2) = xs.take (p * 2) := by
    unfold splice
    rw [List.take_append_of_le_length (by simp; omega), List.take_take, ← hx, List.take_take]
    congr 1; omega
  have e2 : (splice cur ((p + 1) * 2) (xs.drop (p * 2))).drop (p * 2 + ds.length) = xs.drop (p * 2) ++ cur.drop ((n + 1) * 2) := by
    unfold splice
    rw [hd, show p * 2 + 2 = (cur.take ((p + 1) * 2)).length by simp; omega, List.drop_left]
    congr 2
    simp; omega
  show ((splice cur ((p + 1) * 2) (xs.drop (p * 2))).take (p * 2) ++ (ds ++ (splice cur ((p + 1) * 2) (xs.drop (p * 2))).drop (p * 2 + ds.length))).take ((n + 1) * 2) = _
  rw [e1, e2, ← List.append_assoc, ← List.append_assoc, List.take_left' (by simp; omega)]
  simp
/-- append of zeros at a row without room. -/
theorem zeros_ex (w : World) (b p n : Nat) (ys : List Value) (hy : ys.length = p * 2) (hc : ∀ j u, ys[j]? = some u → w.cell? ((⟨b, 0, none⟩ : Addr).add j) = some u) (hp : p < n) (hb : n ≤ 1000000) :
    ∃ w1 G row, (∀ ty, (Builtin.append_ #[22, 3] ty #[.slice (some ⟨b, 0, none⟩) p n, .int .i64 ((n : Int) + 1 - (p : Int))]).run Try.prog w = .ok (.slice (some ⟨w.heap.size, 0, none⟩) (n + 1) G) w1) ∧
      Hid (w1.heap[w.heap.size]? = some (.cells (row : List Value).toArray 25 (0, 0))) ∧ Hid (row.length = G * 2) ∧ Hid (row.take (p * 2) = ys) ∧ n + 1 ≤ G ∧ G ≤ 9223372036854775807 ∧ Hid (Grw w w1) := by
  obtain ⟨i0, hi, hz0, hz1, hz2⟩ := info_parts Try.info25
  have hk : (n : Int) + 1 - (p : Int) = ((n + 1 - p : Nat) : Int) := by omega
  have hs : p + (n + 1 - p) = n + 1 := by omega
  have hge := grownCap_ge w (n + 1) n 25
  have hle := grownCap_le_maxLen w (n + 1) n 25 (by unfold maxLen; omega)
  refine ⟨w.drew.alloc (.cells (ys.toArray ++ Builtin.zeroCells (Value.agg #[.int .i64 0, .int .u64 0]).cells (n + 1 - p) ++ Builtin.zeroCells (Value.agg #[.int .i64 0, .int .u64 0]).cells (grownCap w (n + 1) n 25 - (n + 1))) 25), grownCap w (n + 1) n 25,
    (ys.toArray ++ Builtin.zeroCells (Value.agg #[.int .i64 0, .int .u64 0]).cells (n + 1 - p) ++ Builtin.zeroCells (Value.agg #[.int .i64 0, .int .u64 0]).cells (grownCap w (n + 1) n 25 - (n + 1))).toList, fun ty => ?_, ?_, ?_, ?_, hge, by unfold maxLen at hle; omega, ((Grw.rfl' w).drew).alloc _⟩
  · have h := run_append_zeros (P := Try.prog) w 22 3 ty 25 i0 _ 2 16 .i64 .i64 Try.underlying22 Try.underlying3 hi hz0 hz1 hz2 ⟨b, 0, none⟩ p n ys hy hc (n + 1 - p) (by omega) (by omega) (by omega) (by omega) (by omega)
    rw [hs] at h
    rw [hk]
    exact h
  · show _ = _
    rw [Array.toArray_toList]
    exact heap_alloc_new w.drew _
  · show _ = _
    simp only [Array.length_toList, Array.size_append, size_zeroCells, List.size_toArray, hy]
    simp [Value.cells]
    omega
  · show _ = _
    rw [Array.toList_append, Array.toList_append, List.append_assoc, ← hy]
    exact List.take_left
theorem two_splices' (row ys ds x2 : List Value) (p n G : Nat) (hr : row.length = G * 2) (hy : row.take (p * 2) = ys) (hd : ds.length = 2) (hx : x2.length = (n - p) * 2) (hp : p < n) (hn : n + 1 ≤ G) :
    (splice (splice row (p * 2) ds) ((p + 1) * 2) x2).take ((n + 1) * 2) = ys ++ (ds ++ x2) ∧ (splice (splice row (p * 2) ds) ((p + 1) * 2) x2).length = G * 2 ∧ (splice row (p * 2) ds).length = G * 2 := by
  have l1 : (splice row (p * 2) ds).length = G * 2 := by rw [length_splice _ _ _ (by omega), hr]
  have l2 : (splice (splice row (p * 2) ds) ((p + 1) * 2) x2).length = G * 2 := by rw [length_splice _ _ _ (by omega), l1]
  refine ⟨?_, l2, l1⟩
  have e1 : (splice row (p * 2) ds).take ((p + 1) * 2) = ys ++ ds := by
    unfold splice
    rw [hy, ← List.append_assoc]
    have hyl : ys.length = p * 2 := by rw [← hy, List.length_take]; omega
    exact List.take_left' (by rw [List.length_append]; omega)
  show ((splice row (p * 2) ds).take ((p + 1) * 2) ++ (x2 ++ (splice row (p * 2) ds).drop ((p + 1) * 2 + x2.length))).take ((n + 1) * 2) = _
  have hyl : ys.length = p * 2 := by rw [← hy, List.length_take]; omega
  rw [e1, ← List.append_assoc (ys ++ ds) x2, List.take_left' (by simp only [List.length_append]; omega), List.append_assoc]
theorem clone_nil (w : World) : Calls Try.prog 28 #[.slice none 0 0] w fun e w' => e = .returned (.slice none 0 0) ∧ w = w' := by
  have q42 : ∀ (w : World) (a : Option Addr) (n c n' c' : Nat), (binOp .eql 22 (.slice a n c) (.slice none n' c')).run Try.prog w = .ok (.bool a.isNone) w := fun w a n c n' c' => Lib.run_eql_slice_nil w _ _ a n c n' c' Try.underlying22
  go_enter Try.func28, Try.ntmps28
  go_wp2_with fail
  go_ret
  exact ⟨rfl, rfl⟩
def CloneQ (l : List Du) (w : World) (e : Ending) (w' : World) : Prop := ∃ v', e = .returned v' ∧ w'.ownsRow w.heap.size 25 2 v' l.length (cd l) ∧ Grw w w'
theorem empty_row (w : World) : (w.alloc (.cells #[] 25)).ownsRow w.heap.size 25 2 (.slice (some ⟨w.heap.size, 0, none⟩) 0 0) 0 [] :=
  World.ownsRow_lit w #[] 0 (Nat.le_refl _) (by unfold maxLen; omega) rfl
set_option maxHeartbeats 1000000 in
set_option maxRecDepth 100000 in
theorem clone_some (a : Addr) (cap : Nat) (l : List Du) (w : World) (hl : Lies w (some a) (cd l)) (hb : l.length ≤ 1000000) :
    Calls Try.prog 28 #[.slice (some a) l.length cap] w (CloneQ l w) := by
  obtain ⟨i0, hi, hz0, hz1, hz2⟩ := info_parts Try.info25
  have D1 := Lib.hid (cd_len l)
  have D2 := Lib.hid (cd_one l)
  have C : Hid (∀ j u, (cd l)[j]? = some u → (w.alloc (.cells #[] 25)).cell? (a.add j) = some u) := (fun j u hj => by
    rcases hl with h | ⟨b, off, e, _, hc⟩
    · rw [h] at hj; cases hj
    · injection e with e
      subst e
      rw [Addr.add_lit]
      exact ((Grw.rfl' w).alloc _).cell (hc j u hj) : ∀ j u, (cd l)[j]? = some u → (w.alloc (.cells #[] 25)).cell? (a.add j) = some u)
  have O := Lib.hid (empty_row w)
  obtain ⟨n, hn⟩ : ∃ n, l.length = n := ⟨_, rfl⟩
  obtain ⟨xs, hxs⟩ : ∃ xs, cd l = xs := ⟨_, rfl⟩
  have HN := Lib.hid (And.intro hn hxs)
  rw [hn] at D1 hb ⊢
  rw [hxs] at D1 D2 C
  clear hl hn hxs
  have q42 : ∀ (w : World) (a : Option Addr) (n c n' c' : Nat), (binOp .eql 22 (.slice a n c) (.slice none n' c')).run Try.prog w = .ok (.bool a.isNone) w := fun w a n c n' c' => Lib.run_eql_slice_nil w _ _ a n c n' c' Try.underlying22
  go_enter Try.func28, Try.ntmps28
  go_wp2_with (at_builtin; refine wpList_append_own _ rfl _ _ 22 rfl w.heap.size 25 i0 _ 2 16 Try.underlying22 hi hz0 hz1 hz2 rfl (by decide) _ _ _ rfl O.out a n cap xs rfl D1.out C.out D2.out (by unfold maxLen; omega) (by omega) (by simp) ?_)
  intro v' w2 hown' hgrow _
  have U := Lib.hid (And.intro hown' (Below.grown (B := w.heap.size) (a := w) ((Grw.rfl' w).alloc (.cells #[] 25)) hgrow (by rw [size_new]; omega) (fun k e => by injection e with e; rw [← e]; exact Nat.le_refl _)))
  clear hown' hgrow
  go_wp2_with fail
  go_ret
  refine ⟨_, rfl, ?_, U.out.2⟩
  rw [HN.out.1, HN.out.2]
  simpa using U.out.1
theorem clone_any (v : Value) (l : List Du) (w : World) (ho : w.ownsRow 0 25 2 v l.length (cd l)) (hb : l.length ≤ 1000000) : Calls Try.prog 28 #[v] w (CloneQ l w) := by
  rcases ho.2 with ⟨h1, h2⟩ | ⟨b, cap, cur, h1, _⟩
  · subst h1
    have hl : l = [] := List.eq_nil_of_length_eq_zero h2
    subst hl
    exact (clone_nil w).mono fun e w' ⟨he, hw⟩ => ⟨_, he, by subst hw; exact World.ownsRow_nil _ _ _ _, by subst hw; exact Grw.rfl' _⟩
  · subst h1
    obtain ⟨ao, cap', e, r⟩ := ownsRow_lies ho
    injection e with e1 _ e3
    subst e1
    exact clone_some _ _ l w r hb

theorem order_is (a b : Du) (r : Int) (h : ord a b = r) (w : World) :
    Calls Try.prog 22 #[dv a, dv b] w fun e w' => e = .returned (.int .i64 r) ∧ Grw w w' := by rw [← h]; exact order_any a b w
/-- the place of d: all ahead of it are less, none behind. -/
def Plc (d : Du) (l : List Du) (p : Nat) : Prop := p ≤ l.length ∧ (∀ j (h : j < l.length), j < p → RG.less l[j] d = true) ∧ (∀ j (h : j < l.length), p ≤ j → RG.less l[j] d = false)
def SearchQ (d : Du) (l : List Du) (w : World) (e : Ending) (w' : World) : Prop := ∃ p o, e = .returned (.tuple #[.int .i64 (p : Nat), .bool o]) ∧ Plc d l p ∧ Grw w w'
theorem srt_less {l : List Du} (hs : RG.Srt l) {d : Du} {j k : Nat} (hk : k < l.length) (hj : j ≤ k) (h : RG.less l[k] d = true) : RG.less (l[j]'(by omega)) d = true := by
  rcases (by omega : j < k ∨ j = k) with g | g
  · have h1 := List.pairwise_iff_getElem.1 hs j k (by omega) hk g
    rw [RG.le_iff] at h1
    rw [RG.less_iff] at h ⊢
    omega
  · subst g; exact h
theorem srt_not {l : List Du} (hs : RG.Srt l) {d : Du} {j k : Nat} (hk : k < l.length) (hj : j ≤ k) (h : RG.less (l[j]'(by omega)) d = false) : RG.less l[k] d = false := by
  rcases e : RG.less l[k] d with _ | _
  · rfl
  · rw [srt_less hs hk hj e] at h; cases h
set_option maxHeartbeats 2000000 in
set_option maxRecDepth 100000 in
theorem search_any (ao : Option Addr) (cap : Nat) (l : List Du) (d : Du) (w : World) (hr : Lies w ao (cd l)) (hs : RG.Srt l) (hb : l.length ≤ 1000000) :
    Calls Try.prog 21 #[.slice ao l.length cap, dv d, .func (.func 22) #[] #[]] w (SearchQ d l w) := by
  obtain ⟨di, dt⟩ := d
  have S := Lib.hid hs
  have LI := Lib.hid hr
  have EX : ∀ q, ∀ h : q < l.length, RG.less l[q] ⟨di, dt⟩ = decide (ord l[q] ⟨di, dt⟩ < 0) := fun q h => (ord_neg _ _).symm
  have E := Lib.hid EX
  obtain ⟨n, hn⟩ : ∃ n, l.length = n := ⟨_, rfl⟩
  rw [hn] at hb ⊢
  have N := Lib.hid hn
  clear hs hr EX hn
  unfold dv
  simp only
  go_enter Try.func21, Try.ntmps21
  go_wp2_with fail
  go_loopw [9, 10] (fun u v wr => ∃ i j : Nat, i ≤ j ∧ j ≤ n ∧ u = .int .i64 i ∧ v = .int .i64 j ∧ Grw (w.alloc (.cells #[.int .i64 di, .int .u64 dt] 25)) wr ∧
      (∀ q (h : q < l.length), q < i → RG.less l[q] ⟨di, dt⟩ = true) ∧ (∀ q (h : q < l.length), j ≤ q → RG.less l[q] ⟨di, dt⟩ = false)) (fun u v _ => (intOf v).toNat - (intOf u).toNat)
  case atStart => exact ⟨0, n, Nat.zero_le _, Nat.le_refl _, rfl, rfl, Grw.rfl' _, fun q _ h => by omega, fun q h1 h2 => by rw [N.out] at h1; omega⟩
  case round =>
    obtain ⟨i, j, hij, hjn, rfl, rfl, hg, hlo, hhi⟩ := hrel
    have LO := Lib.hid hlo
    have HI := Lib.hid hhi
    have G := Lib.hid hg
    have K := Kp.grown hg
    have k0 := gw_cell K.t.c0
    have k1 := gw_cell K.t.c1
    clear hlo hhi hg K
    by_cases hlt : i < j
    · have hlti : (i : Int) < (j : Int) := by omega
      obtain ⟨h, hh⟩ : ∃ h, (i + j) / 2 = h := ⟨_, rfl⟩
      have hh1 : ((i : Int) + (j : Int)) / 2 = (h : Int) := by omega
      have hhn : h < n := by omega
      have hhi : i ≤ h := by omega
      have hhj : h < j := by omega
      have hhl : h < l.length := by rw [N.out]; exact hhn
      obtain ⟨b, off, rfl, c0, c1⟩ := lies_at ((LI.out.later ((Grw.rfl' _).alloc _)).later G.out) hhl
      have m0 := gw_cell c0
      have m1 := gw_cell c1
      obtain ⟨x, hx⟩ : ∃ x, l[h] = x := ⟨_, rfl⟩
      obtain ⟨r, hr⟩ : ∃ r, ord x ⟨di, dt⟩ = r := ⟨_, rfl⟩
      have hL := E.out h hhl
      rw [hx, hr] at hL
      rw [hx] at m0 m1
      have C := Lib.hid (fun w => order_is x ⟨di, dt⟩ r hr w)
      obtain ⟨xi, xt⟩ := x
      unfold dv at C
      simp only at C m0 m1
      have HL := Lib.hid (And.intro hx hL)
      have HH := Lib.hid hh
      clear c0 c1 hx hr hL hh
      by_cases hneg : r < 0
      · have hd : decide (r < 0) = true := by simp [hneg]
        go_wp2_with fail
        refine wp_region_grown (by kernel_rfl) (by kernel_rfl) ?_
        repeat (go_big_quiet_step (first | (go_at_call 22; exact calls_grown (C.out _))))
        refine wpQuiet_nil ?_
        rintro _ ⟨q', rfl⟩
        have GQ := Lib.hid (G.out.trans q'.h)
        clear k0 k1 m0 m1
        go_wp2_with fail
        go_roundw
        case rel => exact ⟨h + 1, j, by omega, by omega, by go_num, rfl, GQ.out, fun q h1 h2 => srt_less S.out hhl (by omega : q ≤ h) (by rw [HL.out.1, HL.out.2]; exact hd), HI.out⟩
        case measure => simp [intOf]; omega
      · have hd : decide (r < 0) = false := by simp; omega
        go_wp2_with fail
        refine wp_region_grown (by kernel_rfl) (by kernel_rfl) ?_
        repeat (go_big_quiet_step (first | (go_at_call 22; exact calls_grown (C.out _))))
        refine wpQuiet_nil ?_
        rintro _ ⟨q', rfl⟩
        have GQ := Lib.hid (G.out.trans q'.h)
        clear k0 k1 m0 m1
        go_wp2_with fail
        go_roundw
        case rel => exact ⟨i, h, by omega, by omega, rfl, rfl, GQ.out, LO.out, fun q h1 h2 => srt_not S.out h1 h2 (by rw [HL.out.1, HL.out.2]; exact hd)⟩
        case measure => simp [intOf]; omega
    · have hlti : ¬ (i : Int) < (j : Int) := by omega
      obtain rfl : i = j := by omega
      by_cases hin : i < n
      · have hini : decide ((i : Int) < (n : Int)) = true := by simp; omega
        have hil : i < l.length := by rw [N.out]; exact hin
        obtain ⟨b, off, rfl, c0, c1⟩ := lies_at ((LI.out.later ((Grw.rfl' _).alloc _)).later G.out) hil
        have m0 := gw_cell c0
        have m1 := gw_cell c1
        obtain ⟨x, hx⟩ : ∃ x, l[i] = x := ⟨_, rfl⟩
        obtain ⟨r, hr⟩ : ∃ r, ord x ⟨di, dt⟩ = r := ⟨_, rfl⟩
        rw [hx] at m0 m1
        have C := Lib.hid (fun w => order_is x ⟨di, dt⟩ r hr w)
        obtain ⟨xi, xt⟩ := x
        unfold dv at C
        simp only at C m0 m1
        clear c0 c1 hx hr
        go_wp2_with fail
        refine wp_region_grown (by kernel_rfl) (by kernel_rfl) ?_
        repeat (go_big_quiet_step (first | (go_at_call 22; exact calls_grown (C.out _))))
        refine wpQuiet_nil ?_
        rintro _ ⟨q', rfl⟩
        have GQ := Lib.hid (G.out.trans q'.h)
        clear k0 k1 m0 m1
        go_wp2_with fail
        refine bodyPost_ret (v := .tuple #[.int .i64 i, .bool (r == 0)]) (by simp [results, Try.results21, go_sem]) rfl ?_
        exact ⟨i, _, rfl, ⟨by rw [N.out]; exact hjn, LO.out, HI.out⟩, GQ.out.two⟩
      · have hini : decide ((i : Int) < (n : Int)) = false := by simp; omega
        go_wp2_with fail
        refine wp_region_grown (by kernel_rfl) (by kernel_rfl) ?_
        repeat (go_big_quiet_step (fail))
        refine wpQuiet_nil ?_
        rintro _ ⟨q', rfl⟩
        have GQ := Lib.hid (G.out.trans q'.h)
        clear k0 k1
        go_wp2_with fail
        refine bodyPost_ret (v := .tuple #[.int .i64 i, .bool false]) (by simp [results, Try.results21, go_sem]) rfl ?_
        exact ⟨i, _, rfl, ⟨by rw [N.out]; exact hjn, LO.out, HI.out⟩, GQ.out.two⟩
theorem plc_sort {d : Du} {l : List Du} {p : Nat} (hs : RG.Srt l) (h : Plc d l p) : l.take p ++ d :: l.drop p = RG.put d l := by
  refine RG.srt_unique ?_ (RG.put_srt hs) ?_
  · unfold RG.Srt at *
    have h' := hs
    rw [← List.take_append_drop p l, List.pairwise_append] at h'
    rw [List.pairwise_append, List.pairwise_cons]
    refine ⟨h'.1, ⟨fun x hx => ?_, h'.2.1⟩, fun x hx y hy => ?_⟩
    · obtain ⟨j, hj, rfl⟩ := List.mem_drop_iff_getElem.1 hx
      exact h.2.2 (p + j) (by omega) (by omega)
    · obtain ⟨j, hj, rfl⟩ := List.mem_take_iff_getElem.1 hx
      rcases List.mem_cons.1 hy with rfl | hy
      · exact RG.le_of_less (h.2.1 j (by omega) (by omega))
      · exact h'.2.2 _ hx y hy
  · refine List.Perm.trans ?_ (RG.put_perm d l).symm
    refine List.perm_middle.trans ?_
    rw [List.take_append_drop]
end Go.Proofs.Ytjkhgpdhhnfmlaa
