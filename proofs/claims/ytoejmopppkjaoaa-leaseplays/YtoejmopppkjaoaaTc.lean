/- slices.SortFunc off the shelf at rows of leases: by number, by end and number. -/
import Derived.Test.YtoejmopppkjaoaaShelf
import Derived.Test.YtoejmopppkjaoaaTb
import Derived.Test.YtoejmopppkjaoaaRw
import Derived.Shelf.SlSortCmp.NoneTotal
import Derived.Deep.RegionHeld3
namespace Go.Proofs.Ytoejmopppkjaoaa
open Go.RowKit Go.Shelf Go.Sort
set_option linter.unusedSimpArgs false

/-- compare. -/
def cmp (a b : Int) : Int := if a < b then -1 else if b < a then 1 else 0
theorem cmpu_any (a b : Nat) (w : World) : Calls Try.prog 33 #[.int .u64 a, .int .u64 b] w fun e w' => e = .returned (.int .i64 (cmp a b)) ∧ w = w' := by
  obtain ⟨r, hr⟩ : ∃ r, cmp a b = r := ⟨_, rfl⟩
  rw [hr]
  unfold cmp at hr
  by_cases h1 : (a : Int) < (b : Int)
  · have HR : Hid (r = -1) := (by rw [← hr]; simp [h1] : r = -1)
    clear hr
    go_enter Try.func33, Try.ntmps33
    go_wp2
    go_ret
    exact ⟨by rw [HR.out]; rfl, rfl⟩
  · by_cases h2 : (b : Int) < (a : Int)
    · have HR : Hid (r = 1) := (by rw [← hr]; simp [h1, h2] : r = 1)
      clear hr
      go_enter Try.func33, Try.ntmps33
      go_wp2
      go_ret
      exact ⟨by rw [HR.out]; rfl, rfl⟩
    · have HR : Hid (r = 0) := (by rw [← hr]; simp [h1, h2] : r = 0)
      clear hr
      go_enter Try.func33, Try.ntmps33
      go_wp2
      go_ret
      exact ⟨by rw [HR.out]; rfl, rfl⟩
theorem cmpi_any (a b : Int) (w : World) : Calls Try.prog 36 #[.int .i64 a, .int .i64 b] w fun e w' => e = .returned (.int .i64 (cmp a b)) ∧ w = w' := by
  obtain ⟨r, hr⟩ : ∃ r, cmp a b = r := ⟨_, rfl⟩
  rw [hr]
  unfold cmp at hr
  by_cases h1 : a < b
  · have HR : Hid (r = -1) := (by rw [← hr]; simp [h1] : r = -1)
    clear hr
    go_enter Try.func36, Try.ntmps36
    go_wp2
    go_ret
    exact ⟨by rw [HR.out]; rfl, rfl⟩
  · by_cases h2 : b < a
    · have HR : Hid (r = 1) := (by rw [← hr]; simp [h1, h2] : r = 1)
      clear hr
      go_enter Try.func36, Try.ntmps36
      go_wp2
      go_ret
      exact ⟨by rw [HR.out]; rfl, rfl⟩
    · have HR : Hid (r = 0) := (by rw [← hr]; simp [h1, h2] : r = 0)
      clear hr
      go_enter Try.func36, Try.ntmps36
      go_wp2
      go_ret
      exact ⟨by rw [HR.out]; rfl, rfl⟩
/-- the first that is not zero. -/
def or2 (x y : Int) : Int := if x = 0 then y else x
theorem or_any (x y : Int) (g : Nat) (w : World) (c0 : w.cell? ⟨g, 0, none⟩ = some (.int .i64 x)) (c1 : w.cell? ⟨g, 1, none⟩ = some (.int .i64 y)) :
    Calls Try.prog 32 #[.slice (some ⟨g, 0, none⟩) 2 2] w fun e w' => e = .returned (.int .i64 (or2 x y)) ∧ w = w' := by
  obtain ⟨r, hr⟩ : ∃ r, or2 x y = r := ⟨_, rfl⟩
  rw [hr]
  unfold or2 at hr
  by_cases h1 : x = 0
  · rw [if_pos h1] at hr
    subst h1
    by_cases h2 : y = 0
    · subst h2
      subst hr
      go_enter Try.func32, Try.ntmps32
      go_wp2_with fail
      refine wp_loop_rounds 3 ?_
      rw [rounds_succ]
      go_wp2_with fail
      rw [rounds_succ]
      go_wp2_with fail
      rw [rounds_succ]
      go_wp2_with fail
      go_ret
      exact ⟨rfl, rfl⟩
    · have h3 : (y != 0) = true := by simp [h2]
      have HR := Lib.hid hr
      clear hr h2
      go_enter Try.func32, Try.ntmps32
      go_wp2_with fail
      refine wp_loop_rounds 2 ?_
      rw [rounds_succ]
      go_wp2_with fail
      rw [rounds_succ]
      go_wp2_with fail
      go_ret
      exact ⟨by rw [← HR.out]; rfl, rfl⟩
  · rw [if_neg h1] at hr
    have h3 : (x != 0) = true := by simp [h1]
    have HR := Lib.hid hr
    clear hr h1
    go_enter Try.func32, Try.ntmps32
    go_wp2_with fail
    refine wp_loop_rounds 1 ?_
    rw [rounds_succ]
    go_wp2_with fail
    go_ret
    exact ⟨by rw [← HR.out]; rfl, rfl⟩
theorem cmpu_is (a b : Nat) (c : Int) (h : cmp a b = c) (w : World) : Calls Try.prog 33 #[.int .u64 a, .int .u64 b] w fun e w' => e = .returned (.int .i64 c) ∧ w = w' := by rw [← h]; exact cmpu_any a b w
theorem cmpi_is (a b : Int) (c : Int) (h : cmp a b = c) (w : World) : Calls Try.prog 36 #[.int .i64 a, .int .i64 b] w fun e w' => e = .returned (.int .i64 c) ∧ w = w' := by rw [← h]; exact cmpi_any a b w
theorem or_is (x y z : Int) (h : or2 x y = z) (g : Nat) (w : World) (c0 : w.cell? ⟨g, 0, none⟩ = some (.int .i64 x)) (c1 : w.cell? ⟨g, 1, none⟩ = some (.int .i64 y)) :
    Calls Try.prog 32 #[.slice (some ⟨g, 0, none⟩) 2 2] w fun e w' => e = .returned (.int .i64 z) ∧ w = w' := by rw [← h]; exact or_any x y g w c0 c1

theorem lay5 (w : World) (a b c d e : Obj) : (((((w.alloc a).alloc b).alloc c).alloc d).alloc e).drew = grow (w.drewN 1) #[a, b, c, d, e] := by
  change ((((w.drew.alloc a).alloc b).alloc c).alloc d).alloc e = _
  rw [alloc_eq_grow, alloc_eq_grow, alloc_eq_grow, alloc_eq_grow, alloc_eq_grow, grow_grow, grow_grow, grow_grow, grow_grow]
  rfl
theorem lay2 (w : World) (a b : Obj) : (w.alloc a).alloc b = grow (w.drewN 0) #[a, b] := by
  rw [alloc_eq_grow, alloc_eq_grow, grow_grow]
  rfl
def cells3 (g : Gr) : Obj := .cells #[.int .i64 g.n, .int .i64 g.j, .int .u64 (g.u : Nat)] 39
set_option maxHeartbeats 1000000 in
set_option maxRecDepth 100000 in
theorem byN_lay (a b : Gr) (w : World) :
    Calls Try.prog 29 #[gv a, gv b] w fun e w' => e = .returned (.int .i64 (cmp a.n b.n)) ∧ w' = (w.alloc (cells3 a)).alloc (cells3 b) := by
  obtain ⟨r, hr⟩ : ∃ r, cmp a.n b.n = r := ⟨_, rfl⟩
  rw [hr]
  unfold gv cells3
  obtain ⟨an, aj, au⟩ := a
  obtain ⟨bn, bj, bu⟩ := b
  simp only at hr ⊢
  have C := Lib.hid (fun w => cmpi_is an bn r hr w)
  clear hr
  go_enter Try.func29, Try.ntmps29
  go_wp2_with fail
  refine (C.out _).mono ?_
  rintro _ w1 ⟨rfl, rfl⟩
  go_wp2_with fail
  go_ret
  exact ⟨rfl, rfl⟩
/-- by end, then number. -/
def ordU (a b : Gr) : Int := or2 (cmp a.u b.u) (cmp a.n b.n)
def ordN (a b : Gr) : Int := cmp a.n b.n
set_option maxHeartbeats 2000000 in
set_option maxRecDepth 100000 in
theorem byU_lay (a b : Gr) (w : World) :
    Calls Try.prog 26 #[gv a, gv b] w fun e w' => e = .returned (.int .i64 (ordU a b)) ∧ ∃ q os', w' = grow (w.drewN q) os' := by
  obtain ⟨r, hr⟩ : ∃ r, ordU a b = r := ⟨_, rfl⟩
  rw [hr]
  unfold ordU at hr
  obtain ⟨an, aj, au⟩ := a
  obtain ⟨bn, bj, bu⟩ := b
  obtain ⟨x, hx⟩ : ∃ x, cmp au bu = x := ⟨_, rfl⟩
  obtain ⟨y, hy⟩ : ∃ y, cmp an bn = y := ⟨_, rfl⟩
  simp only at hr
  rw [hx, hy] at hr
  have C1 := Lib.hid (fun w => cmpu_is au bu x hx w)
  have C2 : Hid (∀ w, Calls Try.prog 29 #[.agg #[.int .i64 an, .int .i64 aj, .int .u64 (au : Nat)], .agg #[.int .i64 bn, .int .i64 bj, .int .u64 (bu : Nat)]] w fun e w' => e = .returned (.int .i64 y) ∧ w' = (w.alloc (.cells #[.int .i64 an, .int .i64 aj, .int .u64 (au : Nat)] 39)).alloc (.cells #[.int .i64 bn, .int .i64 bj, .int .u64 (bu : Nat)] 39)) :=
    (fun w => by have := byN_lay ⟨an, aj, au⟩ ⟨bn, bj, bu⟩ w; rw [← hy]; exact this : ∀ w, Calls Try.prog 29 #[.agg #[.int .i64 an, .int .i64 aj, .int .u64 (au : Nat)], .agg #[.int .i64 bn, .int .i64 bj, .int .u64 (bu : Nat)]] w fun e w' => e = .returned (.int .i64 y) ∧ w' = (w.alloc (.cells #[.int .i64 an, .int .i64 aj, .int .u64 (au : Nat)] 39)).alloc (.cells #[.int .i64 bn, .int .i64 bj, .int .u64 (bu : Nat)] 39))
  have C3 := Lib.hid (fun g w => or_is x y r hr g w)
  clear hx hy hr
  have SS : Hid (∀ u, Grw ((w.alloc (.cells #[.int .i64 an, .int .i64 aj, .int .u64 (au : Nat)] 39)).alloc (.cells #[.int .i64 bn, .int .i64 bj, .int .u64 (bu : Nat)] 39)) u → (u.cell? ⟨w.heap.size, 0, none⟩ = some (.int .i64 an) ∧ u.cell? ⟨w.heap.size, 1, none⟩ = some (.int .i64 aj) ∧ u.cell? ⟨w.heap.size, 2, none⟩ = some (.int .u64 (au : Nat)) ∧ u.cell? ⟨w.heap.size + 1, 0, none⟩ = some (.int .i64 bn) ∧ u.cell? ⟨w.heap.size + 1, 1, none⟩ = some (.int .i64 bj) ∧ u.cell? ⟨w.heap.size + 1, 2, none⟩ = some (.int .u64 (bu : Nat)))) :=
    (fun u g => ⟨g.cell (by simp [go_sem]), g.cell (by simp [go_sem]), g.cell (by simp [go_sem]), g.cell (by simp [go_sem]), g.cell (by simp [go_sem]), g.cell (by simp [go_sem])⟩ : ∀ u, Grw ((w.alloc (.cells #[.int .i64 an, .int .i64 aj, .int .u64 (au : Nat)] 39)).alloc (.cells #[.int .i64 bn, .int .i64 bj, .int .u64 (bu : Nat)] 39)) u → (u.cell? ⟨w.heap.size, 0, none⟩ = some (.int .i64 an) ∧ u.cell? ⟨w.heap.size, 1, none⟩ = some (.int .i64 aj) ∧ u.cell? ⟨w.heap.size, 2, none⟩ = some (.int .u64 (au : Nat)) ∧ u.cell? ⟨w.heap.size + 1, 0, none⟩ = some (.int .i64 bn) ∧ u.cell? ⟨w.heap.size + 1, 1, none⟩ = some (.int .i64 bj) ∧ u.cell? ⟨w.heap.size + 1, 2, none⟩ = some (.int .u64 (bu : Nat))))
  unfold gv
  simp only
  go_enter Try.func26, Try.ntmps26
  go_wp2_with fail
  go_region_held3 (fun u => u.cell? ⟨w.heap.size, 0, none⟩ = some (.int .i64 an) ∧ u.cell? ⟨w.heap.size, 1, none⟩ = some (.int .i64 aj) ∧ u.cell? ⟨w.heap.size, 2, none⟩ = some (.int .u64 (au : Nat)) ∧ u.cell? ⟨w.heap.size + 1, 0, none⟩ = some (.int .i64 bn) ∧ u.cell? ⟨w.heap.size + 1, 1, none⟩ = some (.int .i64 bj) ∧ u.cell? ⟨w.heap.size + 1, 2, none⟩ = some (.int .u64 (bu : Nat)))
    ((refine SS.out _ ?_; repeat (first | with_reducible exact Grw.rfl' _ | with_reducible refine Grw.drew ?_ | with_reducible refine Grw.alloc ?_ _)))
    (first | (go_at_call 33; refine (C1.out _).mono ?_; rintro _ w1 ⟨rfl, rfl⟩) | (go_at_call 29; refine (C2.out _).mono ?_; rintro _ w1 ⟨rfl, rfl⟩) | (go_at_call 32; refine (C3.out _ _ (by simp [go_sem]) (by simp [go_sem])).mono ?_; rintro _ w1 ⟨rfl, rfl⟩))
  all_goals (go_wp2_with fail)
  all_goals go_ret
  all_goals exact ⟨rfl, 1, _, lay5 w _ _ _ _ _⟩
theorem cmp_neg (a b : Int) : cmp a b < 0 ↔ a < b := by
  unfold cmp; by_cases h : a < b
  · rw [if_pos h]; omega
  · rw [if_neg h]; by_cases g : b < a
    · rw [if_pos g]; omega
    · rw [if_neg g]; omega
theorem cmp_zero (a b : Int) : cmp a b = 0 ↔ a = b := by
  unfold cmp; by_cases h : a < b
  · rw [if_pos h]; omega
  · rw [if_neg h]; by_cases g : b < a
    · rw [if_pos g]; omega
    · rw [if_neg g]; omega
theorem ordU_neg (a b : Gr) : decide (ordU a b < 0) = decide (lt a b) := by
  rw [decide_eq_decide]
  unfold ordU or2 lt
  by_cases h : cmp a.u b.u = 0
  · rw [if_pos h, cmp_neg]
    rw [cmp_zero] at h
    omega
  · rw [if_neg h, cmp_neg]
    rw [cmp_zero] at h
    omega
theorem ordN_neg (a b : Gr) : decide (ordN a b < 0) = decide (a.n < b.n) := by
  rw [decide_eq_decide]; exact cmp_neg _ _
def encG (g : Gr) : List Value := [.int .i64 g.n, .int .i64 g.j, .int .u64 (g.u : Nat)]
theorem layU (blk off size : Nat) (w : World) : CmpLays Try.prog 26 #[] encG 3 ordU blk off size w := fun _ _ _ _ x y => byU_lay x y _
theorem layN (blk off size : Nat) (w : World) : CmpLays Try.prog 29 #[] encG 3 ordN blk off size w := fun _ _ _ _ x y => (byN_lay x y _).mono fun _ _ ⟨he, hw⟩ => ⟨he, 0, _, hw.trans (lay2 _ _ _)⟩
theorem ltU (x y : Gr) : ltOf ordU x y = decide (lt x y) := ordU_neg x y
theorem ltN (x y : Gr) : ltOf ordN x y = decide (x.n < y.n) := ordN_neg x y
theorem swoU : SWO (ltOf ordU) where
  irrefl x := by rw [ltU]; exact decide_eq_false (lt_irrefl x)
  trans x y z h1 h2 := by rw [ltU, decide_eq_true_eq] at *; exact lt_trans h1 h2
  ntrans x y z h1 h2 := by rw [ltU, decide_eq_false_iff_not] at *; unfold lt at *; omega
theorem swoN : SWO (ltOf ordN) where
  irrefl x := by rw [ltN]; exact decide_eq_false (by omega)
  trans x y z h1 h2 := by rw [ltN, decide_eq_true_eq] at *; omega
  ntrans x y z h1 h2 := by rw [ltN, decide_eq_false_iff_not] at *; omega
theorem enc_len (x : Gr) : (encG x).length = 3 := rfl
theorem enc_one (x : Gr) : ∀ v ∈ encG x, v.oneCell' = true := by
  intro v hv
  simp [encG] at hv
  rcases hv with rfl | rfl | rfl <;> rfl
theorem g3 (l : List Gr) (g off : Nat) (W : World) (h : ∀ j u, (cg l)[j]? = some u → W.cell? ⟨g, off + j, none⟩ = some u) (k i : Nat) (hk : k < l.length) (hi : i < 3) : W.cell? ⟨g, off + (k * 3 + i), none⟩ = some (encG l[k])[i]! := by
  rcases (by omega : i = 0 ∨ i = 1 ∨ i = 2) with rfl | rfl | rfl
  · exact h _ _ (cg_id l k hk)
  · exact h _ _ (cg_cl l k hk)
  · exact h _ _ (cg_ca l k hk)
/-- a row of one's own, as the shelf wants it. -/
theorem holds_row {w : World} {B g n cap : Nat} {l : List Gr} (h : w.ownsRow B 39 3 (.slice (some ⟨g, 0, none⟩) n cap) n (cg l)) (hn : l.length = n) : HoldsK encG 3 w g 0 l.toArray := by
  intro j hj
  rw [size_flatK] at hj
  refine ⟨?_, World.ownsRow.frozenAt h _⟩
  have hj' : j < l.length * 3 := by simpa using hj
  rw [get_flatK encG 3 l.toArray j hj]
  have hk : j / 3 < l.length := by omega
  have e : l.toArray[j / 3]! = l[j / 3] := by simp [getElem!_pos, hk]
  rw [e]
  have hc := World.ownsRow.cells h (g := g) rfl
  have := g3 l g 0 w (fun j u hj => by have := hc j u hj; rwa [Addr.add_lit] at this) (j / 3) (j % 3) hk (Nat.mod_lt _ (by decide))
  rw [show j / 3 * 3 + j % 3 = j by omega] at this
  exact this
theorem lies_holds {w : World} {g : Nat} {d : Array Gr} (h : HoldsK encG 3 w g 0 d) (hg : g < w.heap.size) : Lies w (some ⟨g, 0, none⟩) (cg d.toList) := by
  refine Or.inr ⟨g, 0, rfl, hg, fun j u hj => ?_⟩
  obtain ⟨k, hk, hor⟩ := cg_cases hj
  have hk' : k < d.size := by simpa using hk
  have e : d[k]! = d.toList[k] := by simp [getElem!_pos, hk']
  rcases hor with ⟨rfl, rfl⟩ | ⟨rfl, rfl⟩ | ⟨rfl, rfl⟩
  · have := (HoldsK.cell h hk' (by omega : 0 < 3)).1
    rw [e] at this
    simpa [encG] using this
  · have := (HoldsK.cell h hk' (by omega : 1 < 3)).1
    rw [e] at this
    simpa [encG, Nat.add_assoc] using this
  · have := (HoldsK.cell h hk' (by omega : 2 < 3)).1
    rw [e] at this
    simpa [encG, Nat.add_assoc] using this
theorem frm_sort (w : World) (g n : Nat) (d : Array Gr) (os : Array Obj) : Frm (fun k => k = g) w (sortWorldK encG 3 w g 0 n d os) := by
  refine ⟨rfl, rfl, rfl, ?_, fun k hk hn => ?_⟩
  · simp [sortWorldK, putRowK, putRow, mapBlock, grow, ahead]
  · simp only [sortWorldK, putRowK, putRow, mapBlock, grow, ahead]
    rw [Array.getElem?_append_left (by simpa using hk), Array.getElem?_modify]
    rw [if_neg (fun c => hn c.symm)]
    rfl
/-- what the sort leaves: a permutation, none behind a greater one. -/
theorem sort_out (o : Gr → Gr → Int) {l : List Gr} {d : Array Gr} (hp : PermIn 0 l.toArray.size l.toArray d) (hs : SortedIn (ltOf o) 0 l.toArray.size d) : d.toList.Perm l ∧ d.toList.Pairwise (fun a b => ltOf o b a = false) := by
  obtain ⟨h1, _, h3⟩ := hp
  have e1 : d.extract 0 l.toArray.size = d := by rw [← h1]; simp
  have e2 : l.toArray.extract 0 l.toArray.size = l.toArray := by simp
  rw [e1, e2] at h3
  refine ⟨by simpa using h3, List.pairwise_iff_getElem.2 fun i j hi hj hij => ?_⟩
  have hi' : i < d.size := by simpa using hi
  have hj' : j < d.size := by simpa using hj
  have h := hs i j (Nat.zero_le _) hij (by rw [← h1]; exact hj')
  have a1 : d[j]! = d.toList[j] := by simp [getElem!_pos, hj']
  have a2 : d[i]! = d.toList[i] := by simp [getElem!_pos, hi']
  rw [a1, a2] at h
  exact h
theorem sort_nil (f : Nat) (w : World) : Calls Try.prog 25 #[.slice none 0 0, .func (.func f) #[] #[]] w fun e w' => e = .returned (.tuple #[]) ∧ w' = w :=
  AnyF.slices_SortFunc_none Try.sortGr none 0 (.func (.func f) #[] #[]) w
theorem sort_row (fn : Nat) (o : Gr → Gr → Int) (ho : SWO (ltOf o)) (hl : ∀ blk off size w, CmpLays Try.prog fn #[] encG 3 o blk off size w) (eg : ∀ args w, (callFunc fn args).run Try.prog w = .ok (.enter fn args) w)
    (B g cap : Nat) (l : List Gr) (n : Nat) (w : World) (h : w.ownsRow B 39 3 (.slice (some ⟨g, 0, none⟩) n cap) n (cg l)) (hn : l.length = n) (hb : l.length ≤ 1000000) :
    Calls Try.prog 25 #[.slice (some ⟨g, 0, none⟩) n cap, .func (.func fn) #[] #[]] w fun e w' => e = .returned (.tuple #[]) ∧ ∃ k, k.Perm l ∧ k.Pairwise (fun a b => ltOf o b a = false) ∧ Lies w' (some ⟨g, 0, none⟩) (cg k) ∧ Frm (fun q => q = g) w w' := by
  subst hn
  have hlt := World.ownsRow.lt h g rfl
  have hsz : l.toArray.size = l.length := by simp
  have hcon := AnyQ.slices_SortFunc Try.sortGr 3 Try.isAgg39 Try.sizeOf39 encG enc_len enc_one o ho fn #[] g 0 cap l.toArray w eg (hl g 0 _ w) (holds_row h rfl) hlt.2 (by rw [hsz]; omega)
  rw [hsz] at hcon
  change Calls Try.prog 25 _ _ _ at hcon
  refine hcon.mono ?_
  rintro e w' ⟨rfl, d', m, os, hp, hs, rfl⟩
  rw [← hsz] at hp hs
  have hH : HoldsK encG 3 (sortWorldK encG 3 w g 0 m d' os) g 0 d' := holdsK_sortWorldK_c encG 3 w g 0 l.toArray d' m os (holds_row h rfl) hlt.2 hp.1
  have hlt2 : g < (sortWorldK encG 3 w g 0 m d' os).heap.size := Nat.lt_of_lt_of_le hlt.2 (frm_sort w g m d' os).size
  exact ⟨rfl, d'.toList, (sort_out o hp hs).1, (sort_out o hp hs).2, lies_holds hH hlt2, frm_sort w g m d' os⟩
end Go.Proofs.Ytoejmopppkjaoaa
