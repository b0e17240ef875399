/- The contracts of plan.Split, plan.find, plan.cut, slices.IndexFunc, slices.IsSortedFunc, plan.distinct and plan.Good at this program, over rows of timers. -/
import Derived.Test.YtjkhgpdhhnfmlaaSa
import Derived.Test.YtjkhgpdhhnfmlaaPm
import Derived.Maps.OwnSet
namespace Go.Proofs.Ytjkhgpdhhnfmlaa
open Go.RowKit
open RG (Du)
open PM
set_option linter.unusedSimpArgs false

/-- a row that was made since the world w. -/
def NewD (w w' : World) (v : Value) (l : List Du) : Prop := w'.ownsRow w.heap.size 25 2 v l.length (cd l)
theorem NewD.row {w w' : World} {v : Value} {l : List Du} (h : NewD w w' v l) : RowD w' v l := ownsRow_lies h
theorem NewD.ge {w w' : World} {v : Value} {l : List Du} (h : NewD w w' v l) {k : Nat} (hk : v.ownBlock = some k) : w.heap.size ≤ k ∧ k < w'.heap.size := World.ownsRow.lt h k hk
theorem NewD.nil (w w' : World) : NewD w w' (.slice none 0 0) [] := World.ownsRow_nil _ _ _ _
/-- behind an append of one timer: w the world when the call began, x the world ahead of the append. -/
theorem one_due (w : World) (d : Du) : ∀ (j : Nat) (u : Value), (cd [d])[j]? = some u → (w.alloc (.cells #[.int .i64 d.id, .int .u64 (d.t : Nat)] 25)).cell? ((⟨w.heap.size, 0, none⟩ : Addr).add j) = some u :=
  blk_cells (xs := cd [d]) (t := 25) (heap_alloc_new w _)

/-- two rows that grow, each its own block. -/
structure Sp (w wr : World) (u v : Value) (a b : List Du) : Prop where
  o1 : wr.ownsRow 0 25 2 u a.length (cd a)
  o2 : wr.ownsRow 0 25 2 v b.length (cd b)
  n1 : ∀ k, u.ownBlock = some k → w.heap.size ≤ k
  n2 : ∀ k, v.ownBlock = some k → w.heap.size ≤ k
  ap : ∀ k, u.ownBlock = some k → v.ownBlock ≠ some k
  g : Grw w wr
theorem Sp.swap {w wr : World} {u v : Value} {a b : List Du} (h : Sp w wr u v a b) : Sp w wr v u b a :=
  ⟨h.o2, h.o1, h.n2, h.n1, fun k h1 h2 => h.ap k h2 h1, h.g⟩
theorem Sp.step {w x z y : World} {u v u' : Value} {a b : List Du} {d : Du} (h : Sp w x u v a b) (g : Grw x z) (h1 : y.ownsRow 0 25 2 u' (a.length + 1) (cd a ++ cd [d])) (h2 : z.grownBy y u.ownBlock)
    (h3 : u'.ownBlock = u.ownBlock ∨ u'.ownBlock = some z.heap.size) : Sp w y u' v (a ++ [d]) b := by
  have o2 := ownsRow_frm h.o2 (g.frm (fun _ => False)) (fun _ _ e => e)
  have f := grownBy_frm h2
  refine ⟨by rw [List.length_append, cd_app]; exact h1, ownsRow_frm o2 f (fun k hk c => h.ap k c hk), fun k hk => ?_, h.n2, fun k hk c => ?_, f.grw (h.g.trans g) h.n1⟩
  · rcases h3 with e | e
    · exact h.n1 k (e ▸ hk)
    · rw [e] at hk
      injection hk with hk
      have := Below.size (h.g.trans g)
      omega
  · rcases h3 with e | e
    · exact h.ap k (e ▸ hk) c
    · rw [e] at hk
      injection hk with hk
      have := (World.ownsRow.lt h.o2 k c).2
      have := Below.size g
      omega
theorem base_up {x : World} {B : Nat} {v : Value} {n : Nat} {xs : List Value} (h : x.ownsRow 0 25 2 v n xs) (hb : ∀ k, v.ownBlock = some k → B ≤ k) : x.ownsRow B 25 2 v n xs := by
  refine ⟨h.1, ?_⟩
  rcases h.2 with hn | ⟨b, cap, cur, rfl, _, r⟩
  · exact Or.inl hn
  · exact Or.inr ⟨b, cap, cur, rfl, hb b rfl, r⟩
def SplitQ (t : Nat) (l : List Du) (w : World) (e : Ending) (w' : World) : Prop := ∃ u v, e = .returned (.tuple #[u, v]) ∧ NewD w w' u (upto t l) ∧ NewD w w' v (past t l) ∧ Grw w w'
theorem upto_take (t : Nat) {l : List Du} {k : Nat} (h : k < l.length) : upto t (l.take (k + 1)) = if l[k].t ≤ t then upto t (l.take k) ++ [l[k]] else upto t (l.take k) := by
  rw [List.take_succ_eq_append_getElem h]; exact upto_snoc _ _ _
theorem past_take (t : Nat) {l : List Du} {k : Nat} (h : k < l.length) : past t (l.take (k + 1)) = if l[k].t ≤ t then past t (l.take k) else past t (l.take k) ++ [l[k]] := by
  rw [List.take_succ_eq_append_getElem h]; exact past_snoc _ _ _
set_option maxHeartbeats 2000000 in
set_option maxRecDepth 100000 in
theorem split_any (ao : Option Addr) (cap t : Nat) (l : List Du) (w : World) (hl : Lies w ao (cd l)) (hb : l.length ≤ 1000000) :
    Calls Try.prog 10 #[.slice ao l.length cap, .int .u64 t] w (SplitQ t l w) := by
  obtain ⟨i0, hi, hz0, hz1, hz2⟩ := info_parts Try.info25
  have LI := Lib.hid hl
  obtain ⟨n, hn⟩ : ∃ n, l.length = n := ⟨_, rfl⟩
  rw [hn] at hb ⊢
  have HN := Lib.hid hn
  clear hl hn
  go_enter Try.func10, Try.ntmps10
  go_wp2_with fail
  go_loopw [4, 5, 10] (fun u v i wr => ∃ k : Nat, k ≤ n ∧ i = .int .i64 k ∧ Sp w wr u v (upto t (l.take k)) (past t (l.take k))) (fun _ _ i _ => n - (intOf i).toNat)
  case atStart => exact ⟨0, Nat.zero_le _, rfl, World.ownsRow_nil _ _ _ _, World.ownsRow_nil _ _ _ _, (fun k h => by cases h), (fun k h => by cases h), (fun k h => by cases h), Grw.rfl' _⟩
  case round =>
    obtain ⟨k, hk, rfl, hsp⟩ := hrel
    have hsum := upto_len t (l.take k)
    rw [List.length_take] at hsum
    by_cases hk' : k < n
    · have hki : (k : Int) < (n : Int) := by omega
      have hkl : k < l.length := by rw [HN.out]; exact hk'
      have e1 := upto_take t hkl
      have e2 := past_take t hkl
      obtain ⟨b, off, rfl, c0, c1⟩ := lies_at (LI.out.later hsp.g) hkl
      obtain ⟨x, hx⟩ : ∃ x, l[k] = x := ⟨_, rfl⟩
      rw [hx] at c0 c1 e1 e2
      obtain ⟨xi, xt⟩ := x
      simp only at c0 c1 e1 e2
      obtain ⟨la, hla⟩ : ∃ la, upto t (l.take k) = la := ⟨_, rfl⟩
      obtain ⟨lb, hlb⟩ : ∃ lb, past t (l.take k) = lb := ⟨_, rfl⟩
      rw [hla, hlb] at hsum hsp
      rw [hla] at e1
      rw [hlb] at e2
      have S := Lib.hid hsp
      have D1 := Lib.hid (one_due (wr.alloc (.cells #[.int .i64 xi, .int .u64 (xt : Nat)] 25)) ⟨xi, xt⟩)
      have D2 := Lib.hid (cd_one [⟨xi, xt⟩])
      have G2 := Lib.hid (((Grw.rfl' wr).alloc (.cells #[.int .i64 xi, .int .u64 (xt : Nat)] 25)).alloc (.cells #[.int .i64 xi, .int .u64 (xt : Nat)] 25))
      by_cases hle : xt ≤ t
      · have hlei : (xt : Int) ≤ (t : Int) := by omega
        rw [if_pos hle] at e1 e2
        have E := Lib.hid (And.intro e1 e2)
        have O := Lib.hid (ownsRow_frm hsp.o1 (G2.out.frm (fun _ => False)) (fun _ _ e => e))
        obtain ⟨n1, hn1⟩ : ∃ n1, la.length = n1 := ⟨_, rfl⟩
        rw [hn1] at O hsum
        have HN1 := Lib.hid hn1
        clear hx hsp hla hlb e1 e2 hn1 hle
        go_wp2_with (at_builtin; refine wpList_append_mine _ rfl _ _ 22 rfl 25 i0 _ 2 16 Try.underlying22 hi hz0 hz1 hz2 rfl (by decide) _ _ _ rfl O.out ⟨wr.heap.size + 1, 0, none⟩ 1 1 (cd [⟨xi, xt⟩]) rfl rfl (by simpa using D1.out) D2.out (by unfold maxLen; omega) (by omega) ?_)
        intro v' w2 hown' hgrow hor
        have U := Lib.hid (S.out.step (d := ⟨xi, xt⟩) G2.out (by rw [HN1.out]; exact hown') hgrow (by rw [size_new, size_new]; exact hor))
        clear hown' hgrow hor
        go_wp2_with fail
        go_roundw
        case rel => exact ⟨k + 1, by omega, by go_num, by rw [E.out.1, E.out.2]; exact U.out⟩
        case measure => simp [intOf]; omega
      · have hlei : ¬ (xt : Int) ≤ (t : Int) := by omega
        rw [if_neg hle] at e1 e2
        have E := Lib.hid (And.intro e1 e2)
        have O := Lib.hid (ownsRow_frm hsp.o2 (G2.out.frm (fun _ => False)) (fun _ _ e => e))
        obtain ⟨n1, hn1⟩ : ∃ n1, lb.length = n1 := ⟨_, rfl⟩
        rw [hn1] at O hsum
        have HN1 := Lib.hid hn1
        clear hx hsp hla hlb e1 e2 hn1 hle
        go_wp2_with (at_builtin; refine wpList_append_mine _ rfl _ _ 22 rfl 25 i0 _ 2 16 Try.underlying22 hi hz0 hz1 hz2 rfl (by decide) _ _ _ rfl O.out ⟨wr.heap.size + 1, 0, none⟩ 1 1 (cd [⟨xi, xt⟩]) rfl rfl (by simpa using D1.out) D2.out (by unfold maxLen; omega) (by omega) ?_)
        intro v' w2 hown' hgrow hor
        have U := Lib.hid (S.out.swap.step (d := ⟨xi, xt⟩) G2.out (by rw [HN1.out]; exact hown') hgrow (by rw [size_new, size_new]; exact hor)).swap
        clear hown' hgrow hor
        go_wp2_with fail
        go_roundw
        case rel => exact ⟨k + 1, by omega, by go_num, by rw [E.out.1, E.out.2]; exact U.out⟩
        case measure => simp [intOf]; omega
    · have hki : ¬ (k : Int) < (n : Int) := by omega
      obtain rfl : n = k := by omega
      have e : l.take n = l := List.take_of_length_le (by rw [HN.out]; exact Nat.le_refl _)
      rw [e] at hsp
      have S := Lib.hid hsp
      clear hsp hsum e
      go_wp2_with fail
      go_ret2
      exact ⟨_, _, rfl, base_up S.out.o1 S.out.n1, base_up S.out.o2 S.out.n2, S.out.g⟩

/-! ### find -/
theorem pred_any (d : Du) (i : Int) (q : Nat) (w : World) (c : w.cell? ⟨q, 0, none⟩ = some (.int .i64 i)) :
    Calls Try.prog 31 #[dv d, .pointer (some ⟨q, 0, none⟩)] w fun e w' => e = .returned (.bool (decide (d.id = i))) ∧ Grw w w' := by
  obtain ⟨x, y⟩ := d
  have hc := cell_later ((Grw.rfl' w).alloc (.cells #[.int .i64 x, .int .u64 (y : Nat)] 25)) c
  unfold dv
  simp only
  by_cases h : x = i
  · subst h
    go_enter Try.func31, Try.ntmps31
    go_wp2_with fail
    go_ret
    exact ⟨by simp, (Grw.rfl' w).alloc _⟩
  · have h1 : (x == i) = false := by simp [h]
    go_enter Try.func31, Try.ntmps31
    go_wp2_with fail
    go_ret
    exact ⟨by simp [h], (Grw.rfl' w).alloc _⟩
theorem pred_is (x : Int) (y : Nat) (i : Int) (o : Bool) (q : Nat) (w : World) (c : w.cell? ⟨q, 0, none⟩ = some (.int .i64 i)) (h : decide (x = i) = o) :
    Calls Try.prog 31 #[.agg #[.int .i64 x, .int .u64 (y : Nat)], .pointer (some ⟨q, 0, none⟩)] w fun e w' => e = .returned (.bool o) ∧ Grw w w' := by rw [← h]; exact pred_any ⟨x, y⟩ i q w c
set_option maxHeartbeats 2000000 in
set_option maxRecDepth 100000 in
theorem index_any (ao : Option Addr) (cap : Nat) (l : List Du) (i : Int) (q : Nat) (w : World) (hl : Lies w ao (cd l)) (hb : l.length ≤ 1000000) (c : w.cell? ⟨q, 0, none⟩ = some (.int .i64 i)) :
    Calls Try.prog 30 #[.slice ao l.length cap, .func (.func 31) #[] #[.pointer (some ⟨q, 0, none⟩)]] w fun e w' => e = .returned (.int .i64 (fx l i)) ∧ Grw w w' := by
  have LI := Lib.hid hl
  have C := Lib.hid c
  obtain ⟨n, hn⟩ : ∃ n, l.length = n := ⟨_, rfl⟩
  obtain ⟨r, hr⟩ : ∃ r, fx l i = r := ⟨_, rfl⟩
  rw [hn] at hb ⊢
  rw [hr]
  have HN := Lib.hid (And.intro hn hr)
  clear hl hn hr c
  go_enter Try.func30, Try.ntmps30
  go_wp2_with fail
  go_loopw [8] (fun u wr => ∃ k : Nat, k ≤ n ∧ u = .int .i64 k ∧ (∀ j (h : j < l.length), j < k → l[j].id ≠ i) ∧ Grw w wr) (fun u _ => n - (intOf u).toNat)
  case atStart => exact ⟨0, Nat.zero_le _, rfl, fun j _ h => by omega, Grw.rfl' _⟩
  case round =>
    obtain ⟨k, hk, rfl, hno, hg⟩ := hrel
    have NO := Lib.hid hno
    have G := Lib.hid hg
    by_cases hk' : k < n
    · have hki : (k : Int) < (n : Int) := by omega
      have hkl : k < l.length := by rw [HN.out.1]; exact hk'
      obtain ⟨b, off, rfl, c0, c1⟩ := lies_at (LI.out.later hg) hkl
      obtain ⟨x, hx⟩ : ∃ x, l[k] = x := ⟨_, rfl⟩
      rw [hx] at c0 c1
      have HX := Lib.hid hx
      obtain ⟨xi, xt⟩ := x
      simp only at c0 c1
      have P := Lib.hid (fun o (h : decide (xi = i) = o) => pred_is xi xt i o q wr (cell_later hg C.out) h)
      by_cases he : xi = i
      · have P1 := Lib.hid (P.out true (by simp [he]))
        have HE := Lib.hid he
        clear hno hg hx P he
        go_wp2_with fail
        refine P1.out.mono ?_
        rintro _ w1 ⟨rfl, hg1⟩
        have G1 := Lib.hid hg1
        clear hg1 c0 c1
        go_wp2_with fail
        go_ret
        refine ⟨?_, G.out.trans G1.out⟩
        rw [← HN.out.2, fx_at hkl (by rw [HX.out]; exact HE.out) (fun j g => NO.out j (by omega) g)]
        rfl
      · have P1 := Lib.hid (P.out false (by simp [he]))
        have HE := Lib.hid he
        clear hno hg hx P he
        go_wp2_with fail
        refine P1.out.mono ?_
        rintro _ w1 ⟨rfl, hg1⟩
        have G1 := Lib.hid (G.out.trans hg1)
        clear hg1 c0 c1
        go_wp2_with fail
        go_roundw
        case rel => exact ⟨k + 1, by omega, by go_num, fun j h h2 => (by
          rcases (by omega : j < k ∨ j = k) with e | e
          · exact NO.out j h e
          · subst e; rw [HX.out]; exact HE.out), G1.out⟩
        case measure => simp [intOf]; omega
    · have hki : ¬ (k : Int) < (n : Int) := by omega
      obtain rfl : n = k := by omega
      clear hno hg
      go_wp2_with fail
      go_ret
      refine ⟨?_, G.out⟩
      rw [← HN.out.2, fx_no (fun j g => NO.out j g (by rw [← HN.out.1]; exact g))]
      rfl
theorem find_is (ao : Option Addr) (cap : Nat) (l : List Du) (n : Nat) (i r : Int) (w : World) (hl : Lies w ao (cd l)) (hb : l.length ≤ 1000000) (hn : l.length = n) (hr : fx l i = r) :
    Calls Try.prog 20 #[.slice ao n cap, .int .i64 i] w fun e w' => e = .returned (.int .i64 r) ∧ Grw w w' := by
  have I := Lib.hid (index_any ao cap l i w.heap.size (w.alloc (.cells #[.int .i64 i] 3)) (hl.later ((Grw.rfl' w).alloc _)) hb (by simp [go_sem]))
  rw [hn, hr] at I
  clear hl hb hn hr
  go_enter Try.func20, Try.ntmps20
  go_wp2_with fail
  refine I.out.mono ?_
  rintro _ w1 ⟨rfl, hg⟩
  have G := Lib.hid hg
  clear hg
  go_wp2_with fail
  go_ret
  exact ⟨rfl, G.out.two⟩

/-! ### in order, each number once -/
theorem ordp_is (a b : Du) (r : Int) (h : ord a b = r) (w : World) : Calls Try.prog 22 #[dv a, dv b] w fun e w' => e = .returned (.int .i64 r) ∧ Grw w w' := order_is a b r h w
open Classical in
noncomputable def srtB (l : List Du) : Bool := decide (RG.Srt l)
open Classical in
noncomputable def onceB (l : List Du) : Bool := decide (ids l).Nodup
open Classical in
noncomputable def gdB (l : List Du) : Bool := decide (Gd l)
theorem srtB_t {l : List Du} (h : RG.Srt l) : srtB l = true := by unfold srtB; simpa using h
theorem srtB_f {l : List Du} (h : ¬ RG.Srt l) : srtB l = false := by unfold srtB; simpa using h
theorem onceB_t {l : List Du} (h : (ids l).Nodup) : onceB l = true := by unfold onceB; simpa using h
theorem onceB_f {l : List Du} (h : ¬ (ids l).Nodup) : onceB l = false := by unfold onceB; simpa using h
theorem gdB_t {l : List Du} (h : Gd l) : gdB l = true := by unfold gdB; simpa using h
theorem gdB_f {l : List Du} (h : ¬ Gd l) : gdB l = false := by unfold gdB; simpa using h
set_option maxHeartbeats 2000000 in
set_option maxRecDepth 100000 in
theorem sorted_any (ao : Option Addr) (cap : Nat) (l : List Du) (w : World) (hl : Lies w ao (cd l)) (hb : l.length ≤ 1000000) :
    Calls Try.prog 26 #[.slice ao l.length cap, .func (.func 22) #[] #[]] w fun e w' => e = .returned (.bool (srtB l)) ∧ Grw w w' := by
  have LI := Lib.hid hl
  obtain ⟨n, hn⟩ : ∃ n, l.length = n := ⟨_, rfl⟩
  obtain ⟨r, hr⟩ : ∃ r, srtB l = r := ⟨_, rfl⟩
  rw [hn] at hb ⊢
  rw [hr]
  have HN := Lib.hid (And.intro hn hr)
  clear hl hn hr
  go_enter Try.func26, Try.ntmps26
  go_wp2_with fail
  go_loopw [5] (fun u wr => ∃ k : Int, k < n ∧ (k < 0 → n = 0) ∧ u = .int .i64 k ∧ (∀ j (h : j + 1 < l.length), k ≤ j → RG.le (l[j]'(by omega)) l[j + 1]) ∧ Grw w wr) (fun u _ => (intOf u).toNat)
  case atStart => exact ⟨(n : Int) - 1, by omega, by omega, by go_num, fun j h h2 => by rw [HN.out.1] at h; omega, Grw.rfl' _⟩
  case round =>
    obtain ⟨k, hk, hk0, rfl, hle, hg⟩ := hrel
    have LE := Lib.hid hle
    have G := Lib.hid hg
    by_cases hpos : 0 < k
    · obtain ⟨q, hq⟩ : ∃ q : Nat, k = q + 1 := ⟨(k - 1).toNat, by omega⟩
      subst hq
      have hql : q + 1 < l.length := by rw [HN.out.1]; omega
      obtain ⟨b, off, rfl, c0, c1⟩ := lies_at (LI.out.later hg) hql
      obtain ⟨b2, off2, e2, d0, d1⟩ := lies_at (LI.out.later hg) (by omega : q < l.length)
      injection e2 with e2
      injection e2 with e2 e3
      subst e2 e3
      obtain ⟨x, hx⟩ : ∃ x, l[q + 1] = x := ⟨_, rfl⟩
      obtain ⟨y, hy⟩ : ∃ y, l[q] = y := ⟨_, rfl⟩
      rw [hx] at c0 c1
      rw [hy] at d0 d1
      obtain ⟨r0, hr0⟩ : ∃ r0, ord x y = r0 := ⟨_, rfl⟩
      have C := Lib.hid (fun w => ordp_is x y r0 hr0 w)
      have hneg := ord_neg x y
      rw [hr0] at hneg
      have HX := Lib.hid (And.intro hx hy)
      have HL := Lib.hid hneg
      obtain ⟨xi, xt⟩ := x
      obtain ⟨yi, yt⟩ := y
      unfold dv at C
      simp only at C c0 c1 d0 d1
      have m0 := gw_cell c0
      have m1 := gw_cell c1
      have m2 := gw_cell d0
      have m3 := gw_cell d1
      have w1 : IntKind.i64.wrap ((q : Int) + 1 - 1) = q := by simp [IntKind.wrap_i64]; omega
      have w2 : (q : Int) + 1 - 1 = q := by omega
      clear c0 c1 d0 d1 hx hy hr0 hneg hle hg hk0
      by_cases hn0 : r0 < 0
      · have hd : decide (r0 < 0) = true := by simp [hn0]
        go_wp2_with fail
        refine wp_region_grown (by kernel_rfl) (by kernel_rfl) ?_
        repeat (go_big_quiet_step (first | (go_at_call 22; exact calls_grown (C.out _))))
        refine wpQuiet_nil ?_
        rintro _ ⟨q', rfl⟩
        have GQ := Lib.hid (G.out.trans q'.h)
        clear m0 m1 m2 m3
        go_wp2_with fail
        go_ret
        refine ⟨?_, GQ.out⟩
        rw [← HN.out.2, srtB_f (not_srt hql (by rw [HX.out.1, HX.out.2, ← HL.out]; exact hd))]
        rfl
      · have hd : decide (r0 < 0) = false := by simp; omega
        go_wp2_with fail
        refine wp_region_grown (by kernel_rfl) (by kernel_rfl) ?_
        repeat (go_big_quiet_step (first | (go_at_call 22; exact calls_grown (C.out _))))
        refine wpQuiet_nil ?_
        rintro _ ⟨q', rfl⟩
        have GQ := Lib.hid (G.out.trans q'.h)
        clear m0 m1 m2 m3
        go_wp2_with fail
        go_roundw
        case rel => exact ⟨q, by omega, by omega, by go_num, fun j h h2 => (by
          rcases (by omega : (q : Int) + 1 ≤ j ∨ j = q) with e | e
          · exact LE.out j h e
          · subst e
            show RG.less _ _ = false
            rw [HX.out.1, HX.out.2, ← HL.out]; exact hd), GQ.out⟩
        case measure => simp [intOf]
    · have hpi : decide ((0 : Int) < k) = false := by simp; omega
      clear hg
      go_wp2_with fail
      go_ret
      refine ⟨?_, G.out⟩
      rw [← HN.out.2, srtB_t (srt_adj fun j g => LE.out j g (by omega))]
      rfl
end Go.Proofs.Ytjkhgpdhhnfmlaa
