/- The walk over the values of the map of leases, as maps.Values hands it to whatever loop. -/
import Derived.Test.YtoejmopppkjaoaaTd
import Derived.RangeFuncGives
import Derived.RangeFuncLeaves
import Derived.Sort.MapsRangeIn
import Derived.WalkKit
import Derived.OwnWalkIn
import Derived.TacticsInMore
import Derived.RegionIn
import Derived.LoopNIn
import Derived.LoopIn
import Derived.Maps.AppendAt
namespace Go.Proofs.Ytoejmopppkjaoaa
open Go.RowKit Go.Maps Go.Shelf
set_option linter.unusedSimpArgs false

theorem iter_walk' {P : Program} {w : World} {b r n cnt : Nat} {D : DataW Unit} {left : Lit → Bool} (h : w.ranges P 3 grE b r n D left cnt) : ∃ o : Obj, w.heap[r]? = some o ∧ o.isWalk = true := by
  obtain ⟨es, clock, since, seen, c0, _, _, _, _, hr, _⟩ := h
  exact ⟨_, hr, rfl⟩
set_option maxRecDepth 100000 in
set_option maxHeartbeats 1000000 in
theorem vals_in (F : Fence) (n : Nat) (hf : F.fn 35) (hro : F.round = none) (hn : 1 ≤ n) (l Bm b nn last : Nat) (D : DataW Unit) (L : List Gr) (ok : Ok last L) (q : MapOf Gr.n gd D L) (J : List Gr → World → Prop)
    (hY : ∀ pre x W, J pre W → pre.length < L.length → YieldAt F (n - 1) Try.prog l #[gv x] W fun e W' => e = .returned (.bool true) ∧ J (pre ++ [x]) W' ∧ KeepsWalks W W')
    (W : World) (hJ : AbidesFrom W.heap.size J) (hm : W.cell? ⟨Bm, 0, none⟩ = some (.map (some b))) (hown : W.ownsMap Try.prog 3 grE b nn D) (h0 : J [] W) :
    CallsIn F n Try.prog 35 #[.func (.yield l) #[] #[], .pointer (some ⟨Bm, 0, none⟩)] W fun e W' => (∃ v, e = .returned v) ∧ ∃ ss : List Gr, (ss.Nodup ∧ ∀ g, g ∈ ss ↔ g ∈ L) ∧ J ss W' := by
  refine callsIn_of_wp Try.func35 rfl hf ?_ hro
  simp only [Try.ntmps35, List.size_toArray, List.length_cons, List.length_nil, Nat.reduceAdd, Nat.reduceSub, Array.replicate_succ, Array.replicate_zero, List.push_toArray, List.append_toArray, List.nil_append, List.cons_append]
  gi_wp2_with (first
    | (gi_at_range; refine wpListIn_range_own _ rfl _ 59 rfl 3 39 law3 Try.underlying59 _ b nn _ rfl hown ?_; intro w0 hrg0 hg0 hs0)
    | gi_in)
  go_frame
  gi_loopw [4] (fun _ wr => ∃ (left : Lit → Bool) (cnt : Nat) (ss : List Gr), wr.ranges Try.prog 3 grE b W.heap.size nn D left cnt ∧ ss.length + cnt ≤ L.length ∧ OvI (fun _ => True) D L left ss ∧ J ss wr)
    (fun _ wr => wr.rangeLeft b W.heap.size)
  case atStart =>
    exact ⟨_, _, [], hrg0, by rw [← q.size]; simp, OvI.start q, hJ [] W w0 none h0 hg0 (fun r e => by cases e)⟩
  case round =>
    obtain ⟨left, cnt, ss, hrg, hcs, hC, hJs⟩ := hrel
    gi_wp2_with (first
      | (gi_at_next; refine wpListIn_next_ranges _ rfl _ rfl 3 law3 grE (fun x : Int => Value.int .i64 x) gv invK invV b W.heap.size nn _ _ _ rfl hrg ?_ ?_)
      | gi_in)
    · intro hc0 hl0
      gi_wp2
      go_end0
      exact ⟨⟨_, rfl⟩, ss, ⟨hC.nd, fun g => by rw [hC.all hl0 g]; simp⟩, hJs⟩
    · intro x c kl yd yp w2 cnt2 hkey hlk hv hat hrg2 hlt hg2 hs2 hen
      obtain rfl := keyL hkey
      obtain ⟨hc, rfl⟩ := hC.comes (y := (yd, yp)) q hlk hv hat
      have hJ2 : J ss w2 := hJ _ wr w2 (some W.heap.size) hJs hg2 (fun r e => by cases e; exact ⟨Nat.le_refl _, iter_walk' hrg⟩)
      obtain ⟨w3, hw3⟩ : ∃ w3, w2.alloc (.cells #[.int .i64 c.n, .int .i64 c.j, .int .u64 (c.u : Nat)] 39) = w3 := ⟨_, rfl⟩
      have b0 : w3.cell? ⟨w2.heap.size, 0, none⟩ = some (.int .i64 c.n) := by rw [← hw3]; simp [go_sem]
      have b1 : w3.cell? ⟨w2.heap.size, 1, none⟩ = some (.int .i64 c.j) := by rw [← hw3]; simp [go_sem]
      have b2 : w3.cell? ⟨w2.heap.size, 2, none⟩ = some (.int .u64 (c.u : Nat)) := by rw [← hw3]; simp [go_sem]
      have hg3 : w2.grownBy w3 none := by rw [← hw3]; exact World.grownBy_alloc _ _ _
      have hJ3 : J ss w3 := hJ _ w2 w3 none hJ2 hg3 (fun r e => by cases e)
      obtain ⟨fn, tmps, assign, body, hy, hR⟩ := hY ss c w3 hJ3 (by omega)
      have hrg3 := hrg2.kept hg3 (by simp) (by simp)
      have hC3 := hC.take ok hc hlk trivial
      unfold gv at hen hy
      clear hs2 hkey hv hat hJ2 hg3
      gi_wp2
      refine hR.mono ?_
      rintro e W4 ⟨rfl, hJ4, hk4⟩
      clear hw3 b0 b1 b2
      gi_wp2
      have hrg4 := hrg3.of_walks hk4
      go_roundw
      case rel => exact ⟨_, cnt2, ss ++ [c], hrg4, by simp; omega, hC3, hJ4⟩
      case measure => rw [hrg4.left_eq, hrg.left_eq]; exact hlt
/-- the value that maps.Values hands back, for whatever loop. -/
theorem vals_gives (F : Fence) (n : Nat) (hf : F.fn 35) (hro : F.round = none) (hn : 1 ≤ n) (Bm b nn last : Nat) (D : DataW Unit) (L : List Gr) (ok : Ok last L) (q : MapOf Gr.n gd D L) (w : World) (hBm : Bm < w.heap.size)
    (hm : w.cell? ⟨Bm, 0, none⟩ = some (.map (some b))) (hown : w.ownsMap Try.prog 3 grE b nn D) :
    SeqGives F n Try.prog 35 #[.pointer (some ⟨Bm, 0, none⟩)] gv (fun ss => ss.Nodup ∧ ∀ g, g ∈ ss ↔ g ∈ L) L.length w := fun l J W hW hJ hY h0 =>
  vals_in F n hf hro hn l Bm b nn last D L ok q J hY W hJ ((hW.cell (p := ⟨Bm, 0, none⟩) hBm).trans hm) (ownsMap_block hown (hW.block b hown.lt)) h0
end Go.Proofs.Ytoejmopppkjaoaa
