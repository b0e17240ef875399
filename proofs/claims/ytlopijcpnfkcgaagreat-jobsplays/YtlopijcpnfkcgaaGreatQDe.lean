/- append([]Wait{}, l...): a copy of what lies anywhere; what else is left alone. -/
import Derived.Test.YtlopijcpnfkcgaaGreatQDc
import Derived.Laws.OwnMore
namespace Go.Proofs.YtlopijcpnfkcgaaGreat
namespace QQ
open Go.RowKit
set_option linter.unusedSimpArgs false

set_option maxRecDepth 100000 in
theorem app_copy (base b cap n : Nat) (ao : Option Addr) (L : List Wt) (u : World) (hb : u.ownsRow base 77 3 (.slice (some ⟨b, 0, none⟩) 0 0) 0 []) (hl : Lies u ao (cw L)) (hn : L.length = n) (hz : ao = none → n = 0 ∧ cap = 0) (hL : L.length ≤ 1000000) (hbase : base ≤ u.heap.size) :
    ∃ v1 u1, (Builtin.append_ #[62, 62] 62 #[.slice (some ⟨b, 0, none⟩) 0 0, .slice ao n cap]).run Tryz.prog u = .ok v1 u1 ∧ u1.ownsRow base 77 3 v1 n (cw L) ∧ Frm (fun k => k = b) u u1 := by
  obtain ⟨i0, hi, hz0, hz1, hz2⟩ := info_parts Tryz.info77
  cases ao with
  | none =>
    obtain ⟨rfl, rfl⟩ := hz rfl
    have e : L = [] := List.eq_nil_of_length_eq_zero hn
    subst e
    have hr := run_append_owned_none (P := Tryz.prog) (w := u) base 62 62 77 i0 3 Tryz.underlying62 hi _ 0 [] hb
    exact ⟨_, _, hr, hb, Frm.rfl' _ _⟩
  | some ad =>
    have C : ∀ j x, (cw L)[j]? = some x → u.cell? (ad.add j) = some x := fun j x hj => by
      rcases hl with h | ⟨b', off, e, _, hc⟩
      · rw [h] at hj; cases hj
      · injection e with e
        subst e
        rw [Addr.add_lit]
        exact hc j x hj
    obtain ⟨v1, u1, h1, h2, h3, _⟩ := run_append_own (P := Tryz.prog) u base 62 62 77 i0 _ 3 24 Tryz.underlying62 hi hz0 hz1 hz2 rfl (by decide) _ 0 [] hb ad n cap (cw L) (by rw [cw_len, hn]) C (cw_one L) (by unfold maxLen; omega) (by omega) hbase
    refine ⟨v1, u1, h1, ?_, (grownBy_frm h3).mono (fun k e => by injection e with e; exact e.symm)⟩
    simpa using h2
theorem empty_row (w u : World) (b : Nat) (hb : w.heap.size ≤ b) (h : u.heap[b]? = some (.cells #[] 77)) : u.ownsRow w.heap.size 77 3 (.slice (some ⟨b, 0, none⟩) 0 0) 0 [] :=
  ⟨rfl, .inr ⟨b, 0, _, rfl, hb, h, Nat.le_refl _, by unfold maxLen; omega, rfl, rfl⟩⟩
set_option maxRecDepth 100000 in
/-- the copy, then one more. -/
theorem app_two (w u : World) (b b1 cap n : Nat) (ao : Option Addr) (L : List Wt) (x : Wt) (hg : Grw w u) (hb : w.heap.size ≤ b) (h : u.heap[b]? = some (.cells #[] 77)) (hl : Lies w ao (cw L)) (hn : L.length = n) (hz : ao = none → n = 0 ∧ cap = 0) (hL : L.length ≤ 100000)
    (hb1 : u.heap[b1]? = some (.cells #[.int .i64 x.id, .int .i64 x.cl, .int .i64 x.ca] 77)) (hne : b1 ≠ b) :
    ∃ v1 u1 v2 u2, (Builtin.append_ #[62, 62] 62 #[.slice (some ⟨b, 0, none⟩) 0 0, .slice ao n cap]).run Tryz.prog u = .ok v1 u1 ∧ (Builtin.append_ #[62, 62] 62 #[v1, .slice (some ⟨b1, 0, none⟩) 1 1]).run Tryz.prog u1 = .ok v2 u2 ∧
      Grw w u1 ∧ Grw w u2 ∧ u2.ownsRow w.heap.size 77 3 v2 (n + 1) (cw (L ++ [x])) := by
  obtain ⟨i0, hi, hz0, hz1, hz2⟩ := info_parts Tryz.info77
  obtain ⟨v1, u1, r1, o1, f1⟩ := app_copy w.heap.size b cap n ao L u (empty_row w u b hb h) (hl.later hg) hn hz (by omega) (Below.size hg)
  have hbk : u1.heap[b1]? = some (.cells #[.int .i64 x.id, .int .i64 x.cl, .int .i64 x.ca] 77) := (f1.block b1 (Array.getElem?_eq_some_iff.1 hb1).1 hne).trans hb1
  have g1 : Grw w u1 := f1.grw hg (fun k e => e ▸ hb)
  obtain ⟨v2, u2, r2, o2, f2, _⟩ := run_append_own (P := Tryz.prog) u1 w.heap.size 62 62 77 i0 _ 3 24 Tryz.underlying62 hi hz0 hz1 hz2 rfl (by decide) v1 n (cw L) o1 ⟨b1, 0, none⟩ 1 1 (cw [x]) (cw_len [x]) (blk_cells (xs := cw [x]) hbk) (cw_one [x]) (by unfold maxLen; omega) (by omega) (Below.size g1)
  refine ⟨v1, u1, v2, u2, r1, r2, g1, (grownBy_frm f2).grw g1 (fun k e => (o1.lt k e).1), ?_⟩
  rw [cw_app]
  exact o2
set_option maxRecDepth 100000 in
/-- the copy, then one more that is made behind the copy. -/
theorem app_three (w u : World) (b cap n : Nat) (ao : Option Addr) (L : List Wt) (x : Wt) (hg : Grw w u) (hb : w.heap.size ≤ b) (h : u.heap[b]? = some (.cells #[] 77)) (hl : Lies w ao (cw L)) (hn : L.length = n) (hz : ao = none → n = 0 ∧ cap = 0) (hL : L.length ≤ 100000) :
    ∃ v1 u1 v2 u2, (Builtin.append_ #[62, 62] 62 #[.slice (some ⟨b, 0, none⟩) 0 0, .slice ao n cap]).run Tryz.prog u = .ok v1 u1 ∧ (Builtin.append_ #[62, 62] 62 #[v1, .slice (some ⟨u1.heap.size, 0, none⟩) 1 1]).run Tryz.prog (u1.alloc (.cells #[.int .i64 x.id, .int .i64 x.cl, .int .i64 x.ca] 77)) = .ok v2 u2 ∧
      Grw w u1 ∧ Grw w u2 ∧ u2.ownsRow w.heap.size 77 3 v2 (n + 1) (cw (L ++ [x])) := by
  obtain ⟨i0, hi, hz0, hz1, hz2⟩ := info_parts Tryz.info77
  obtain ⟨v1, u1, r1, o1, f1⟩ := app_copy w.heap.size b cap n ao L u (empty_row w u b hb h) (hl.later hg) hn hz (by omega) (Below.size hg)
  have g1 : Grw w u1 := f1.grw hg (fun k e => e ▸ hb)
  obtain ⟨v2, u2, r2, o2, f2, _⟩ := run_append_own (P := Tryz.prog) (u1.alloc (.cells #[.int .i64 x.id, .int .i64 x.cl, .int .i64 x.ca] 77)) w.heap.size 62 62 77 i0 _ 3 24 Tryz.underlying62 hi hz0 hz1 hz2 rfl (by decide) v1 n (cw L) (World.ownsRow.alloc o1 _) ⟨u1.heap.size, 0, none⟩ 1 1 (cw [x]) (cw_len [x]) (blk_cells (xs := cw [x]) (heap_alloc_new u1 _)) (cw_one [x]) (by unfold maxLen; omega) (by omega) (Below.size (g1.alloc _))
  refine ⟨v1, u1, v2, u2, r1, r2, g1, (grownBy_frm f2).grw (g1.alloc _) (fun k e => (o1.lt k e).1), ?_⟩
  rw [cw_app]
  exact o2
end QQ
end Go.Proofs.YtlopijcpnfkcgaaGreat
