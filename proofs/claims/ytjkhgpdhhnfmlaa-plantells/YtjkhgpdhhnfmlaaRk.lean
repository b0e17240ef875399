/- The document's Insert: a copy of a row and one more. -/
import Derived.Test.YtjkhgpdhhnfmlaaRj
namespace Go.Proofs.Ytjkhgpdhhnfmlaa
open Go.RowKit
open RG (Du)
set_option linter.unusedSimpArgs false

set_option maxRecDepth 100000 in
/-- the copy, then one more. -/
theorem cp_two (w u : World) (b b1 cap n : Nat) (ao : Option Addr) (L : List Du) (x : Du) (hg : Grw w u) (hb : w.heap.size ≤ b) (h : u.heap[b]? = some (.cells #[] 25)) (hl : Lies w ao (cd L)) (hn : L.length = n) (hz : ao = none → n = 0 ∧ cap = 0) (hL : L.length ≤ 100000)
    (hb1 : u.heap[b1]? = some (.cells #[.int .i64 x.id, .int .u64 (x.t : Nat)] 25)) (hne : b1 ≠ b) :
    ∃ v1 u1 v2 u2, (Builtin.append_ #[22, 22] 22 #[.slice (some ⟨b, 0, none⟩) 0 0, .slice ao n cap]).run Try.prog u = .ok v1 u1 ∧ (Builtin.append_ #[22, 22] 22 #[v1, .slice (some ⟨b1, 0, none⟩) 1 1]).run Try.prog u1 = .ok v2 u2 ∧
      Grw w u1 ∧ Grw w u2 ∧ u2.ownsRow w.heap.size 25 2 v2 (n + 1) (cd (L ++ [x])) := by
  obtain ⟨i0, hi, hz0, hz1, hz2⟩ := info_parts Try.info25
  obtain ⟨v1, u1, r1, o1, f1⟩ := cp_copy w.heap.size b cap n ao L u (cp_empty w u b hb h) (hl.later hg) hn hz (by omega) (Below.size hg)
  have hbk : u1.heap[b1]? = some (.cells #[.int .i64 x.id, .int .u64 (x.t : Nat)] 25) := (f1.block b1 (Array.getElem?_eq_some_iff.1 hb1).1 hne).trans hb1
  have g1 : Grw w u1 := f1.grw hg (fun k e => e ▸ hb)
  obtain ⟨v2, u2, r2, o2, f2, _⟩ := run_append_own (P := Try.prog) u1 w.heap.size 22 22 25 i0 _ 2 16 Try.underlying22 hi hz0 hz1 hz2 rfl (by decide) v1 n (cd L) o1 ⟨b1, 0, none⟩ 1 1 (cd [x]) (cd_len [x]) (blk_cells (xs := cd [x]) hbk) (cd_one [x]) (by unfold maxLen; omega) (by omega) (Below.size g1)
  refine ⟨v1, u1, v2, u2, r1, r2, g1, (grownBy_frm f2).grw g1 (fun k e => (o1.lt k e).1), ?_⟩
  rw [cd_app]
  exact o2
set_option maxRecDepth 100000 in
/-- the copy, then one more that is made behind the copy. -/
theorem cp_three (w u : World) (b cap n : Nat) (ao : Option Addr) (L : List Du) (x : Du) (hg : Grw w u) (hb : w.heap.size ≤ b) (h : u.heap[b]? = some (.cells #[] 25)) (hl : Lies w ao (cd L)) (hn : L.length = n) (hz : ao = none → n = 0 ∧ cap = 0) (hL : L.length ≤ 100000) :
    ∃ v1 u1 v2 u2, (Builtin.append_ #[22, 22] 22 #[.slice (some ⟨b, 0, none⟩) 0 0, .slice ao n cap]).run Try.prog u = .ok v1 u1 ∧ (Builtin.append_ #[22, 22] 22 #[v1, .slice (some ⟨u1.heap.size, 0, none⟩) 1 1]).run Try.prog (u1.alloc (.cells #[.int .i64 x.id, .int .u64 (x.t : Nat)] 25)) = .ok v2 u2 ∧
      Grw w u1 ∧ Grw w u2 ∧ u2.ownsRow w.heap.size 25 2 v2 (n + 1) (cd (L ++ [x])) := by
  obtain ⟨i0, hi, hz0, hz1, hz2⟩ := info_parts Try.info25
  obtain ⟨v1, u1, r1, o1, f1⟩ := cp_copy w.heap.size b cap n ao L u (cp_empty w u b hb h) (hl.later hg) hn hz (by omega) (Below.size hg)
  have g1 : Grw w u1 := f1.grw hg (fun k e => e ▸ hb)
  obtain ⟨v2, u2, r2, o2, f2, _⟩ := run_append_own (P := Try.prog) (u1.alloc (.cells #[.int .i64 x.id, .int .u64 (x.t : Nat)] 25)) w.heap.size 22 22 25 i0 _ 2 16 Try.underlying22 hi hz0 hz1 hz2 rfl (by decide) v1 n (cd L) (World.ownsRow.alloc o1 _) ⟨u1.heap.size, 0, none⟩ 1 1 (cd [x]) (cd_len [x]) (blk_cells (xs := cd [x]) (heap_alloc_new u1 _)) (cd_one [x]) (by unfold maxLen; omega) (by omega) (Below.size (g1.alloc _))
  refine ⟨v1, u1, v2, u2, r1, r2, g1, (grownBy_frm f2).grw (g1.alloc _) (fun k e => (o1.lt k e).1), ?_⟩
  rw [cd_app]
  exact o2
end Go.Proofs.Ytjkhgpdhhnfmlaa
