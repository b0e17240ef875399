/- The document's Cancel; a copy of a row, whole or without the k-th. -/
import Derived.Test.YtjkhgpdhhnfmlaaRc
import Derived.Laws.OwnMore
import Derived.Deep.RegionLaw
import Derived.Deep.CutBlock
namespace Go.Proofs.Ytjkhgpdhhnfmlaa
open Go.RowKit
open RG (Du)
set_option linter.unusedSimpArgs false

set_option maxRecDepth 100000 in
theorem cp_copy (base b cap n : Nat) (ao : Option Addr) (L : List Du) (u : World) (hb : u.ownsRow base 25 2 (.slice (some ⟨b, 0, none⟩) 0 0) 0 []) (hl : Lies u ao (cd L)) (hn : L.length = n) (hz : ao = none → n = 0 ∧ cap = 0) (hL : L.length ≤ 1000000) (hbase : base ≤ u.heap.size) :
    ∃ v1 u1, (Builtin.append_ #[22, 22] 22 #[.slice (some ⟨b, 0, none⟩) 0 0, .slice ao n cap]).run Try.prog u = .ok v1 u1 ∧ u1.ownsRow base 25 2 v1 n (cd L) ∧ Frm (fun k => k = b) u u1 := by
  obtain ⟨i0, hi, hz0, hz1, hz2⟩ := info_parts Try.info25
  cases ao with
  | none =>
    obtain ⟨rfl, rfl⟩ := hz rfl
    have e : L = [] := List.eq_nil_of_length_eq_zero hn
    subst e
    have hr := run_append_owned_none (P := Try.prog) (w := u) base 22 22 25 i0 2 Try.underlying22 hi _ 0 [] hb
    exact ⟨_, _, hr, hb, Frm.rfl' _ _⟩
  | some ad =>
    have C : ∀ j x, (cd L)[j]? = some x → u.cell? (ad.add j) = some x := fun j x hj => by
      rcases hl with h | ⟨b', off, e, _, hc⟩
      · rw [h] at hj; cases hj
      · injection e with e
        subst e
        rw [Addr.add_lit]
        exact hc j x hj
    obtain ⟨v1, u1, h1, h2, h3, _⟩ := run_append_own (P := Try.prog) u base 22 22 25 i0 _ 2 16 Try.underlying22 hi hz0 hz1 hz2 rfl (by decide) _ 0 [] hb ad n cap (cd L) (by rw [cd_len, hn]) C (cd_one L) (by unfold maxLen; omega) (by omega) hbase
    refine ⟨v1, u1, h1, ?_, (grownBy_frm h3).mono (fun k e => by injection e with e; exact e.symm)⟩
    simpa using h2
theorem cp_empty (w u : World) (b : Nat) (hb : w.heap.size ≤ b) (h : u.heap[b]? = some (.cells #[] 25)) : u.ownsRow w.heap.size 25 2 (.slice (some ⟨b, 0, none⟩) 0 0) 0 [] :=
  ⟨rfl, .inr ⟨b, 0, _, rfl, hb, h, Nat.le_refl _, by unfold maxLen; omega, rfl, rfl⟩⟩
set_option maxRecDepth 100000 in
/-- a copy without the k-th. -/
theorem cp_drop (w u : World) (ob off cap n k m : Nat) (L : List Du) (hu : Grw w u) (he : u.heap[w.heap.size]? = some (.cells #[] 25)) (hl : Lies w (some ⟨ob, off, none⟩) (cd L)) (hn : L.length = n) (hk : k + 1 + m = n) (hnc : n ≤ cap) (hL : L.length ≤ 100000)
    (ad : Addr) (c : Nat) (had : if cap = k + 1 then ad = ⟨ob, off, none⟩ else ad = ⟨ob, off + (k + 1) * 2, none⟩) :
    ∃ v1 u1 v2 u2, (Builtin.append_ #[22, 22] 22 #[.slice (some ⟨w.heap.size, 0, none⟩) 0 0, .slice (some ⟨ob, off, none⟩) k cap]).run Try.prog u = .ok v1 u1 ∧ (Builtin.append_ #[22, 22] 22 #[v1, .slice (some ad) m c]).run Try.prog u1 = .ok v2 u2 ∧
      Grw w u1 ∧ Grw w u2 ∧ u2.ownsRow w.heap.size 25 2 v2 (k + m) (cd (L.take k ++ L.drop (k + 1))) := by
  obtain ⟨i0, hi, hz0, hz1, hz2⟩ := info_parts Try.info25
  have ht : Lies w (some ⟨ob, off, none⟩) (cd (L.take k)) := by rw [cd_take]; exact lies_take hl _
  have hlt : (L.take k).length = k := by rw [List.length_take]; omega
  obtain ⟨v1, u1, r1, o1, f1⟩ := cp_copy w.heap.size w.heap.size cap k (some ⟨ob, off, none⟩) (L.take k) u (cp_empty w u w.heap.size (Nat.le_refl _) he) (ht.later hu) hlt (fun e => by cases e) (by omega) (Below.size hu)
  have g1 : Grw w u1 := f1.grw hu (fun k e => Nat.le_of_eq e.symm)
  have hdl : (cd (L.drop (k + 1))).length = m * 2 := by rw [cd_len, List.length_drop]; omega
  have hnews : ∀ j x, (cd (L.drop (k + 1)))[j]? = some x → u1.cell? (ad.add j) = some x := by
    intro j x hj
    by_cases hc : cap = k + 1
    · have hm : m = 0 := by omega
      rw [hm] at hdl
      have h0 : cd (L.drop (k + 1)) = [] := List.eq_nil_of_length_eq_zero (by simpa using hdl)
      rw [h0] at hj
      cases hj
    · rw [if_neg hc] at had
      subst had
      rw [cd_drop] at hj
      exact lies_drop (hl.later g1) ((k + 1) * 2) j x hj
  obtain ⟨v2, u2, r2, o2, f2, _⟩ := run_append_own (P := Try.prog) u1 w.heap.size 22 22 25 i0 _ 2 16 Try.underlying22 hi hz0 hz1 hz2 rfl (by decide) v1 k (cd (L.take k)) o1 ad m c (cd (L.drop (k + 1))) hdl hnews (cd_one _) (by unfold maxLen; omega) (by omega) (Below.size g1)
  refine ⟨v1, u1, v2, u2, r1, r2, g1, (grownBy_frm f2).grw g1 (fun q e => (o1.lt q e).1), ?_⟩
  rw [cd_app]
  exact o2
end Go.Proofs.Ytjkhgpdhhnfmlaa
