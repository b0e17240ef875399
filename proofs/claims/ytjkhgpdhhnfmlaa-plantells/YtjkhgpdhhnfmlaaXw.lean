/- append of a row of timers to a row of one's own, nil or not; a row of timers while others are made. -/
import Derived.Test.YtjkhgpdhhnfmlaaRb
import Derived.Deep.Upon
namespace Go.Proofs.Ytjkhgpdhhnfmlaa
open Go.RowKit
open RG (Du)

theorem app_nil (w : World) (ao : Option Addr) (n cap : Nat) (c : Nat) (h : n ≤ cap) : (Builtin.append_ #[22, 22] 22 #[.slice ao n cap, .slice none 0 c]).run Try.prog w = .ok (.slice ao n cap) w := by
  obtain ⟨i0, hi, hz0, hz1, hz2⟩ := info_parts Try.info25
  refine run_append_nothing w 22 22 22 25 i0 Try.underlying22 hi ao n cap h _ ?_
  constructor <;> simp [go_sem, Try.underlying22]
theorem own_cap {w : World} {ao : Option Addr} {n cap : Nat} {xs : List Value} (h : w.ownsRow 0 25 2 (.slice ao n cap) n xs) : n ≤ cap := by
  rcases h.2 with ⟨h1, h2⟩ | ⟨g', cap', cur, h1, _, h3, h4, h5, h6, h7⟩
  · omega
  · injection h1 with _ _ h1; omega
/-- append(v, u...), u a row of timers. -/
theorem app_ex (w : World) (v : Value) (l k : List Du) (ho : w.ownsRow 0 25 2 v l.length (cd l)) (u : Value) (hr : RowD w u k) (hb : l.length + k.length ≤ 1000000) :
    ∃ v' w', (Builtin.append_ #[22, 22] 22 #[v, u]).run Try.prog w = .ok v' w' ∧ w'.ownsRow 0 25 2 v' (l ++ k).length (cd (l ++ k)) ∧ w.grownBy w' v.ownBlock ∧ (v'.ownBlock = v.ownBlock ∨ v'.ownBlock = some w.heap.size) := by
  obtain ⟨i0, hi, hz0, hz1, hz2⟩ := info_parts Try.info25
  obtain ⟨uo, uc, rfl, hl⟩ := hr
  rw [List.length_append, cd_app]
  cases uo with
  | none =>
    have hk : k = [] := by
      rcases hl with h | ⟨b, off, e, _⟩
      · have := cd_len k
        rw [h] at this
        exact List.eq_nil_of_length_eq_zero (by simp at this; omega)
      · cases e
    subst hk
    obtain ⟨vo, vc, rfl, _⟩ := ownsRow_lies ho
    exact ⟨_, w, app_nil w vo l.length vc uc (own_cap ho), by simpa [cd] using ho, World.grownBy.refl _ _, Or.inl rfl⟩
  | some ad =>
    have hnews : ∀ j x, (cd k)[j]? = some x → w.cell? (ad.add j) = some x := by
      intro j x hj
      rcases hl with h | ⟨b, off, e, _, hc⟩
      · rw [h] at hj; cases hj
      · have e' : ad = ⟨b, off, none⟩ := Option.some.inj e
        subst e'
        rw [Addr.add_lit]
        exact hc j x hj
    obtain ⟨v', w', h1, h2, h3, h4⟩ := run_append_mine (P := Try.prog) w 22 22 25 i0 _ 2 16 Try.underlying22 hi hz0 hz1 hz2 rfl (by decide) v l.length (cd l) ho ad k.length uc (cd k) (cd_len k) hnews (cd_one k) (by unfold maxLen; omega) (by omega)
    exact ⟨v', w', h1, h2, h3, h4⟩
end Go.Proofs.Ytjkhgpdhhnfmlaa
