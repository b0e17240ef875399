/- Each of the plan's functions and the document's own: the same answer. -/
import Derived.Test.YtjkhgpdhhnfmlaaRs
import Derived.Test.YtjkhgpdhhnfmlaaRi
import Derived.Test.YtjkhgpdhhnfmlaaRj
import Derived.Test.YtjkhgpdhhnfmlaaOf
import Derived.Test.YtjkhgpdhhnfmlaaPe
namespace Go.Proofs.Ytjkhgpdhhnfmlaa
open Go.RowKit
open RG (Du)
open PM
set_option linter.unusedVariables false

theorem row_nil (w : World) : RowD w (.slice none 0 0) [] := ⟨none, 0, rfl, Or.inl rfl⟩
theorem fx_yes {l : List Du} {i : Int} (h : i ∈ ids l) : ∃ k : Nat, ∃ hk : k < l.length, fx l i = k ∧ l[k].id = i := by
  rcases fx_or l i with ⟨_, h2⟩ | ⟨k, hk, h1, h2, _⟩
  · exact absurd h h2
  · exact ⟨k, hk, h1, h2⟩
theorem fx_no {l : List Du} {i : Int} (h : i ∉ ids l) : fx l i = -1 := by
  rcases fx_or l i with ⟨h1, _⟩ | ⟨k, hk, h1, h2, _⟩
  · exact h1
  · exact absurd (mem_ids.2 ⟨_, List.getElem_mem hk, h2⟩) h
theorem ins_both (ao : Option Addr) (cap : Nat) (l : List Du) (d : Du) (n : Nat) (w : World) (hl : Lies w ao (cd l)) (hb : l.length ≤ 1000) (hw : Wis l) (hn : l.length = n) (hcap : n ≤ cap) (hnil : ao = none → n = 0 ∧ cap = 0) :
    ∃ o K, K.length ≤ 2000 ∧ (∀ x, Grw w x → Calls Try.prog 8 #[.slice ao n cap, dv d] x fun e y => ∃ v, e = .returned (.tuple #[v, .bool o]) ∧ RowD y v K ∧ Grw x y) ∧
      (∀ x, Grw w x → Calls Try.prog 11 #[.slice ao n cap, dv d] x fun e y => ∃ v, e = .returned (.agg #[v, .bool o]) ∧ RowD y v K ∧ Grw x y) := by
  by_cases hg : Gd l
  · by_cases hi : d.id ∈ ids l
    · obtain ⟨k, hk, h1, h2⟩ := fx_yes hi
      refine ⟨false, [], Nat.zero_le _, fun x g => (insert_twice ao cap l d n x (hl.later g) (by omega) hw hn hg hi).mono ?_, fun x g => (rinsert_no ao cap l n d x (hl.later g) (by omega) hn (Or.inr (by omega))).mono ?_⟩
      · rintro e y ⟨v, rfl, h, hy⟩
        exact ⟨v, rfl, h.row, hy⟩
      · rintro e y ⟨rfl, hy⟩
        exact ⟨_, rfl, row_nil _, hy⟩
    · refine ⟨true, RG.put d l, ?_, fun x g => (insert_yes ao cap l d n x (hl.later g) (by omega) hw hn hcap (fun e => (hnil e).1) hg hi).mono ?_, fun x g => (rinsert_yes ao cap l n d x (hl.later g) (by omega) hn hnil (gdB_t hg) (by rw [fx_no hi]; decide)).mono ?_⟩
      · have := (RG.put_perm d l).length_eq
        simp at this
        omega
      · rintro e y ⟨v, rfl, h, hy⟩
        exact ⟨v, rfl, h.row, hy⟩
      · rintro e y ⟨v, rfl, h, hy⟩
        rw [RG.sort_snoc, RG.sort_is hg.1 (List.Perm.refl l)] at h
        exact ⟨v, rfl, h, hy⟩
  · refine ⟨false, [], Nat.zero_le _, fun x g => (insert_bad ao cap l d n x (hl.later g) (by omega) hw hn hg).mono ?_, fun x g => (rinsert_no ao cap l n d x (hl.later g) (by omega) hn (Or.inl (gdB_f hg))).mono ?_⟩
    · rintro e y ⟨v, rfl, h, hy⟩
      exact ⟨v, rfl, h.row, hy⟩
    · rintro e y ⟨rfl, hy⟩
      exact ⟨_, rfl, row_nil _, hy⟩
theorem can_both (ao : Option Addr) (cap : Nat) (l : List Du) (i : Int) (n : Nat) (w : World) (hl : Lies w ao (cd l)) (hb : l.length ≤ 1000) (hw : Wis l) (hn : l.length = n) (hcap : n ≤ cap) (hnil : ao = none → n = 0 ∧ cap = 0) :
    ∃ o K, K.length ≤ 2000 ∧ (∀ x, Grw w x → Calls Try.prog 9 #[.slice ao n cap, .int .i64 i] x fun e y => ∃ v, e = .returned (.tuple #[v, .bool o]) ∧ RowD y v K ∧ Grw x y) ∧
      (∀ x, Grw w x → Calls Try.prog 12 #[.slice ao n cap, .int .i64 i] x fun e y => ∃ v, e = .returned (.agg #[v, .bool o]) ∧ RowD y v K ∧ Grw x y) := by
  by_cases hi : i ∈ ids l
  · obtain ⟨k, hk, h1, h2⟩ := fx_yes hi
    by_cases hg : Gd l
    · have hne : cd l ≠ [] := fun e => by
        have := cd_len l
        rw [e] at this
        simp at this
        omega
      obtain ⟨b, off, rfl, hL⟩ : ∃ b off, ao = some ⟨b, off, none⟩ ∧ True := by
        rcases hl with h | ⟨b, off, e, _⟩
        · exact absurd h hne
        · exact ⟨b, off, e, trivial⟩
      refine ⟨true, del i l, ?_, fun x g => (cancel_yes (some ⟨b, off, none⟩) cap l n i x (hl.later g) (by omega) hw hn hcap (fun e => by cases e) hi hg).mono ?_, fun x g => (rcancel_yes b off cap l n k i x (hl.later g) (by omega) hn hcap (gdB_t hg) h1 (by omega)).mono ?_⟩
      · have : (del i l).length ≤ l.length := List.length_filter_le _ _
        omega
      · rintro e y ⟨v, rfl, h, hy⟩
        exact ⟨v, rfl, h.row, hy⟩
      · rintro e y ⟨v, rfl, h, hy⟩
        rw [cut_del hg.2 hk h2] at h
        exact ⟨v, rfl, h, hy⟩
    · refine ⟨false, [], Nat.zero_le _, fun x g => (cancel_bad ao cap l n i x (hl.later g) (by omega) hw hn hi hg).mono ?_, fun x g => (rcancel_no ao cap l n i x (hl.later g) (by omega) hn (Or.inl (gdB_f hg))).mono ?_⟩
      · rintro e y ⟨v, rfl, h, hy⟩
        exact ⟨v, rfl, h.row, hy⟩
      · rintro e y ⟨rfl, hy⟩
        exact ⟨_, rfl, row_nil _, hy⟩
  · refine ⟨false, [], Nat.zero_le _, fun x g => (cancel_none ao cap l n i x (hl.later g) (by omega) hn hi).mono ?_, fun x g => (rcancel_no ao cap l n i x (hl.later g) (by omega) hn (Or.inr (by rw [fx_no hi]; decide))).mono ?_⟩
    · rintro e y ⟨v, rfl, h, hy⟩
      exact ⟨v, rfl, h.row, hy⟩
    · rintro e y ⟨rfl, hy⟩
      exact ⟨_, rfl, row_nil _, hy⟩
theorem split_both (ao : Option Addr) (cap t : Nat) (l : List Du) (n : Nat) (w : World) (hl : Lies w ao (cd l)) (hb : l.length ≤ 1000) (hn : l.length = n) :
    ∃ K M, K.length ≤ 2000 ∧ M.length ≤ 2000 ∧ (∀ x, Grw w x → Calls Try.prog 10 #[.slice ao n cap, .int .u64 t] x fun e y => ∃ u v, e = .returned (.tuple #[u, v]) ∧ RowD y u K ∧ RowD y v M ∧ Grw x y) ∧
      (∀ x, Grw w x → Calls Try.prog 13 #[.slice ao n cap, .int .u64 t] x fun e y => ∃ u v, e = .returned (.agg #[u, v]) ∧ RowD y u K ∧ RowD y v M ∧ Grw x y) := by
  subst hn
  have h1 : (upto t l).length ≤ l.length := List.length_filter_le _ _
  have h2 : (past t l).length ≤ l.length := List.length_filter_le _ _
  refine ⟨upto t l, past t l, by omega, by omega, fun x g => (split_any ao cap t l x (hl.later g) (by omega)).mono ?_, fun x g => rsplit_is ao cap t l l.length x (hl.later g) (by omega) rfl⟩
  rintro e y ⟨u, v, rfl, h, h', hy⟩
  exact ⟨u, v, rfl, h.row, h'.row, hy⟩
theorem good_both (ao : Option Addr) (cap : Nat) (l : List Du) (n : Nat) (w : World) (hl : Lies w ao (cd l)) (hb : l.length ≤ 1000) (hw : Wis l) (hn : l.length = n) :
    ∃ o, (∀ x, Grw w x → Calls Try.prog 14 #[.slice ao n cap] x fun e y => e = .returned (.bool o) ∧ Grw x y) ∧
      (∀ x, Grw w x → Calls Try.prog 15 #[.slice ao n cap] x fun e y => e = .returned (.bool o) ∧ Grw x y) :=
  ⟨gdB l, fun x g => good_is ao cap l n _ x (hl.later g) (by omega) hw hn rfl, fun x g => rgood_is ao cap l n x (hl.later g) (by omega) hn⟩
theorem sort_both (ao : Option Addr) (cap : Nat) (l : List Du) (n : Nat) (w : World) (hl : Lies w ao (cd l)) (hb : l.length ≤ 1000) (hn : l.length = n) (hnil : ao = none → n = 0 ∧ cap = 0) :
    ∃ K, K.length ≤ 2000 ∧ (∀ x, Grw w x → Calls Try.prog 17 #[.slice ao n cap] x fun e y => ∃ v, e = .returned v ∧ RowD y v K ∧ Grw x y) ∧
      (∀ x, Grw w x → Calls Try.prog 18 #[.slice ao n cap] x fun e y => ∃ v, e = .returned v ∧ RowD y v K ∧ Grw x y) := by
  subst hn
  have ha : Are w (.slice ao l.length cap) l := by
    cases ao with
    | none =>
      obtain ⟨h1, h2⟩ := hnil rfl
      have : l = [] := List.eq_nil_of_length_eq_zero h1
      subst this
      subst h2
      exact Or.inl ⟨rfl, rfl⟩
    | some a => exact Or.inr ⟨a, cap, rfl, hl⟩
  refine ⟨RG.sort l, by rw [RG.sort_len]; omega, fun x g => (psort_is _ l x (ha.later g) (by omega)).mono ?_, fun x g => (rsort_any ao cap l x (hl.later g) (by omega)).mono ?_⟩
  · rintro e y ⟨v, rfl, h, hy⟩
    exact ⟨v, rfl, h.row, hy⟩
  · rintro e y ⟨v, rfl, h, hy⟩
    exact ⟨v, rfl, h, hy⟩
end Go.Proofs.Ytjkhgpdhhnfmlaa
