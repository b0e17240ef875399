/- PlanInserts: its plans in memory. -/
import Derived.Test.YtjkhgpdhhnfmlaaNi
import Derived.Test.YtjkhgpdhhnfmlaaPe
import Derived.Test.YtjkhgpdhhnfmlaaPt
namespace Go.Proofs.Ytjkhgpdhhnfmlaa
open Go.RowKit
open RG (Du)
open PM
set_option linter.unusedSimpArgs false

theorem NewD.later {w x y : World} {v : Value} {l : List Du} (h : NewD w x v l) (g : Grw x y) : NewD w y v l :=
  ownsRow_frm h (g.frm (fun _ => False)) (fun _ _ e => e)
theorem NewD.base {w x y : World} {v : Value} {l : List Du} (h : NewD x y v l) (hs : w.heap.size ≤ x.heap.size) : NewD w y v l :=
  base_up (base_down h) (fun _ hk => Nat.le_trans hs (h.ge hk).1)
theorem NewD.other {x y : World} {u : Value} {v : Value} {l : List Du} (h : NewD x y v l) (hu : ∀ k, u.ownBlock = some k → k < x.heap.size) : ∀ k, u.ownBlock = some k → v.ownBlock ≠ some k := fun k hk e => by
  have := (h.ge e).1
  have := hu k hk
  omega
theorem NewD.lt {w x : World} {v : Value} {l : List Du} (h : NewD w x v l) : ∀ k, v.ownBlock = some k → k < x.heap.size := fun _ hk => (h.ge hk).2
theorem ins_yes {w0 x : World} {v : Value} {l : List Du} (h : NewD w0 x v l) (d : Du) (hb : l.length ≤ 100000) (hw : Wis l) (hg : Gd l) (hi : d.id ∉ ids l) :
    Calls Try.prog 8 #[v, dv d] x (PlanQ true (RG.put d l) x) := by
  obtain ⟨ao, cap, rfl, hl, hc, hn⟩ := h.out
  exact insert_yes ao cap l d l.length x hl hb hw rfl hc hn hg hi
theorem ins_twice {w0 x : World} {v : Value} {l : List Du} (h : NewD w0 x v l) (d : Du) (hb : l.length ≤ 100000) (hw : Wis l) (hg : Gd l) (hi : d.id ∈ ids l) :
    Calls Try.prog 8 #[v, dv d] x (PlanQ false [] x) := by
  obtain ⟨ao, cap, rfl, hl, hc, hn⟩ := h.out
  exact insert_twice ao cap l d l.length x hl hb hw rfl hg hi
theorem can_yes {w0 x : World} {v : Value} {l : List Du} (h : NewD w0 x v l) (i : Int) (hb : l.length ≤ 100000) (hw : Wis l) (hg : Gd l) (hi : i ∈ ids l) :
    Calls Try.prog 9 #[v, .int .i64 i] x (PlanQ true (del i l) x) := by
  obtain ⟨ao, cap, rfl, hl, hc, hn⟩ := h.out
  exact cancel_yes ao cap l l.length i x hl hb hw rfl hc hn hi hg
theorem gd_yes {w0 x : World} {v : Value} {l : List Du} (h : NewD w0 x v l) (hb : l.length ≤ 100000) (hw : Wis l) (hg : Gd l) :
    Calls Try.prog 14 #[v] x fun e w' => e = .returned (.bool true) ∧ Grw x w' := by
  obtain ⟨ao, cap, rfl, hl, hc, hn⟩ := h.out
  exact good_is ao cap l l.length true x hl (by omega) hw rfl (gdB_t hg)
theorem NewD.are {w x : World} {v : Value} {l : List Du} (h : NewD w x v l) : Are x v l := by
  obtain ⟨ao, cap, rfl, hl, hc, hn⟩ := h.out
  cases ao with
  | some a => exact Or.inr ⟨a, cap, rfl, hl⟩
  | none =>
    have e := List.eq_nil_of_length_eq_zero (hn rfl)
    subst e
    rcases h.2 with ⟨h1, _⟩ | ⟨g, cap', cur, h1, _⟩
    · exact Or.inl ⟨h1, rfl⟩
    · cases h1
theorem wis_nL (τ : Nat → Nat) {i : Nat} (hi : i ≤ 100) : Wis (nL τ i) := fun d hd => by
  obtain ⟨j, hj, rfl⟩ := List.mem_map.1 hd
  have := List.mem_range.1 hj
  exact ⟨by simp only [nD]; omega, by simp only [nD]; omega⟩
theorem wis_nK (τ : Nat → Nat) {s N i : Nat} (hN : N ≤ 100) (h0 : 0 < N) : Wis (nK τ s N i) := fun d hd => by
  obtain ⟨j, hj, rfl⟩ := List.mem_map.1 hd
  have : (j + s) % N < N := Nat.mod_lt _ h0
  exact ⟨by simp only [nD]; omega, by simp only [nD]; omega⟩
theorem Wis.perm {l k : List Du} (h : Wis k) (p : l.Perm k) : Wis l := fun d hd => h d (p.mem_iff.1 hd)
theorem wis_nM (τ : Nat → Nat) {N i : Nat} (hN : N ≤ 100) : Wis (nM τ N i) := fun d hd => wis_nL τ hN d (List.mem_of_mem_drop hd)
/-- append(v, d) at a row of one's own, d just made. -/
theorem app_due {w x : World} {v : Value} {l : List Du} (d : Du) (h : NewD w x v l) (hg : Grw w x) (hb : l.length ≤ 1000000) :
    ∃ v' w', (Builtin.append_ #[22, 22] 22 #[v, .slice (some ⟨x.heap.size, 0, none⟩) 1 1]).run Try.prog (x.alloc (.cells #[.int .i64 d.id, .int .u64 (d.t : Nat)] 25)) = .ok v' w' ∧ NewD w w' v' (l ++ [d]) ∧ Grw w w' ∧
      (∀ u k, NewD w x u k → (∀ q, v.ownBlock = some q → u.ownBlock ≠ some q) → NewD w w' u k) ∧ (∀ q, v'.ownBlock = some q → v.ownBlock = some q ∨ x.heap.size ≤ q) := by
  obtain ⟨i0, hi, hz0, hz1, hz2⟩ := info_parts Try.info25
  have g : Grw x (x.alloc (.cells #[.int .i64 d.id, .int .u64 (d.t : Nat)] 25)) := (Grw.rfl' x).alloc _
  have ho' : ((x.alloc (.cells #[.int .i64 d.id, .int .u64 (d.t : Nat)] 25))).ownsRow 0 25 2 v l.length (cd l) := base_down (h.later g)
  obtain ⟨v', w', h1, h2, h3, h4⟩ := run_append_mine (P := Try.prog) ((x.alloc (.cells #[.int .i64 d.id, .int .u64 (d.t : Nat)] 25))) 22 22 25 i0 _ 2 16 Try.underlying22 hi hz0 hz1 hz2 rfl (by decide) v l.length (cd l) ho' ⟨x.heap.size, 0, none⟩ 1 1 (cd [d]) (cd_len [d]) (one_due x d) (cd_one [d]) (by unfold maxLen; omega) (by omega)
  have f := grownBy_frm h3
  have hs := Below.size g
  have hown : ∀ q, v'.ownBlock = some q → v.ownBlock = some q ∨ x.heap.size ≤ q := fun q hq => by
    rcases h4 with h4 | h4
    · exact Or.inl (h4 ▸ hq)
    · rw [h4] at hq; injection hq with hq; exact Or.inr (by omega)
  have hgw : Grw w w' := f.grw (hg.trans g) (fun k e => (h.ge e).1)
  refine ⟨v', w', h1, ?_, hgw, fun u k hu hd => ?_, hown⟩
  · refine base_up (by rw [List.length_append, cd_app]; exact h2) (fun k hk => ?_)
    rcases hown k hk with c | c
    · exact (h.ge c).1
    · exact Nat.le_trans (Below.size hg) c
  · exact ownsRow_frm (hu.later g) f (fun q hq e => hd q e hq)
end Go.Proofs.Ytjkhgpdhhnfmlaa
