/- A row of truth values of one's own; what LeaseOver keeps of who is gone. -/
import Derived.Test.YtoejmopppkjaoaaOe
import Derived.Test.YtoejmopppkjaoaaOi
import Derived.Laws.OwnMore
namespace Go.Proofs.Ytoejmopppkjaoaa
open Go.RowKit

theorem Try.info4 : (Try.prog.info? 4).map (fun i => (i.zero, i.size, i.bytes)) = some (some (.bool false), 1, 1) := by kernel_rfl
def bl (g : Nat → Bool) (n : Nat) : List Value := (List.range n).map fun k => Value.bool (g k)
theorem bl_at {g : Nat → Bool} {n k : Nat} (h : k < n) : (bl g n)[k]? = some (.bool (g k)) := by simp [bl, h]
theorem bl_none (n : Nat) (g : Nat → Bool) (h : ∀ k, k < n → g k = false) : bl g n = List.replicate n (.bool false) := by
  refine List.ext_getElem? fun k => ?_
  by_cases hk : k < n
  · rw [bl_at hk, h k hk, List.getElem?_replicate, if_pos hk]
  · rw [List.getElem?_eq_none (by simp [bl]; omega), List.getElem?_eq_none (by simp; omega)]
structure BR (w : World) (b n : Nat) (g : Nat → Bool) : Prop where
  own : w.ownsRow 0 4 1 (.slice (some ⟨b, 0, none⟩) n n) n (bl g n)
theorem BR.cell {w : World} {b n : Nat} {g : Nat → Bool} (h : BR w b n g) {k : Nat} (hk : k < n) : w.cell? ⟨b, k, none⟩ = some (.bool (g k)) := by
  rw [h.own.cellAt k (by omega), bl_at hk]
theorem BR.fz {w : World} {b n : Nat} {g : Nat → Bool} (h : BR w b n g) (k : Nat) : w.frozen? ⟨b, k, none⟩ = false := h.own.frozenAt k
theorem BR.lt {w : World} {b n : Nat} {g : Nat → Bool} (h : BR w b n g) : b < w.heap.size := (h.own.lt b rfl).2
theorem BR.frm {F : Nat → Prop} {w x : World} {b n : Nat} {g : Nat → Bool} (h : BR w b n g) (f : Frm F w x) (hn : ¬ F b) : BR x b n g :=
  ⟨ownsRow_frm h.own f (fun k hk => by injection hk with hk; rw [← hk]; exact hn)⟩
theorem BR.set {w : World} {b n : Nat} {g g' : Nat → Bool} (h : BR w b n g) (k : Nat) (e : ∀ q, q < n → g' q = if q = k then true else g q) : BR (w.setCell ⟨b, k, none⟩ (.bool true)) b n g' ∧ Frm (fun q => q = b) w (w.setCell ⟨b, k, none⟩ (.bool true)) := by
  obtain ⟨h1, h2⟩ := h.own.stored k (.bool true)
  have hs : (bl g n).set k (.bool true) = bl g' n := by
    refine List.ext_getElem? fun q => ?_
    by_cases hq : q < n
    · rw [bl_at hq, e q hq, List.getElem?_set]
      by_cases c : k = q
      · subst c; simp [bl, hq]
      · rw [if_neg c, bl_at hq, if_neg (fun d => c d.symm)]
    · rw [List.getElem?_eq_none (by simp [bl]; omega), List.getElem?_eq_none (by simp [bl]; omega)]
  rw [hs] at h1
  refine ⟨⟨h1⟩, ?_⟩
  have := grownBy_frm h2
  exact this.mono (fun q hq => by injection hq with hq; exact hq.symm)
/-- the n-th lease. -/
def at1 (us : List Nat) (n : Nat) : Gr := ⟨(n + 1 : Nat), 100 + (n : Int), us.getD n 0⟩
def alls (us : List Nat) (k : Nat) : List Gr := (List.range k).map (at1 us)
theorem alls_succ (us : List Nat) (k : Nat) : alls us (k + 1) = alls us k ++ [at1 us k] := by unfold alls; rw [List.range_succ, List.map_append]; rfl
theorem alls_len (us : List Nat) (k : Nat) : (alls us k).length = k := by unfold alls; simp
theorem mem_alls {us : List Nat} {k : Nat} {g : Gr} : g ∈ alls us k ↔ ∃ n, n < k ∧ g = at1 us n := by
  unfold alls
  rw [List.mem_map]
  constructor
  · rintro ⟨n, hn, rfl⟩; exact ⟨n, List.mem_range.1 hn, rfl⟩
  · rintro ⟨n, hn, rfl⟩; exact ⟨n, List.mem_range.2 hn, rfl⟩
theorem at1_inj {us : List Nat} {n m : Nat} (h : at1 us n = at1 us m) : n = m := by
  unfold at1 at h
  injection h with h1 _ _
  omega
/-- f: who is gone; L: who is left. -/
structure GI (us : List Nat) (f : Nat → Bool) (L : List Gr) : Prop where
  mem : ∀ n, n < us.length → (at1 us n ∈ L ↔ f n = false)
  sub : ∀ g ∈ L, ∃ n, n < us.length ∧ g = at1 us n
theorem GI.start (us : List Nat) (f : Nat → Bool) (hf : ∀ n, n < us.length → f n = false) : GI us f (alls us us.length) :=
  ⟨fun n hn => ⟨fun _ => hf n hn, fun _ => mem_alls.2 ⟨n, hn, rfl⟩⟩, fun _ hg => mem_alls.1 hg⟩
/-- those of l's first k are gone too. -/
def fk (us : List Nat) (f : Nat → Bool) (l : List Gr) (k : Nat) (n : Nat) : Bool := f n || decide (at1 us n ∈ l.take k)
theorem fk_zero (us : List Nat) (f : Nat → Bool) (l : List Gr) (n : Nat) : fk us f l 0 n = f n := by unfold fk; simp
theorem fk_step {us : List Nat} {f : Nat → Bool} {l : List Gr} {k m : Nat} (hk : k < l.length) (hm : l[k] = at1 us m) (n : Nat) : fk us f l (k + 1) n = if n = m then true else fk us f l k n := by
  unfold fk
  rw [← List.take_append_getElem hk, hm]
  by_cases e : n = m
  · subst e; simp
  · rw [if_neg e]
    have : at1 us n ≠ at1 us m := fun c => e (at1_inj c)
    simp [this]
theorem GI.lf {us : List Nat} {f : Nat → Bool} {L : List Gr} (h : GI us f L) (t : Nat) : GI us (fk us f (ov t L) (ov t L).length) (lf t L) := by
  refine ⟨fun n hn => ?_, fun g hg => h.sub g (mem_lf.1 hg).1⟩
  unfold fk
  rw [List.take_length, mem_lf]
  have h1 := h.mem n hn
  have h2 : at1 us n ∈ ov t L ↔ at1 us n ∈ L ∧ (at1 us n).u ≤ t := mem_ov
  rw [Bool.or_eq_false_iff, decide_eq_false_iff_not, h2, ← h1]
  constructor
  · rintro ⟨a, b⟩; exact ⟨a, fun c => by omega⟩
  · rintro ⟨a, b⟩; exact ⟨a, by rcases Nat.lt_or_ge t (at1 us n).u with c | c; exact c; exact absurd ⟨a, c⟩ b⟩
/-- what is told is one of those that are left, and was not told yet. -/
theorem GI.told {us : List Nat} {f : Nat → Bool} {L : List Gr} (h : GI us f L) {last : Nat} (ok : Ok last L) (t : Nat) {k : Nat} (hk : k < (ov t L).length) : ∃ m, m < us.length ∧ (ov t L)[k] = at1 us m ∧ fk us f (ov t L) k m = false ∧ us.getD m 0 ≤ t := by
  obtain ⟨hm, hu⟩ := mem_ov.1 (List.getElem_mem hk)
  obtain ⟨m, hm1, hm2⟩ := h.sub _ hm
  refine ⟨m, hm1, hm2, ?_, by rw [hm2] at hu; exact hu⟩
  unfold fk
  rw [Bool.or_eq_false_iff, decide_eq_false_iff_not]
  rw [hm2] at hm
  refine ⟨(h.mem m hm1).1 hm, fun c => ?_⟩
  have nd : (ov t L).Nodup := ((srtG_perm _).nodup_iff).2 (ns_nodup (ok.ns.sublist List.filter_sublist))
  rw [← hm2] at c
  obtain ⟨i, hi, e⟩ := List.mem_iff_getElem.1 c
  rw [List.length_take] at hi
  rw [List.getElem_take] at e
  have := (List.getElem_inj nd).1 e
  omega
theorem ov_pw {L : List Gr} {last : Nat} (ok : Ok last L) (t : Nat) {k : Nat} (hk : k + 1 < (ov t L).length) : lt ((ov t L)[k]'(by omega)) (ov t L)[k + 1] := by
  have h : (ov t L).Pairwise lt := srtG_pw (ok.asc.sublist List.filter_sublist)
  exact List.pairwise_iff_getElem.1 h k (k + 1) (by omega) hk (by omega)
/-- is the n-th found? -/
theorem GI.found {us : List Nat} {f : Nat → Bool} {L : List Gr} (h : GI us f L) {last : Nat} (ok : Ok last L) {n : Nat} (hn : n < us.length) : (byN L ((n + 1 : Nat) : Int)).isSome = !f n := by
  rcases e : f n with _ | _
  · have := (h.mem n hn).2 e
    have := byN_of ok this
    have e2 : (at1 us n).n = ((n + 1 : Nat) : Int) := rfl
    rw [e2] at this
    rw [this]; rfl
  · rcases e2 : byN L ((n + 1 : Nat) : Int) with _ | g
    · rfl
    · obtain ⟨hg, hgn⟩ := byN_some e2
      obtain ⟨m, hm, rfl⟩ := h.sub g hg
      have : m = n := by unfold at1 at hgn; simp only at hgn; omega
      subst this
      rw [(h.mem m hm).1 hg] at e
      cases e
end Go.Proofs.Ytoejmopppkjaoaa
