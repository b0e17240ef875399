/- Rows of waiting jobs of one's own that grow; pairs of numbers that came in; truth values of one's own. -/
import Derived.Test.YtffoaldfklcfgaaWc
import Derived.OwnWalk
import Derived.Laws.OwnMore
namespace Go.Proofs.Ytffoaldfklcfgaa
open Go.RowKit
set_option linter.unusedSimpArgs false

theorem Try.info24 : (Try.prog.info? 24).map (fun i => (i.zero, i.size, i.bytes)) = some (some (.agg #[.int .i64 0, .int .i64 0, .int .i64 0]), 3, 24) := by kernel_rfl
theorem Try.info4 : (Try.prog.info? 4).map (fun i => (i.zero, i.size, i.bytes)) = some (some (.bool false), 1, 1) := by kernel_rfl
theorem blk_cells {w : World} {g : Nat} {xs : List Value} {t : TypeId} (h : w.heap[g]? = some (.cells xs.toArray t (0, 0))) : ∀ j u, xs[j]? = some u → w.cell? ((⟨g, 0, none⟩ : Addr).add j) = some u := by
  intro j u hj
  rw [Addr.add_lit, Nat.zero_add]
  simp [World.cell?, h, hj]
theorem one_wt (w : World) (d : Wt) : ∀ (j : Nat) (u : Value), (cw [d])[j]? = some u → (w.alloc (.cells #[.int .i64 d.id, .int .i64 d.cl, .int .i64 d.ca] 24)).cell? ((⟨w.heap.size, 0, none⟩ : Addr).add j) = some u :=
  blk_cells (xs := cw [d]) (t := 24) (heap_alloc_new w _)
/-- pairs of numbers of a kind, cell by cell. -/
def cp (k : IntKind) : List (Nat × Nat) → List Value
  | [] => []
  | d :: l => .int k (d.1 : Nat) :: .int k (d.2 : Nat) :: cp k l
theorem cp_len (k : IntKind) (l : List (Nat × Nat)) : (cp k l).length = l.length * 2 := by
  induction l with
  | nil => rfl
  | cons d l ih => simp only [cp, List.length_cons, ih]; omega
theorem cp_0 (k : IntKind) (l : List (Nat × Nat)) (j : Nat) (h : j < l.length) : (cp k l)[j * 2]? = some (.int k (l[j].1 : Nat)) := by
  induction l generalizing j with
  | nil => simp at h
  | cons d l ih =>
    cases j with
    | zero => rfl
    | succ j => rw [show (j + 1) * 2 = j * 2 + 1 + 1 by omega]; simp only [cp, List.getElem?_cons_succ, List.getElem_cons_succ]; exact ih j (by simpa using h)
theorem cp_1 (k : IntKind) (l : List (Nat × Nat)) (j : Nat) (h : j < l.length) : (cp k l)[j * 2 + 1]? = some (.int k (l[j].2 : Nat)) := by
  induction l generalizing j with
  | nil => simp at h
  | cons d l ih =>
    cases j with
    | zero => rfl
    | succ j => rw [show (j + 1) * 2 + 1 = (j * 2 + 1) + 1 + 1 by omega]; simp only [cp, List.getElem?_cons_succ, List.getElem_cons_succ]; exact ih j (by simpa using h)
theorem plies_at {w : World} {ao : Option Addr} {k : IntKind} {l : List (Nat × Nat)} (h : Lies w ao (cp k l)) {j : Nat} (hj : j < l.length) :
    ∃ b off, ao = some ⟨b, off, none⟩ ∧ w.cell? ⟨b, off + j * 2, none⟩ = some (.int k (l[j].1 : Nat)) ∧ w.cell? ⟨b, off + j * 2 + 1, none⟩ = some (.int k (l[j].2 : Nat)) := by
  rcases h with h | ⟨b, off, e, _, hc⟩
  · have := cp_len k l
    rw [h] at this
    simp at this
    omega
  · refine ⟨b, off, e, hc _ _ (cp_0 k l j hj), ?_⟩
    have := hc _ _ (cp_1 k l j hj)
    rwa [← Nat.add_assoc] at this
/-- behind an append to a row of one's own: nothing that was there has turned. -/
theorem grown_own {w0 w x : World} {v : Value} {n : Nat} {xs : List Value} (h : w.ownsRow w0.heap.size 24 3 v n xs) (g : Grw w0 w) (hg : w.grownBy x v.ownBlock) : Grw w0 x :=
  (grownBy_frm hg).grw g (fun k hk => (World.ownsRow.lt h k hk).1)
theorem own_later {w x : World} {B : Nat} {v : Value} {n : Nat} {xs : List Value} (h : w.ownsRow B 24 3 v n xs) (g : Grw w x) : x.ownsRow B 24 3 v n xs :=
  ownsRow_frm h (g.frm (fun _ => False)) (fun _ _ e => e)
/-- jobs out of pairs. -/
def jobs : Nat → List (Nat × Nat) → List Wt
  | _, [] => []
  | s, d :: l => ⟨(s : Int), (d.1 : Int) % 8, (d.2 : Int)⟩ :: jobs (s + 1) l
theorem jobs_len (s : Nat) (l : List (Nat × Nat)) : (jobs s l).length = l.length := by
  induction l generalizing s with
  | nil => rfl
  | cons d l ih => simp only [jobs, List.length_cons, ih]
theorem jobs_at (s : Nat) (l : List (Nat × Nat)) (j : Nat) (h : j < l.length) (h' : j < (jobs s l).length) : (jobs s l)[j] = ⟨((s + j : Nat) : Int), (l[j].1 : Int) % 8, (l[j].2 : Int)⟩ := by
  induction l generalizing s j with
  | nil => simp at h
  | cons d l ih =>
    cases j with
    | zero => rfl
    | succ j =>
      have := ih (s + 1) j (by simpa using h) (by simpa [jobs] using h')
      simp only [jobs, List.getElem_cons_succ]
      rw [this]
      congr 1
      congr 1
      omega
/-! ### truth values of one's own -/
def bl (g : Nat → Bool) (n : Nat) : List Value := (List.range n).map fun k => Value.bool (g k)
theorem bl_at {g : Nat → Bool} {n k : Nat} (h : k < n) : (bl g n)[k]? = some (.bool (g k)) := by simp [bl, h]
theorem bl_none (n : Nat) (g : Nat → Bool) (h : ∀ k, k < n → g k = false) : bl g n = List.replicate n (.bool false) := by
  refine List.ext_getElem? fun k => ?_
  by_cases hk : k < n
  · rw [bl_at hk, h k hk, List.getElem?_replicate, if_pos hk]
  · rw [List.getElem?_eq_none (by simp [bl]; omega), List.getElem?_eq_none (by simp; omega)]
structure Told (w : World) (b n : Nat) (g : Nat → Bool) : Prop where
  own : w.ownsRow 0 4 1 (.slice (some ⟨b, 0, none⟩) n n) n (bl g n)
theorem Told.cell {w : World} {b n : Nat} {g : Nat → Bool} (h : Told w b n g) {k : Nat} (hk : k < n) : w.cell? ⟨b, k, none⟩ = some (.bool (g k)) := by
  rw [h.own.cellAt k (by omega), bl_at hk]
theorem Told.fz {w : World} {b n : Nat} {g : Nat → Bool} (h : Told w b n g) (k : Nat) : w.frozen? ⟨b, k, none⟩ = false := h.own.frozenAt k
theorem Told.lt {w : World} {b n : Nat} {g : Nat → Bool} (h : Told w b n g) : b < w.heap.size := (h.own.lt b rfl).2
theorem Told.frm {F : Nat → Prop} {w x : World} {b n : Nat} {g : Nat → Bool} (h : Told w b n g) (f : Frm F w x) (hn : ¬ F b) : Told x b n g :=
  ⟨ownsRow_frm h.own f (fun k hk => by injection hk with hk; rw [← hk]; exact hn)⟩
theorem Told.set {w : World} {b n : Nat} {g g' : Nat → Bool} (h : Told w b n g) (k : Nat) (e : ∀ q, q < n → g' q = if q = k then true else g q) : Told (w.setCell ⟨b, k, none⟩ (.bool true)) b n g' ∧ Frm (fun q => q = b) w (w.setCell ⟨b, k, none⟩ (.bool true)) := by
  obtain ⟨h1, h2⟩ := h.own.stored k (.bool true)
  have hs : (bl g n).set k (.bool true) = bl g' n := by
    refine List.ext_getElem? fun q => ?_
    by_cases hq : q < n
    · rw [bl_at hq, e q hq, List.getElem?_set]
      by_cases c : k = q
      · subst c; simp [bl, hq]
      · rw [if_neg c, bl_at hq, if_neg (fun d => c d.symm)]
    · rw [List.getElem?_eq_none (by simp [bl]; omega), List.getElem?_eq_none (by simp [bl]; omega)]
  rw [hs] at h1
  refine ⟨⟨h1⟩, ?_⟩
  have := grownBy_frm h2
  exact this.mono (fun q hq => by injection hq with hq; exact hq.symm)
/-- which numbers ahead were seen among the first i. -/
def sn (a : Int) (L : List Wt) (i q : Nat) : Bool := decide (q ∈ (L.take i).map fun x => ahd a x L)
theorem sn_zero (a : Int) (L : List Wt) (q : Nat) : sn a L 0 q = false := by simp [sn]
theorem sn_succ (a : Int) (L : List Wt) {i : Nat} (h : i < L.length) {m : Nat} (hm : ahd a L[i] L = m) (q : Nat) : sn a L (i + 1) q = if q = m then true else sn a L i q := by
  unfold sn
  rw [List.take_succ_eq_append_getElem h, List.map_append, List.map_singleton, hm]
  by_cases e : q = m
  · simp [e]
  · simp [e]
theorem sn_new (a : Int) (L : List Wt) {i : Nat} (h : i < L.length) (hid : ∀ j k (hj : j < L.length) (hk : k < L.length), j ≠ k → L[j].id ≠ L[k].id) : sn a L i (ahd a L[i] L) = false := by
  unfold sn
  rw [decide_eq_false_iff_not]
  intro hmem
  obtain ⟨x, hx, e⟩ := List.mem_map.1 hmem
  obtain ⟨j, hj, rfl⟩ := List.getElem_of_mem hx
  have hj' : j < i := by simp at hj; omega
  rw [List.getElem_take] at e
  exact ahd_inj (a := a) (List.getElem_mem (by omega : j < L.length)) (List.getElem_mem h) (hid j i (by omega) h (by omega)) e
end Go.Proofs.Ytffoaldfklcfgaa
