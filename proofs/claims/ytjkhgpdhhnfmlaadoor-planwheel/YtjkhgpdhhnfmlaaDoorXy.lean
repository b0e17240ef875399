/- A row of truth values of one's own: what was told. -/
import Derived.Test.YtjkhgpdhhnfmlaaDoorXu
import Derived.Laws.OwnMore
namespace Go.Proofs.YtjkhgpdhhnfmlaaDoor
open Go.RowKit

theorem Tryd.info4 : (Tryd.prog.info? 4).map (fun i => (i.zero, i.size, i.bytes)) = some (some (.bool false), 1, 1) := by kernel_rfl
def bl (g : Nat → Bool) (n : Nat) : List Value := (List.range n).map fun k => Value.bool (g k)
theorem bl_at {g : Nat → Bool} {n k : Nat} (h : k < n) : (bl g n)[k]? = some (.bool (g k)) := by simp [bl, h]
theorem bl_none (n : Nat) (g : Nat → Bool) (h : ∀ k, k < n → g k = false) : bl g n = List.replicate n (.bool false) := by
  refine List.ext_getElem? fun k => ?_
  by_cases hk : k < n
  · rw [bl_at hk, h k hk, List.getElem?_replicate, if_pos hk]
  · rw [List.getElem?_eq_none (by simp [bl]; omega), List.getElem?_eq_none (by simp; omega)]
structure Told (w : World) (b n : Nat) (g : Nat → Bool) : Prop where
  own : w.ownsRow 0 4 1 (.slice (some ⟨b, 0, none⟩) n n) n (bl g n)
theorem Told.cell {w : World} {b n : Nat} {g : Nat → Bool} (h : Told w b n g) {k : Nat} (hk : k < n) : w.cell? ⟨b, k, none⟩ = some (.bool (g k)) := by
  rw [h.own.cellAt k (by omega), bl_at hk]
theorem Told.fz {w : World} {b n : Nat} {g : Nat → Bool} (h : Told w b n g) (k : Nat) : w.frozen? ⟨b, k, none⟩ = false := h.own.frozenAt k
theorem Told.lt {w : World} {b n : Nat} {g : Nat → Bool} (h : Told w b n g) : b < w.heap.size := (h.own.lt b rfl).2
theorem Told.frm {F : Nat → Prop} {w x : World} {b n : Nat} {g : Nat → Bool} (h : Told w b n g) (f : Frm F w x) (hn : ¬ F b) : Told x b n g :=
  ⟨ownsRow_frm h.own f (fun k hk => by injection hk with hk; rw [← hk]; exact hn)⟩
theorem Told.set {w : World} {b n : Nat} {g g' : Nat → Bool} (h : Told w b n g) (k : Nat) (e : ∀ q, q < n → g' q = if q = k then true else g q) : Told (w.setCell ⟨b, k, none⟩ (.bool true)) b n g' ∧ Frm (fun q => q = b) w (w.setCell ⟨b, k, none⟩ (.bool true)) := by
  obtain ⟨h1, h2⟩ := h.own.stored k (.bool true)
  have hs : (bl g n).set k (.bool true) = bl g' n := by
    refine List.ext_getElem? fun q => ?_
    by_cases hq : q < n
    · rw [bl_at hq, e q hq, List.getElem?_set]
      by_cases c : k = q
      · subst c; simp [bl, hq]
      · rw [if_neg c, bl_at hq, if_neg (fun d => c d.symm)]
    · rw [List.getElem?_eq_none (by simp [bl]; omega), List.getElem?_eq_none (by simp [bl]; omega)]
  rw [hs] at h1
  refine ⟨⟨h1⟩, ?_⟩
  have := grownBy_frm h2
  exact this.mono (fun q hq => by injection hq with hq; exact hq.symm)
theorem advance_F_no (w0 : World) (p now n : Nat) (L : List RG.Du) (F : Nat → Prop) (w : World) (h : MF w0 w p now L F) (hn : n < 2 ^ 64) (hs : ¬ now + n < 2 ^ 64) :
    Calls Tryd.prog 15 #[.pointer (some ⟨p, 0, none⟩), .int .u64 n] w fun e w' => e = .returned (.tuple #[.slice none 0 0, .int .i64 14]) ∧ w = w' := by
  obtain ⟨S, rfl, h4, _⟩ := h
  exact advance_no S now n L w h4 hn hs
theorem now_F (w0 : World) (p now : Nat) (L : List RG.Du) (F : Nat → Prop) (w : World) (h : MF w0 w p now L F) : Calls Tryd.prog 26 #[.pointer (some ⟨p, 0, none⟩)] w fun e w' => e = .returned (.int .u64 (now : Nat)) ∧ w = w' := by
  obtain ⟨S, rfl, h4, _⟩ := h
  exact now_W S now L w h4
end Go.Proofs.YtjkhgpdhhnfmlaaDoor
