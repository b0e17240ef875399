/- The queue in memory: New, Len, Count, Put. -/
import Derived.Test.YtlopijcpnfkcgaaQQf
namespace Go.Proofs.Ytlopijcpnfkcgaa
namespace QQ
open Go.RowKit
set_option linter.unusedSimpArgs false

/-- the queue at block p: who waits, in the order of coming; in memory they lie as a heap. -/
structure QU (w : World) (p : Nat) (a room count : Int) (v : Value) (L : List Wt) : Prop where
  c0 : w.cell? ⟨p, 0, none⟩ = some (.int .i64 room)
  c1 : w.cell? ⟨p, 1, none⟩ = some (.int .i64 count)
  f1 : w.frozen? ⟨p, 1, none⟩ = false
  line : ∃ l, LV p 2 a v w l ∧ l.Perm L ∧ Hp a l l.length
  ids : (L.map Wt.id).Nodup
  len : L.length ≤ 10000
def qf (p : Nat) (v : Value) (k : Nat) : Prop := k = p ∨ v.ownBlock = some k
theorem QU.keep {w x : World} {p : Nat} {a room count : Int} {v : Value} {L : List Wt} (h : QU w p a room count v L) {F : Nat → Prop} (f : Frm F w x) (hf : ∀ k, qf p v k → ¬ F k) : QU x p a room count v L := by
  obtain ⟨l, h1, h2, h3⟩ := h.line
  exact ⟨f.cell h.c0 (hf p (Or.inl rfl)), f.cell h.c1 (hf p (Or.inl rfl)), frz_frm f h.c1 (hf p (Or.inl rfl)) h.f1, ⟨l, h1.keep f (hf p (Or.inl rfl)) (fun g hg => hf g (Or.inr hg)), h2, h3⟩, h.ids, h.len⟩
theorem QU.later {w x : World} {p : Nat} {a room count : Int} {v : Value} {L : List Wt} (h : QU w p a room count v L) (g : Grw w x) : QU x p a room count v L :=
  h.keep (g.frm (fun _ => False)) (fun _ _ e => e)

set_option maxHeartbeats 1000000 in
set_option maxRecDepth 100000 in
theorem new_yes (a room : Int) (w : World) (h1 : 1 ≤ a) (h2 : a ≤ 1000) (h3 : 0 ≤ room) (h4 : room ≤ 1000) :
    Calls Try.prog 22 #[.int .i64 a, .int .i64 room] w fun e w' => e = .returned (.pointer (some ⟨w.heap.size, 0, none⟩)) ∧ QU w' w.heap.size a room 0 (.slice none 0 0) [] ∧ Grw w w' := by
  have d1 : decide (a < 1) = false := by simp; omega
  have d2 : decide (1000 < a) = false := by simp; omega
  have d3 : decide (room < 0) = false := by simp; omega
  have d4 : decide (1000 < room) = false := by simp; omega
  have R : Hid (QU (w.alloc (.cells #[.int .i64 room, .int .i64 0, .int .i64 a, .slice none 0 0] 86)) w.heap.size a room 0 (.slice none 0 0) [] ∧ Grw w (w.alloc (.cells #[.int .i64 room, .int .i64 0, .int .i64 a, .slice none 0 0] 86))) :=
    (⟨⟨by simp [go_sem], by simp [go_sem], by simp [go_sem], ⟨[], ⟨by simp [go_sem], by simp [go_sem], by simp [go_sem], World.ownsRow_nil _ _ _ _, by simp [Value.ownBlock]⟩, List.Perm.refl _, fun k h0 hk => by simp at hk⟩, by simp, by simp⟩, (Grw.rfl' w).alloc _⟩ :
      QU (w.alloc (.cells #[.int .i64 room, .int .i64 0, .int .i64 a, .slice none 0 0] 86)) w.heap.size a room 0 (.slice none 0 0) [] ∧ Grw w (w.alloc (.cells #[.int .i64 room, .int .i64 0, .int .i64 a, .slice none 0 0] 86)))
  clear h1 h2 h3 h4
  go_enter Try.func22, Try.ntmps22
  go_wp2_with fail
  go_ret
  exact ⟨rfl, R.out⟩
set_option maxHeartbeats 1000000 in
set_option maxRecDepth 100000 in
theorem new_no (a room : Int) (w : World) (h : ¬ (1 ≤ a ∧ a ≤ 1000 ∧ 0 ≤ room ∧ room ≤ 1000)) :
    Calls Try.prog 22 #[.int .i64 a, .int .i64 room] w fun e w' => e = .returned (.pointer none) ∧ w = w' := by
  by_cases h1 : a < 1
  · have d1 : decide (a < 1) = true := by simp [h1]
    go_enter Try.func22, Try.ntmps22
    go_wp2_with fail
    go_ret
    exact ⟨rfl, rfl⟩
  · have d1 : decide (a < 1) = false := by simp; omega
    by_cases h2 : 1000 < a
    · have d2 : decide (1000 < a) = true := by simp [h2]
      go_enter Try.func22, Try.ntmps22
      go_wp2_with fail
      go_ret
      exact ⟨rfl, rfl⟩
    · have d2 : decide (1000 < a) = false := by simp; omega
      by_cases h3 : room < 0
      · have d3 : decide (room < 0) = true := by simp [h3]
        go_enter Try.func22, Try.ntmps22
        go_wp2_with fail
        go_ret
        exact ⟨rfl, rfl⟩
      · have d3 : decide (room < 0) = false := by simp; omega
        have d4 : decide (1000 < room) = true := by simp; omega
        clear h h1 h2 h3
        go_enter Try.func22, Try.ntmps22
        go_wp2_with fail
        go_ret
        exact ⟨rfl, rfl⟩
theorem LV.len' {b o : Nat} {a : Int} {v : Value} {W : World} {l : List Wt} (h : LV b o a v W l) {n : Nat} (hn : l.length = n) (q : GW W) :
    Calls Try.prog 37 #[.pointer (some ⟨b, o, none⟩)] q.x fun e w' => e = .returned (.int .i64 n) ∧ q.x = w' :=
  (h.keep (q.h.frm (fun _ => False)) (fun e => e) (fun _ _ e => e)).len hn
set_option maxHeartbeats 1000000 in
set_option maxRecDepth 100000 in
theorem len_is {p : Nat} {a room count : Int} {v : Value} {L : List Wt} {w : World} (h : QU w p a room count v L) {n : Nat} (hn : L.length = n) :
    Calls Try.prog 85 #[.pointer (some ⟨p, 0, none⟩)] w fun e w' => e = .returned (.int .i64 n) ∧ w = w' := by
  obtain ⟨l, h1, h2, _⟩ := h.line
  have C := Lib.hid (h1.len (h2.length_eq.trans hn))
  clear h h1 h2 hn
  go_enter Try.func85, Try.ntmps85
  go_wp2_with fail
  refine C.out.mono ?_
  rintro _ w1 ⟨rfl, rfl⟩
  go_wp2_with fail
  go_ret
  exact ⟨rfl, rfl⟩
set_option maxHeartbeats 1000000 in
set_option maxRecDepth 100000 in
theorem count_is {p : Nat} {a room count : Int} {v : Value} {L : List Wt} {w : World} (h : QU w p a room count v L) :
    Calls Try.prog 35 #[.pointer (some ⟨p, 0, none⟩)] w fun e w' => e = .returned (.int .i64 count) ∧ w = w' := by
  have c := h.c1
  clear h
  go_enter Try.func35, Try.ntmps35
  go_wp2_with fail
  go_ret
  exact ⟨rfl, rfl⟩
end QQ
end Go.Proofs.Ytlopijcpnfkcgaa
