/- The document's queue: Put. -/
import Derived.Test.YtdindhmbofddoaaDa
namespace Go.Proofs.Ytdindhmbofddoaa
open Go.RowKit
set_option linter.unusedSimpArgs false

set_option maxHeartbeats 1000000 in
set_option maxRecDepth 100000 in
theorem rput_bad {r : Nat} {w : World} (id cl : Int) (h : ¬ (0 ≤ cl ∧ cl < 8)) :
    Calls Try.prog 13 #[.pointer (some ⟨r, 0, none⟩), .int .i64 id, .int .i64 cl] w fun e w' => e = .returned (.int .i64 1) ∧ w = w' := by
  rcases (show cl < 0 ∨ 8 ≤ cl by omega) with c | c
  · have d1 : decide (cl < 0) = true := by simp; omega
    clear h c
    go_enter Try.func13, Try.ntmps13
    go_wp2_with fail
    go_ret
    exact ⟨rfl, rfl⟩
  · have d1 : decide (cl < 0) = false := by simp; omega
    have d2 : decide (8 ≤ cl) = true := by simp; omega
    clear h c
    go_enter Try.func13, Try.ntmps13
    go_wp2_with fail
    go_ret
    exact ⟨rfl, rfl⟩
set_option maxHeartbeats 1000000 in
set_option maxRecDepth 100000 in
theorem rput_twice {r : Nat} {a room count : Int} {v : Value} {L : List Wt} {w : World} (h : RQ w r a room count v L) (id cl : Int) (h1 : 0 ≤ cl) (h2 : cl < 8) (ht : ∃ j, j < L.length ∧ (gt L j).id = id) :
    Calls Try.prog 13 #[.pointer (some ⟨r, 0, none⟩), .int .i64 id, .int .i64 cl] w fun e w' => e = .returned (.int .i64 8) ∧ Grw w w' := by
  have C := Lib.hid (rfind_is h id)
  have HT := Lib.hid ht
  have d1 : decide (cl < 0) = false := by simp; omega
  have d2 : decide (8 ≤ cl) = false := by simp; omega
  clear h ht h1 h2
  go_enter Try.func13, Try.ntmps13
  go_wp2_with fail
  refine C.out.mono ?_
  rintro _ w1 ⟨k, rfl, hat, hg⟩
  have hk : 0 ≤ k := by
    rcases hat with ⟨j, _, e, _⟩ | ⟨_, hn⟩
    · omega
    · obtain ⟨j, hj, e⟩ := HT.out
      exact absurd e (hn j hj)
  have d3 : decide (0 ≤ k) = true := by simp [hk]
  have G := Lib.hid hg
  clear hat hk hg
  go_wp2_with fail
  go_ret
  exact ⟨rfl, G.out⟩
set_option maxHeartbeats 1000000 in
set_option maxRecDepth 100000 in
theorem rput_full {r : Nat} {a room count : Int} {v : Value} {L : List Wt} {w : World} (h : RQ w r a room count v L) (id cl : Int) (h1 : 0 ≤ cl) (h2 : cl < 8) (ht : ∀ j, j < L.length → (gt L j).id ≠ id) (hf : room ≤ L.length) :
    Calls Try.prog 13 #[.pointer (some ⟨r, 0, none⟩), .int .i64 id, .int .i64 cl] w fun e w' => e = .returned (.int .i64 10) ∧ Grw w w' := by
  have C := Lib.hid (rfind_is h id)
  obtain ⟨ao, cap, hv, _⟩ := ownsRow_lies h.row
  subst hv
  have HT := Lib.hid ht
  have d1 : decide (cl < 0) = false := by simp; omega
  have d2 : decide (8 ≤ cl) = false := by simp; omega
  have H := Lib.hid h
  obtain ⟨n, hn⟩ : ∃ n, L.length = n := ⟨_, rfl⟩
  have d4 : decide (room ≤ (n : Int)) = true := by simp; omega
  have HN := Lib.hid hn
  clear h ht h1 h2 hf hn
  go_enter Try.func13, Try.ntmps13
  go_wp2_with fail
  refine C.out.mono ?_
  rintro _ w1 ⟨k, rfl, hat, hg⟩
  have hk : k = -1 := by
    rcases hat with ⟨j, hj, e, e'⟩ | ⟨e, _⟩
    · exact absurd e' (HT.out j hj)
    · exact e
  subst hk
  have G := Lib.hid hg
  have c1 := gw_cell (H.out.later hg).c1
  have c3 := gw_cell (H.out.later hg).c3
  rw [HN.out] at c3
  clear hat hg
  go_wp2_with fail
  refine wp_region_grown (by kernel_rfl) (by kernel_rfl) ?_
  repeat (go_big_quiet_step (fail))
  refine wpQuiet_nil ?_
  rintro _ ⟨q, rfl⟩
  have GQ := Lib.hid (G.out.trans q.h)
  clear c1 c3
  go_wp2_with fail
  go_ret
  exact ⟨rfl, GQ.out⟩
end Go.Proofs.Ytdindhmbofddoaa
