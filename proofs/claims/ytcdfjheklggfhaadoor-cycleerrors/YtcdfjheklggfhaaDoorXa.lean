/- The contracts of cycle.excess and cycle.Good at this program. -/
import Derived.Test.YtcdfjheklggfhaaDoorRows
import Derived.Test.YtcdfjheklggfhaaDoorMf
import Derived.Test.YtcdfjheklggfhaaDoorGrow
import Derived.WalkKit
import Derived.WalkSpells
import Derived.WalkLawsBesides
namespace Go.Proofs.YtcdfjheklggfhaaDoor
open Go.RowKit SM
set_option linter.unusedSimpArgs false

theorem excess_in (n : Int) (x : Nat) (w : World) (h1 : 1 ≤ n) (h2 : n ≤ 1000000) (h3 : 1 ≤ x) (h4 : x ≤ 1125899906842624) :
    Calls Tryd.prog 30 #[.agg #[.int .i64 n, .int .u64 x]] w fun e w' => e = .returned (.agg #[.int .i64 0, .int .u64 0]) ∧ Grw w w' := by
  go_enter Tryd.func30, Tryd.ntmps30
  go_wp2_with fail
  exact bodyPost_ret (v := .agg #[.int .i64 0, .int .u64 0]) (by simp [results, Tryd.results30, go_sem]) rfl ⟨rfl, ((Grw.rfl' _).alloc _).alloc _⟩

theorem wr1 : wrap64 (-9223372036854775809) = 9223372036854775807 := by decide +kernel
theorem wr2 : IntKind.u64.wrap (-1) = 18446744073709551615 := by decide
theorem post_pair {w w' : World} {o p : Obj} {a b : Int} (h : ¬ (a = 0 ∧ b = 0)) (hw : w' = (w.alloc o).alloc p) :
    ∃ a' b' : Int, Ending.returned (.agg #[.int .i64 a, .int .u64 b]) = .returned (.agg #[.int .i64 a', .int .u64 b']) ∧ ¬ (a' = 0 ∧ b' = 0) ∧ Grw w w' :=
  ⟨a, b, rfl, h, by rw [hw]; exact ((Grw.rfl' _).alloc _).alloc _⟩

set_option maxHeartbeats 1000000 in
theorem excess_out (n : Int) (x : Nat) (w : World) (h0 : -9223372036854775808 ≤ n) (h5 : n ≤ 9223372036854775807) (h6 : x < 18446744073709551616) (h : ¬ (1 ≤ n ∧ n ≤ 1000000 ∧ 1 ≤ x ∧ x ≤ 1125899906842624)) :
    Calls Tryd.prog 30 #[.agg #[.int .i64 n, .int .u64 x]] w fun e w' => ∃ a b : Int, e = .returned (.agg #[.int .i64 a, .int .u64 b]) ∧ ¬ (a = 0 ∧ b = 0) ∧ Grw w w' := by
  have hn : n = -9223372036854775808 ∨ (-9223372036854775808 < n ∧ n < 1) ∨ (1 ≤ n ∧ n ≤ 1000000) ∨ 1000000 < n := by omega
  have hx : x = 0 ∨ (1 ≤ x ∧ x ≤ 1125899906842624) ∨ 1125899906842624 < x := by omega
  rcases hn with hn | ⟨hn, hn'⟩ | ⟨hn, hn'⟩ | hn
  · subst hn
    rcases hx with hx | ⟨hx, hx'⟩ | hx
    · subst hx
      clear h
      go_enter Tryd.func30, Tryd.ntmps30
      go_wp2_with fail
      exact bodyPost_ret (v := .agg #[.int .i64 9223372036854775807, .int .u64 18446744073709551615]) (by simp [results, Tryd.results30, go_sem, wr1, wr2]) rfl (post_pair (fun g => by omega) rfl)
    · clear h
      go_enter Tryd.func30, Tryd.ntmps30
      go_wp2_with fail
      exact bodyPost_ret (v := .agg #[.int .i64 9223372036854775807, .int .u64 0]) (by simp [results, Tryd.results30, go_sem, wr1, wr2]) rfl (post_pair (fun g => by omega) rfl)
    · clear h
      go_enter Tryd.func30, Tryd.ntmps30
      go_wp2_with fail
      exact bodyPost_ret (v := .agg #[.int .i64 9223372036854775807, .int .u64 ((x : Int) - 1125899906842624)]) (by simp [results, Tryd.results30, go_sem, wr1, wr2]) rfl (post_pair (fun g => by omega) rfl)
  · rcases hx with hx | ⟨hx, hx'⟩ | hx
    · subst hx
      clear h
      go_enter Tryd.func30, Tryd.ntmps30
      go_wp2_with fail
      exact bodyPost_ret (v := .agg #[.int .i64 (n - 1), .int .u64 18446744073709551615]) (by simp [results, Tryd.results30, go_sem, wr1, wr2]) rfl (post_pair (fun g => by omega) rfl)
    · clear h
      go_enter Tryd.func30, Tryd.ntmps30
      go_wp2_with fail
      exact bodyPost_ret (v := .agg #[.int .i64 (n - 1), .int .u64 0]) (by simp [results, Tryd.results30, go_sem, wr1, wr2]) rfl (post_pair (fun g => by omega) rfl)
    · clear h
      go_enter Tryd.func30, Tryd.ntmps30
      go_wp2_with fail
      exact bodyPost_ret (v := .agg #[.int .i64 (n - 1), .int .u64 ((x : Int) - 1125899906842624)]) (by simp [results, Tryd.results30, go_sem, wr1, wr2]) rfl (post_pair (fun g => by omega) rfl)
  · rcases hx with hx | ⟨hx, hx'⟩ | hx
    · subst hx
      clear h
      go_enter Tryd.func30, Tryd.ntmps30
      go_wp2_with fail
      exact bodyPost_ret (v := .agg #[.int .i64 0, .int .u64 18446744073709551615]) (by simp [results, Tryd.results30, go_sem, wr1, wr2]) rfl (post_pair (fun g => by omega) rfl)
    · exact absurd ⟨hn, hn', hx, hx'⟩ h
    · clear h
      go_enter Tryd.func30, Tryd.ntmps30
      go_wp2_with fail
      exact bodyPost_ret (v := .agg #[.int .i64 0, .int .u64 ((x : Int) - 1125899906842624)]) (by simp [results, Tryd.results30, go_sem, wr1, wr2]) rfl (post_pair (fun g => by omega) rfl)
  · rcases hx with hx | ⟨hx, hx'⟩ | hx
    · subst hx
      clear h
      go_enter Tryd.func30, Tryd.ntmps30
      go_wp2_with fail
      exact bodyPost_ret (v := .agg #[.int .i64 (n - 1000000), .int .u64 18446744073709551615]) (by simp [results, Tryd.results30, go_sem, wr1, wr2]) rfl (post_pair (fun g => by omega) rfl)
    · clear h
      go_enter Tryd.func30, Tryd.ntmps30
      go_wp2_with fail
      exact bodyPost_ret (v := .agg #[.int .i64 (n - 1000000), .int .u64 0]) (by simp [results, Tryd.results30, go_sem, wr1, wr2]) rfl (post_pair (fun g => by omega) rfl)
    · clear h
      go_enter Tryd.func30, Tryd.ntmps30
      go_wp2_with fail
      exact bodyPost_ret (v := .agg #[.int .i64 (n - 1000000), .int .u64 ((x : Int) - 1125899906842624)]) (by simp [results, Tryd.results30, go_sem, wr1, wr2]) rfl ⟨_, _, rfl, fun g => by omega, ((Grw.rfl' _).alloc _).alloc _⟩

/-- may it be? -/
def goodB (n : Int) (x : Nat) : Bool := decide (1 ≤ n ∧ n ≤ 1000000 ∧ 1 ≤ x ∧ x ≤ 1125899906842624)

theorem good_yes (n : Int) (x : Nat) (w : World) (h1 : 1 ≤ n) (h2 : n ≤ 1000000) (h3 : 1 ≤ x) (h4 : x ≤ 1125899906842624) :
    Calls Tryd.prog 13 #[.agg #[.int .i64 n, .int .u64 x]] w fun e w' => e = .returned (.bool true) ∧ Grw w w' := by
  have E := Lib.hid (fun w => excess_in n x w h1 h2 h3 h4)
  go_enter Tryd.func13, Tryd.ntmps13
  go_wp2_with fail
  refine (E.out _).mono ?_
  rintro _ w1 ⟨rfl, hw1⟩
  go_wp2_with fail
  go_ret
  exact ⟨rfl, ((Grw.rfl' _).alloc _).trans hw1⟩

theorem good_no (n : Int) (x : Nat) (w : World) (h0 : -9223372036854775808 ≤ n) (h5 : n ≤ 9223372036854775807) (h6 : x < 18446744073709551616) (h : ¬ (1 ≤ n ∧ n ≤ 1000000 ∧ 1 ≤ x ∧ x ≤ 1125899906842624)) :
    Calls Tryd.prog 13 #[.agg #[.int .i64 n, .int .u64 x]] w fun e w' => e = .returned (.bool false) ∧ Grw w w' := by
  have E := Lib.hid (fun w => excess_out n x w h0 h5 h6 h)
  clear h
  go_enter Tryd.func13, Tryd.ntmps13
  go_wp2_with fail
  refine (E.out _).mono ?_
  rintro _ w1 ⟨a, b, rfl, hab, hw1⟩
  have G := ((Grw.rfl' w).alloc (Obj.cells #[Value.int IntKind.i64 n, Value.int IntKind.u64 x] 25)).trans hw1
  clear hw1
  by_cases ha : a = 0
  · have hb' : (b == 0) = false := by simpa using fun hb => hab ⟨ha, hb⟩
    subst ha
    clear hab
    go_wp2_with fail
    go_ret
    exact ⟨rfl, G⟩
  · have ha' : (a == 0) = false := by simpa using ha
    clear hab ha
    go_wp2_with fail
    go_ret
    exact ⟨rfl, G⟩

theorem good_any (n : Int) (x : Nat) (w : World) (h0 : -9223372036854775808 ≤ n) (h5 : n ≤ 9223372036854775807) (h6 : x < 18446744073709551616) :
    Calls Tryd.prog 13 #[.agg #[.int .i64 n, .int .u64 x]] w fun e w' => e = .returned (.bool (goodB n x)) ∧ Grw w w' := by
  by_cases h : 1 ≤ n ∧ n ≤ 1000000 ∧ 1 ≤ x ∧ x ≤ 1125899906842624
  · have e : goodB n x = true := decide_eq_true h
    rw [e]; exact good_yes n x w h.1 h.2.1 h.2.2.1 h.2.2.2
  · have e : goodB n x = false := decide_eq_false h
    rw [e]; exact good_no n x w h0 h5 h6 h
end Go.Proofs.YtcdfjheklggfhaaDoor
