/- The contracts of retry.Good, answer, Step and of the document's Good and Step at this program. -/
import Derived.Test.YtlopijcpnfkcgaaProg
import Derived.Test.YtlopijcpnfkcgaaFt
import Derived.Test.YtlopijcpnfkcgaaRRm
import Derived.Deep.MidRow
import Derived.Deep.RegionHeld3
import Derived.Deep.RegionLaw
import Derived.Laws.Externs
import Derived.Shelf.RegionOpenPlain
import Derived.Lib.SliceRun
namespace Go.Proofs.Ytlopijcpnfkcgaa
namespace RE
open Go.RowKit
set_option linter.unusedSimpArgs false

def tv (a b : Int) (c : Bool) : Value := .tuple #[.agg #[.int .i64 a, .int .i64 b], .bool c]
def rv (a b : Int) (c : Bool) : Value := .agg #[.int .i64 a, .int .i64 b, .bool c]
theorem tst {a b : Int} (h : ¬ a = b) : (a == b) = false := by simp [h]

set_option maxHeartbeats 2000000 in
set_option maxRecDepth 100000 in
theorem good_is (n s u : Int) (r : Bool) (w : World) (h : gd n s u = r) :
    Calls Try.prog 49 #[.int .i64 n, .agg #[.int .i64 s, .int .i64 u]] w fun e w' => e = .returned (.bool r) ∧ Grw w w' := by
  by_cases a0 : n < 0
  · have a1 : decide (n < 0) = true := by simp [a0]
    have HR : Hid (r = false) := (by rw [← h]; simp [gd]; omega : r = false)
    clear h
    go_enter Try.func49, Try.ntmps49
    go_wp2_with fail
    go_ret
    exact ⟨by rw [HR.out]; rfl, (Grw.rfl' _).alloc _⟩
  by_cases a9 : 9 < n
  · have a1 : decide (n < 0) = false := by simp; omega
    have a2 : decide (n > 9) = true := by simp; omega
    have HR : Hid (r = false) := (by rw [← h]; simp [gd]; omega : r = false)
    clear h
    go_enter Try.func49, Try.ntmps49
    go_wp2_with fail
    go_ret
    exact ⟨by rw [HR.out]; rfl, (Grw.rfl' _).alloc _⟩
  have b0 : decide (n < 0) = false := by simp; omega
  have b9 : decide (n > 9) = false := by simp; omega
  obtain ⟨m, hm⟩ : ∃ m, n + 1 = m := ⟨_, rfl⟩
  have q : IntKind.i64.wrap (n + 1) = m := by rw [hm]; simp [IntKind.wrap_i64]; omega
  by_cases s1 : s = 1
  · subst s1
    by_cases l0 : 0 ≤ u
    · by_cases l1 : u ≤ n
      · have HR : Hid (r = true) := (by rw [← h, gd_t]; omega : r = true)
        clear h hm
        go_enter Try.func49, Try.ntmps49
        go_wp2_with fail
        go_ret
        exact ⟨by rw [HR.out]; rfl, (Grw.rfl' _).alloc _⟩
      · have HR : Hid (r = false) := (by rw [← h]; simp [gd]; omega : r = false)
        clear h hm
        go_enter Try.func49, Try.ntmps49
        go_wp2_with fail
        go_ret
        exact ⟨by rw [HR.out]; rfl, (Grw.rfl' _).alloc _⟩
    · have HR : Hid (r = false) := (by rw [← h]; simp [gd]; omega : r = false)
      clear h hm
      go_enter Try.func49, Try.ntmps49
      go_wp2_with fail
      go_ret
      exact ⟨by rw [HR.out]; rfl, (Grw.rfl' _).alloc _⟩
  by_cases s3 : s = 3
  · subst s3
    by_cases l0 : 1 ≤ u
    · by_cases l1 : u ≤ n
      · have HR : Hid (r = true) := (by rw [← h, gd_t]; omega : r = true)
        clear h hm
        go_enter Try.func49, Try.ntmps49
        go_wp2_with fail
        go_ret
        exact ⟨by rw [HR.out]; rfl, (Grw.rfl' _).alloc _⟩
      · have HR : Hid (r = false) := (by rw [← h]; simp [gd]; omega : r = false)
        clear h hm
        go_enter Try.func49, Try.ntmps49
        go_wp2_with fail
        go_ret
        exact ⟨by rw [HR.out]; rfl, (Grw.rfl' _).alloc _⟩
    · have HR : Hid (r = false) := (by rw [← h]; simp [gd]; omega : r = false)
      clear h hm
      go_enter Try.func49, Try.ntmps49
      go_wp2_with fail
      go_ret
      exact ⟨by rw [HR.out]; rfl, (Grw.rfl' _).alloc _⟩
  by_cases s2 : s = 2
  · subst s2
    by_cases l0 : 1 ≤ u
    · by_cases l1 : u ≤ m
      · have HR : Hid (r = true) := (by rw [← h, gd_t]; omega : r = true)
        clear h hm
        go_enter Try.func49, Try.ntmps49
        go_wp2_with fail
        go_ret
        exact ⟨by rw [HR.out]; rfl, (Grw.rfl' _).alloc _⟩
      · have HR : Hid (r = false) := (by rw [← h]; simp [gd]; omega : r = false)
        clear h hm
        go_enter Try.func49, Try.ntmps49
        go_wp2_with fail
        go_ret
        exact ⟨by rw [HR.out]; rfl, (Grw.rfl' _).alloc _⟩
    · have HR : Hid (r = false) := (by rw [← h]; simp [gd]; omega : r = false)
      clear h hm
      go_enter Try.func49, Try.ntmps49
      go_wp2_with fail
      go_ret
      exact ⟨by rw [HR.out]; rfl, (Grw.rfl' _).alloc _⟩
  by_cases s4 : s = 4
  · subst s4
    by_cases l0 : 1 ≤ u
    · by_cases l1 : u ≤ m
      · have HR : Hid (r = true) := (by rw [← h, gd_t]; omega : r = true)
        clear h hm
        go_enter Try.func49, Try.ntmps49
        go_wp2_with fail
        go_ret
        exact ⟨by rw [HR.out]; rfl, (Grw.rfl' _).alloc _⟩
      · have HR : Hid (r = false) := (by rw [← h]; simp [gd]; omega : r = false)
        clear h hm
        go_enter Try.func49, Try.ntmps49
        go_wp2_with fail
        go_ret
        exact ⟨by rw [HR.out]; rfl, (Grw.rfl' _).alloc _⟩
    · have HR : Hid (r = false) := (by rw [← h]; simp [gd]; omega : r = false)
      clear h hm
      go_enter Try.func49, Try.ntmps49
      go_wp2_with fail
      go_ret
      exact ⟨by rw [HR.out]; rfl, (Grw.rfl' _).alloc _⟩
  by_cases s5 : s = 5
  · subst s5
    by_cases l0 : u = m
    · have HR : Hid (r = true) := (by rw [← h, gd_t]; omega : r = true)
      subst l0
      have l1 : (u == u) = true := by simp
      clear h hm
      go_enter Try.func49, Try.ntmps49
      go_wp2_with fail
      go_ret
      exact ⟨by rw [HR.out]; rfl, (Grw.rfl' _).alloc _⟩
    · have HR : Hid (r = false) := (by rw [← h]; simp [gd]; omega : r = false)
      have l1 : (u == m) = false := tst l0
      clear h hm
      go_enter Try.func49, Try.ntmps49
      go_wp2_with fail
      go_ret
      exact ⟨by rw [HR.out]; rfl, (Grw.rfl' _).alloc _⟩
  have HR : Hid (r = false) := (by rw [← h]; simp [gd]; omega : r = false)
  have t1 : (s == 1) = false := tst s1
  have t2 : (s == 2) = false := tst s2
  have t3 : (s == 3) = false := tst s3
  have t4 : (s == 4) = false := tst s4
  have t5 : (s == 5) = false := tst s5
  clear h hm
  go_enter Try.func49, Try.ntmps49
  go_wp2_with fail
  go_ret
  exact ⟨by rw [HR.out]; rfl, (Grw.rfl' _).alloc _⟩
end RE
end Go.Proofs.Ytlopijcpnfkcgaa
