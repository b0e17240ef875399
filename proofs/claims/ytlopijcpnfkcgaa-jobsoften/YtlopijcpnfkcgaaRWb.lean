/- The contracts of retry.answer, Step and of the document's Step at this program. -/
import Derived.Test.YtlopijcpnfkcgaaRWa
namespace Go.Proofs.Ytlopijcpnfkcgaa
namespace RE
open Go.RowKit
set_option linter.unusedSimpArgs false

def an (n u k : Int) : Int × Int × Bool := if k = 2 then (4, u, true) else if k = 3 ∧ n < u then (5, u, true) else if k = 3 then (3, u, true) else (0, 0, false)
set_option maxHeartbeats 2000000 in
set_option maxRecDepth 100000 in
theorem answer_is (n u k a b : Int) (c : Bool) (w : World) (h : an n u k = (a, b, c)) :
    Calls Try.prog 50 #[.int .i64 n, .int .i64 u, .int .i64 k] w fun e w' => e = .returned (tv a b c) ∧ Grw w w' := by
  by_cases k2 : k = 2
  · subst k2
    have h5 : an n u 2 = (4, u, true) := by simp [an]
    rw [h5] at h
    injection h with h1 h
    injection h with h2 h3
    subst h1 h2 h3
    clear h5
    go_enter Try.func50, Try.ntmps50
    go_wp2_with fail
    exact bodyPost_ret (v := .tuple #[.agg #[.int .i64 4, .int .i64 u], .bool true]) (by simp [results, Try.results50, go_sem]) rfl ⟨rfl, by repeat (first | with_reducible assumption | with_reducible exact Grw.rfl' _ | with_reducible refine Grw.alloc ?_ _ | with_reducible refine Grw.drew ?_ | with_reducible refine Grw.drewN ?_ _ | with_reducible refine Grw.set ?_ (by simp [go_sem]) _)⟩
  by_cases k3 : k = 3
  · subst k3
    by_cases hu : n < u
    · have h5 : an n u 3 = (5, u, true) := by simp [an, hu]
      rw [h5] at h
      injection h with h1 h
      injection h with h2 h3
      subst h1 h2 h3
      have d : decide (u > n) = true := by simp [hu]
      clear h5
      go_enter Try.func50, Try.ntmps50
      go_wp2_with fail
      exact bodyPost_ret (v := .tuple #[.agg #[.int .i64 5, .int .i64 u], .bool true]) (by simp [results, Try.results50, go_sem]) rfl ⟨rfl, by repeat (first | with_reducible assumption | with_reducible exact Grw.rfl' _ | with_reducible refine Grw.alloc ?_ _ | with_reducible refine Grw.drew ?_ | with_reducible refine Grw.drewN ?_ _ | with_reducible refine Grw.set ?_ (by simp [go_sem]) _)⟩
    · have h5 : an n u 3 = (3, u, true) := by simp [an, hu]
      rw [h5] at h
      injection h with h1 h
      injection h with h2 h3
      subst h1 h2 h3
      have d : decide (u > n) = false := by simp; omega
      clear h5
      go_enter Try.func50, Try.ntmps50
      go_wp2_with fail
      exact bodyPost_ret (v := .tuple #[.agg #[.int .i64 3, .int .i64 u], .bool true]) (by simp [results, Try.results50, go_sem]) rfl ⟨rfl, by repeat (first | with_reducible assumption | with_reducible exact Grw.rfl' _ | with_reducible refine Grw.alloc ?_ _ | with_reducible refine Grw.drew ?_ | with_reducible refine Grw.drewN ?_ _ | with_reducible refine Grw.set ?_ (by simp [go_sem]) _)⟩
  have h5 : an n u k = (0, 0, false) := by simp [an, k2, k3]
  rw [h5] at h
  injection h with h1 h
  injection h with h2 h3
  subst h1 h2 h3
  have t2 : (k == 2) = false := tst k2
  have t3 : (k == 3) = false := tst k3
  clear h5
  go_enter Try.func50, Try.ntmps50
  go_wp2_with fail
  exact bodyPost_ret (v := .tuple #[.agg #[.int .i64 0, .int .i64 0], .bool false]) (by simp [results, Try.results50, go_sem]) rfl ⟨rfl, by repeat (first | with_reducible assumption | with_reducible exact Grw.rfl' _ | with_reducible refine Grw.alloc ?_ _ | with_reducible refine Grw.drew ?_ | with_reducible refine Grw.drewN ?_ _ | with_reducible refine Grw.set ?_ (by simp [go_sem]) _)⟩

end RE
end Go.Proofs.Ytlopijcpnfkcgaa
