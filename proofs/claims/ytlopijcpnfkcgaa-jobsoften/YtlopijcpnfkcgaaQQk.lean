/- The queue's List where nobody waits; the law QueueNone, walked. -/
import Derived.Test.YtlopijcpnfkcgaaQQj
import Derived.Deep.CutRange
import Derived.Deep.DeepCutAuto
namespace Go.Proofs.Ytlopijcpnfkcgaa
namespace QQ
open Go.RowKit
set_option linter.unusedSimpArgs false

set_option maxHeartbeats 1000000 in
set_option maxRecDepth 100000 in
theorem list_nil (w : World) : Calls Try.prog 34 #[.pointer none] w fun e w' => e = .returned (.slice none 0 0) ∧ w = w' := by
  go_enter Try.func34, Try.ntmps34
  go_wp2_with fail
  go_ret
  exact ⟨rfl, rfl⟩
set_option maxHeartbeats 1000000 in
set_option maxRecDepth 100000 in
theorem clone_nil (w : World) : Calls Try.prog 43 #[.slice none 0 0] w fun e w' => e = .returned (.slice none 0 0) ∧ w = w' := by
  have e : ∀ w, Sem.run Try.prog (binOp .eql 55 (.slice none 0 0) (.slice none 0 0)) w = .ok (.bool true) w := fun _ => by kernel_rfl
  go_enter Try.func43, Try.ntmps43
  go_wp2_with fail
  go_ret
  exact ⟨rfl, rfl⟩
set_option maxHeartbeats 1000000 in
set_option maxRecDepth 100000 in
theorem sort_none (b o : Nat) (ao : Option Addr) (n cap : Nat) (w : World) (h : w.cell? ⟨b, o + 1, none⟩ = some (.slice ao n cap)) (hn : n ≤ 1) :
    Calls Try.prog 44 #[.iface 92 (.pointer (some ⟨b, o, none⟩))] w fun e w' => e = .returned (.tuple #[]) ∧ w = w' := by
  have mN := meth_len b o
  have C := Lib.hid (line_len b o ao n cap w h)
  have d1 : decide ((n : Int) ≤ 1) = true := by simp; omega
  have d2 : decide (n ≤ 1) = true := by simp [hn]
  clear h
  go_enter Try.func44, Try.ntmps44
  go_wp2_with fail
  refine C.out.mono ?_
  rintro _ _ ⟨rfl, rfl⟩
  go_wp2_with fail
  exact bodyPost_ret (results_none rfl _ _ _) rfl ⟨rfl, rfl⟩
set_option maxHeartbeats 1000000 in
set_option maxRecDepth 100000 in
theorem list_empty {p : Nat} {a room count : Int} {w : World} (h : QU w p a room count (.slice none 0 0) []) :
    Calls Try.prog 34 #[.pointer (some ⟨p, 0, none⟩)] w fun e w' => e = .returned (.slice none 0 0) ∧ Grw w w' := by
  obtain ⟨l, hl, _, _⟩ := h.line
  have c2 := hl.c0
  have c3 := hl.c1
  have SS : Hid (∀ u, Grw w u → (u.cell? ⟨p, 2, none⟩ = some (.int .i64 a) ∧ u.cell? ⟨p, 3, none⟩ = some (.slice none 0 0))) :=
    (fun u g => ⟨g.cell c2, g.cell c3⟩ : ∀ u, Grw w u → (u.cell? ⟨p, 2, none⟩ = some (.int .i64 a) ∧ u.cell? ⟨p, 3, none⟩ = some (.slice none 0 0)))
  have CN := Lib.hid clone_nil
  clear h hl
  go_enter Try.func34, Try.ntmps34
  go_upto_region 3 with fail
  go_cut [3] from 6 to 18 (fun s3 wx => ∃ b, s3 = .pointer (some ⟨b, 0, none⟩) ∧ wx.cell? ⟨b, 1, none⟩ = some (.slice none 0 0) ∧ Grw w wx)
  case first =>
    go_region_held3 (fun u => u.cell? ⟨p, 2, none⟩ = some (.int .i64 a) ∧ u.cell? ⟨p, 3, none⟩ = some (.slice none 0 0))
      ((refine SS.out _ ?_; repeat (first | with_reducible exact Grw.rfl' _ | with_reducible refine Grw.drew ?_ | with_reducible refine Grw.alloc ?_ _))) (first | (go_at_call 43; refine (CN.out _).mono ?_; rintro _ _ ⟨rfl, rfl⟩))
    all_goals
      go_wp2_with fail
      go_meet
      case rel => exact ⟨_, rfl, by simp [go_sem], (by repeat (first | with_reducible exact Grw.rfl' _ | with_reducible refine Grw.drew ?_ | with_reducible refine Grw.alloc ?_ _))⟩
  case rest =>
    obtain ⟨b, rfl, hc, hg⟩ := hcut
    have G := Lib.hid hg
    have C := Lib.hid (sort_none b 0 none 0 0 wc hc (by decide))
    clear hg
    go_wp2_with fail
    refine C.out.mono ?_
    rintro _ _ ⟨rfl, rfl⟩
    go_wp2_with fail
    go_ret
    exact ⟨rfl, G.out⟩
set_option maxHeartbeats 1000000 in
set_option maxRecDepth 100000 in
theorem len_nil (w : World) : Calls Try.prog 85 #[.pointer none] w fun e w' => e = .returned (.int .i64 0) ∧ w = w' := by
  go_enter Try.func85, Try.ntmps85
  go_wp2_with fail
  go_ret
  exact ⟨rfl, rfl⟩
set_option maxHeartbeats 1000000 in
set_option maxRecDepth 100000 in
theorem count_nil (w : World) : Calls Try.prog 35 #[.pointer none] w fun e w' => e = .returned (.int .i64 0) ∧ w = w' := by
  go_enter Try.func35, Try.ntmps35
  go_wp2_with fail
  go_ret
  exact ⟨rfl, rfl⟩
end QQ
end Go.Proofs.Ytlopijcpnfkcgaa
