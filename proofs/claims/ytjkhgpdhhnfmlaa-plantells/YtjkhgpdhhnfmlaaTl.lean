/- PlanTells: the whole walk, whatever the number of timers. -/
import Derived.Test.YtjkhgpdhhnfmlaaTc
namespace Go.Proofs.Ytjkhgpdhhnfmlaa
open Go.RowKit
open RG (Du)
open PM
set_option linter.unusedVariables false

set_option maxRecDepth 100000 in
theorem tells_long (ao : Option Addr) (cap t : Nat) (n : Nat) (d : Du) (w : World) (h60 : 60 < n) :
    Calls Try.prog 3 #[.slice ao n cap, dv d, .int .u64 t] w fun e w' => e = .returned (.bool true) ∧ Grw w w' := by
  have h60i : (60 : Int) < (n : Int) := by omega
  obtain ⟨di, dt⟩ := d
  unfold dv
  have W1 := Lib.hid (fun u => wakes_any u)
  have G0 := Lib.hid ((Grw.rfl' w).alloc (.cells #[.int .i64 di, .int .u64 (dt : Nat)] 25))
  go_enter Try.func3, Try.ntmps3
  go_wp2_with fail
  refine (W1.out _).mono ?_
  rintro _ w1 ⟨rfl, hg⟩
  have G := Lib.hid (G0.out.trans hg)
  clear hg
  go_wp2_with fail
  go_ret
  exact ⟨rfl, G.out⟩
theorem tells_any (ao : Option Addr) (cap t : Nat) (l : List Du) (d : Du) (w : World) (hl : Lies w ao (cd l)) (hw : Wis l) (hcap : l.length ≤ cap) (hnil : ao = none → l.length = 0 ∧ cap = 0) :
    Calls Try.prog 3 #[.slice ao l.length cap, dv d, .int .u64 t] w fun e w' => e = .returned (.bool true) ∧ Grw w w' := by
  by_cases h60 : 60 < l.length
  · exact tells_long ao cap t _ d w h60
  · exact tells_walk ao cap t l d _ w hl hw rfl (by omega) hcap hnil
end Go.Proofs.Ytjkhgpdhhnfmlaa
