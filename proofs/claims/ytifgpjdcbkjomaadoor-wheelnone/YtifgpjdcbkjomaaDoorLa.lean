/- The law WheelNone at this program. -/
import Derived.Test.YtifgpjdcbkjomaaDoorXr
namespace Go.Proofs.YtifgpjdcbkjomaaDoor
open Go.RowKit TM MK
open RG (Du La listR putB putR dropR dropO takeR hasId Srt)
open VM (RK BK lvl idsD)
set_option linter.unusedSimpArgs false

set_option maxHeartbeats 4000000 in
set_option maxRecDepth 100000 in
theorem none_walk (i : Int) (at' n : Nat) (w : World) (t : Tab w) (hi : Wi i) (ha : at' < 2 ^ 64) (hn : n < 2 ^ 64) : Calls Tryd.prog 8 #[.int .i64 i, .int .u64 at', .int .u64 n] w fun e w' => e = .returned (.bool true) ∧ Grw w w' := by
  have CN := Lib.hid (fun u => cancel_nil i u)
  have AN := Lib.hid (fun u => wat_nil i u)
  have PN := Lib.hid (fun u => place_nil i u)
  have FN := Lib.hid (fun u => wfirst_nil u)
  have ON := Lib.hid (fun u => pop_nil at' u)
  have VN := Lib.hid (fun u => advance_nil n u)
  have IN := Lib.hid (fun u => insert_nil i at' u)
  have NN := Lib.hid (fun u => now_nil u)
  have LN := Lib.hid (fun u => wlen_nil u)
  have DN := Lib.hid (fun u => load_nil u)
  have NW := Lib.hid (fun u (g : Grw w u) => new_M at' u (tab_grw g t) ha)
  have FW := Lib.hid (fun w0 p u (h : MW w0 u p at' []) => first_M w0 p at' [] u h)
  have PW := Lib.hid (fun w0 p u (h : MW w0 u p at' []) => place_M w0 p at' [] i 0 0 false u h hi rfl rfl rfl)
  have WK := Lib.hid (fun u (g : Grw w u) => wakes_any u (tab_grw g t))
  have E7 := fun w => eq7_same (fun _ => 0) w
  have eo := eqO
  obtain ⟨er, o, sv, nw, heo, hSU, hVW⟩ : ∃ (er : Int) (o : Bool) (sv nw : Nat), (er == 0) = o ∧ (∀ u, Calls Tryd.prog 28 #[.int .u64 at', .int .u64 n] u fun e w' => e = .returned (.agg #[.int .u64 (sv : Nat), .bool o]) ∧ Grw u w') ∧ (∀ w0 p u, MW w0 u p at' [] → Calls Tryd.prog 18 #[.pointer (some ⟨p, 0, none⟩), .int .u64 n] u fun e w' => ∃ v, e = .returned (.tuple #[v, .int .i64 er]) ∧ RowD w' v [] ∧ MW w0 w' p nw []) := by
    by_cases hs : at' + n < 2 ^ 64
    · exact ⟨0, true, _, _, rfl, fun u => rsum_is at' n (at' + n) true u ha hn (sum_in hs).1 (sum_in hs).2, fun w0 p u h => advance_M w0 p at' n (at' + n) [] [] [] u h hs rfl rfl rfl⟩
    · refine ⟨14, false, 0, at', rfl, fun u => rsum_is at' n 0 false u ha hn (sum_out hs).1 (sum_out hs).2, fun w0 p u h => (advance_M_no w0 p at' n [] u h hn hs).mono ?_⟩
      rintro e w' ⟨he, rfl⟩
      exact ⟨_, he, ⟨none, 0, rfl, Or.inl rfl⟩, h⟩
  have SU := Lib.hid hSU
  have VW := Lib.hid hVW
  have LW := Lib.hid (fun w0 p u (h : MW w0 u p nw []) => len_M w0 p nw [] 0 u h rfl)
  have hoo : (o == o) = true := by simp
  have hfd : ∀ w : World, (Instr.field 39 (.agg #[.int .u64 (sv : Nat), .bool o]) 1).run Tryd.prog w = .ok (.bool o) w := fun _ => field39_1 _ _ _
  clear t hi ha hn hSU hVW
  go_enter Tryd.func8, Tryd.ntmps8
  go_wp2_with fail
  refine (CN.out _).mono ?_
  rintro _ w1 ⟨rfl, hg1⟩
  have G1 := Lib.hid hg1
  clear hg1
  go_wp2_with fail
  refine (AN.out _).mono ?_
  rintro _ w2 ⟨rfl, rfl⟩
  go_wp2_with fail
  refine (PN.out _).mono ?_
  rintro _ w2 ⟨rfl, hg2⟩
  have G2 := Lib.hid (G1.out.trans hg2)
  clear hg2
  go_wp2_with fail
  refine (FN.out _).mono ?_
  rintro _ w3 ⟨rfl, hg3⟩
  have G3 := Lib.hid (G2.out.trans hg3)
  clear hg3
  have K3 := Lib.hid (Kp.new w3 (.int .i64 0) (.int .u64 0) 42)
  go_wp2_with fail
  refine (ON.out _).mono ?_
  rintro _ w4 ⟨rfl, hg4⟩
  have K4 := Lib.hid (K3.out.later hg4)
  have G4 : Hid (Grw w w4) := ((G3.out.alloc _).trans hg4 : Grw w w4)
  have J4 := Lib.hid (Kp.new w4 (.int .i64 0) (.int .u64 0) 42)
  have G5 : Hid (Grw w (w4.alloc (.cells #[.int .i64 0, .int .u64 0] 42))) := (G4.out.alloc _ : Grw w (w4.alloc (.cells #[.int .i64 0, .int .u64 0] 42)))
  have K5 := Lib.hid (K4.out.later ((Grw.rfl' w4).alloc (.cells #[.int .i64 0, .int .u64 0] 42)))
  have k0 := K5.out.t.c0
  have k1 := K5.out.t.c1
  have j0 := J4.out.t.c0
  have j1 := J4.out.t.c1
  clear hg4
  go_wp2_with fail
  refine (VN.out _).mono ?_
  rintro _ w5 ⟨rfl, rfl⟩
  go_wp2_with fail
  refine (IN.out _).mono ?_
  rintro _ w5 ⟨rfl, rfl⟩
  go_wp2_with fail
  refine (NN.out _).mono ?_
  rintro _ w5 ⟨rfl, rfl⟩
  go_wp2_with fail
  refine (LN.out _).mono ?_
  rintro _ w5 ⟨rfl, rfl⟩
  go_wp2_with fail
  refine (DN.out _).mono ?_
  rintro _ w5 ⟨rfl, hg5⟩
  have G6 := Lib.hid (G5.out.trans hg5)
  clear hg5 k0 k1 j0 j1
  go_wp2_with fail
  refine (NW.out _ G6.out).mono ?_
  rintro _ w6 ⟨p, rfl, hm⟩
  have M6 := Lib.hid hm
  clear hm
  go_wp2_with fail
  refine (FW.out _ p _ M6.out).mono ?_
  rintro _ w7 ⟨rfl, hg7⟩
  have M7 : Hid (MW w5 (w7.alloc (.cells #[.int .i64 0, .int .u64 0] 42)) p at' []) := (M6.out.later (hg7.alloc _) : MW w5 (w7.alloc (.cells #[.int .i64 0, .int .u64 0] 42)) p at' [])
  unfold hdD
  simp only [List.headD_nil, List.isEmpty_nil, Bool.not_true]
  clear hg7
  go_wp2_with fail
  refine (PW.out _ p _ M7.out).mono ?_
  rintro _ w8 ⟨rfl, hg8⟩
  have M8 := Lib.hid (M7.out.later hg8)
  clear hg8
  go_wp2_with fail
  refine (VW.out _ p _ M8.out).mono ?_
  rintro _ w9 ⟨v, rfl, hrow, hm⟩
  obtain ⟨ao, cap, rfl, _⟩ := hrow
  have M9 := Lib.hid hm
  clear hm
  simp only [List.length_nil]
  go_wp2_with fail
  refine (SU.out _).mono ?_
  rintro _ w10 ⟨rfl, hg10⟩
  have M10 := Lib.hid (M9.out.later hg10)
  clear hg10
  go_wp2_with fail
  refine (LW.out _ p _ M10.out).mono ?_
  rintro _ w11 ⟨rfl, rfl⟩
  have GW' : Hid (Grw w w10) := (G6.out.trans M10.out.grw : Grw w w10)
  go_wp2_with fail
  refine (WK.out _ GW'.out).mono ?_
  rintro _ w11 ⟨rfl, hg11⟩
  have GF := Lib.hid (GW'.out.trans hg11)
  clear hg11
  go_wp2_with fail
  go_ret
  exact ⟨rfl, GF.out⟩
end Go.Proofs.YtifgpjdcbkjomaaDoor
