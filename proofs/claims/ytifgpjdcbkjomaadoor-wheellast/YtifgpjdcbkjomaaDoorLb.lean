/- The law WheelLast at this program. -/
import Derived.Test.YtifgpjdcbkjomaaDoorXs
namespace Go.Proofs.YtifgpjdcbkjomaaDoor
open Go.RowKit TM MK
open RG (Du La listR putB putR dropR dropO takeR hasId Srt)
open VM (RK BK lvl idsD)
set_option linter.unusedSimpArgs false

theorem ins_past (now : Nat) (i : Int) : insE now [] i now = 9 ∧ insL now [] i now = [] := by
  have e : atO [] i = none := rfl
  unfold insE insL
  rw [e]
  simp
theorem ins_one (now t : Nat) (i : Int) (h : now < t) : insE now [] i t = 0 ∧ insL now [] i t = [⟨i, t⟩] := by
  have e : atO [] i = none := rfl
  unfold insE insL
  rw [e]
  have h' : ¬ t ≤ now := by omega
  simp only [Option.isSome_none, Bool.false_eq_true, if_false, if_neg h']
  exact ⟨trivial, rfl⟩
theorem atO_one (i : Int) (t : Nat) : atO [⟨i, t⟩] i = some t := by unfold atO; simp
theorem ins_twice (now t : Nat) (i : Int) : insE now [⟨i, t⟩] i t = 8 ∧ insL now [⟨i, t⟩] i t = [⟨i, t⟩] := by
  unfold insE insL
  rw [atO_one]
  simp
set_option maxHeartbeats 4000000 in
set_option maxRecDepth 100000 in
theorem last_bad (now far N : Nat) (o : Bool) (i : Int) (w : World) (t : Tab w) (hi : Wi i) (hn : now < 2 ^ 64) (hSU : ∀ u, Calls Tryd.prog 28 #[.int .u64 now, .int .u64 far] u fun e w' => e = .returned (.agg #[.int .u64 (N : Nat), .bool o]) ∧ Grw u w') (hbad : o = false ∨ far = 0) :
    Calls Tryd.prog 7 #[.int .u64 now, .int .u64 far, .int .i64 i] w fun e w' => e = .returned (.bool true) ∧ Grw w w' := by
  have SU := Lib.hid hSU
  have NW := Lib.hid (fun u (g : Grw w u) => new_M now u (tab_grw g t) hn)
  have IN := Lib.hid (fun w0 p u (h : MW w0 u p now []) => insert_M w0 p now [] [] i now 9 u h hi hn (by decide) (ins_past now i).1 (ins_past now i).2)
  have LW := Lib.hid (fun w0 p u (h : MW w0 u p now []) => len_M w0 p now [] 0 u h rfl)
  have WK := Lib.hid (fun u (g : Grw w u) => wakes_any u (tab_grw g t))
  have hb1 : (far : Int) = 0 ∨ o = false := by rcases hbad with h | h; exact Or.inr h; exact Or.inl (by omega)
  clear t hi hn hSU
  go_enter Tryd.func7, Tryd.ntmps7
  go_wp2_with fail
  refine (SU.out _).mono ?_
  rintro _ w1 ⟨rfl, hg1⟩
  have K1 := Lib.hid (Kp.new w1 (.int .u64 (N : Nat)) (.bool o) 39)
  have G1 : Hid (Grw w (w1.alloc (.cells #[.int .u64 (N : Nat), .bool o] 39))) := (hg1.alloc _ : Grw w (w1.alloc (.cells #[.int .u64 (N : Nat), .bool o] 39)))
  clear hg1
  go_wp2_with fail
  refine (NW.out _ G1.out).mono ?_
  rintro _ w2 ⟨p, rfl, hm⟩
  have M2 := Lib.hid hm
  have K2 := K1.out.later hm.grw
  have k1 := K2.t.c1
  have IX := Lib.hid (IN.out _ p _ hm)
  clear hm K2
  rcases hb1 with h0 | h0
  · have h0' : ((far : Int) == 0) = true := by simp [h0]
    cases o with
    | false =>
      go_wp2_with fail
      refine IX.out.mono ?_
      rintro _ w3 ⟨rfl, hm⟩
      have M3 := Lib.hid hm
      have LX := Lib.hid (LW.out _ p _ hm)
      have G3 : Hid (Grw w w3) := (G1.out.trans hm.grw : Grw w w3)
      clear hm k1
      go_wp2_with fail
      refine LX.out.mono ?_
      rintro _ w4 ⟨rfl, rfl⟩
      go_wp2_with fail
      refine (WK.out _ G3.out).mono ?_
      rintro _ w4 ⟨rfl, hg⟩
      have G4 := Lib.hid (G3.out.trans hg)
      clear hg
      go_wp2_with fail
      go_ret
      exact ⟨rfl, G4.out⟩
    | true =>
      go_wp2_with fail
      refine IX.out.mono ?_
      rintro _ w3 ⟨rfl, hm⟩
      have M3 := Lib.hid hm
      have LX := Lib.hid (LW.out _ p _ hm)
      have G3 : Hid (Grw w w3) := (G1.out.trans hm.grw : Grw w w3)
      clear hm k1
      go_wp2_with fail
      refine LX.out.mono ?_
      rintro _ w4 ⟨rfl, rfl⟩
      go_wp2_with fail
      refine (WK.out _ G3.out).mono ?_
      rintro _ w4 ⟨rfl, hg⟩
      have G4 := Lib.hid (G3.out.trans hg)
      clear hg
      go_wp2_with fail
      go_ret
      exact ⟨rfl, G4.out⟩
  · subst h0
    go_wp2_with fail
    refine IX.out.mono ?_
    rintro _ w3 ⟨rfl, hm⟩
    have M3 := Lib.hid hm
    have LX := Lib.hid (LW.out _ p _ hm)
    have G3 : Hid (Grw w w3) := (G1.out.trans hm.grw : Grw w w3)
    clear hm k1
    go_wp2_with fail
    refine LX.out.mono ?_
    rintro _ w4 ⟨rfl, rfl⟩
    go_wp2_with fail
    refine (WK.out _ G3.out).mono ?_
    rintro _ w4 ⟨rfl, hg⟩
    have G4 := Lib.hid (G3.out.trans hg)
    clear hg
    go_wp2_with fail
    go_ret
    exact ⟨rfl, G4.out⟩
set_option maxHeartbeats 8000000 in
set_option maxRecDepth 100000 in
theorem last_good (now far N M : Nat) (i : Int) (w : World) (t : Tab w) (hi : Wi i) (hn : now < 2 ^ 64) (hfar : far < 2 ^ 64) (h0 : 0 < far) (hN : now + far = N) (hM : M + 1 = N) (hs : N < 2 ^ 64) :
    Calls Tryd.prog 7 #[.int .u64 now, .int .u64 far, .int .i64 i] w fun e w' => e = .returned (.bool true) ∧ Grw w w' := by
  have SU : Hid (∀ u, Calls Tryd.prog 28 #[.int .u64 now, .int .u64 far] u fun e w' => e = .returned (.agg #[.int .u64 (N : Nat), .bool true]) ∧ Grw u w') := (fun u => rsum_is now far N true u hn hfar (by rw [← hN]; exact (sum_in (by omega)).1) (sum_in (by omega)).2 : ∀ u, Calls Tryd.prog 28 #[.int .u64 now, .int .u64 far] u fun e w' => e = .returned (.agg #[.int .u64 (N : Nat), .bool true]) ∧ Grw u w')
  have NW := Lib.hid (fun u (g : Grw w u) => new_M now u (tab_grw g t) hn)
  have I1 := Lib.hid (fun w0 p u (h : MW w0 u p now []) => insert_M w0 p now [] [⟨i, N⟩] i N 0 u h hi hs (by decide) (ins_one now N i (by omega)).1 (ins_one now N i (by omega)).2)
  have I2 := Lib.hid (fun w0 p u (h : MW w0 u p now [⟨i, N⟩]) => insert_M w0 p now [⟨i, N⟩] [⟨i, N⟩] i N 8 u h hi hs (by simp) (ins_twice now N i).1 (ins_twice now N i).2)
  have FI := Lib.hid (fun w0 p u (h : MW w0 u p now [⟨i, N⟩]) => first_M w0 p now [⟨i, N⟩] u h)
  have PO := Lib.hid (fun w0 p X u (h : MF w0 u p now [⟨i, N⟩] (fun k => k = X)) => pop_F_miss w0 p now M M [⟨i, N⟩] (fun k => k = X) u h (by omega) (fun d hd => by rw [List.mem_singleton] at hd; subst hd; show M < N; omega) (Nat.max_eq_right (by omega)))
  have NO := Lib.hid (fun w0 p u (h : MW w0 u p M [⟨i, N⟩]) => now_M w0 p M [⟨i, N⟩] u h)
  have LE := Lib.hid (fun w0 p u (h : MW w0 u p M [⟨i, N⟩]) => len_M w0 p M [⟨i, N⟩] 1 u h rfl)
  have AD := Lib.hid (fun w0 p X u (h : MF w0 u p M [⟨i, N⟩] (fun k => k = X)) => advance_F w0 p M 1 N [⟨i, N⟩] [] [⟨i, N⟩] (fun k => k = X) u h hs hM (by simp [dueP]) (by simp [dueP]))
  have CA := Lib.hid (fun w0 p F u (h : MF w0 u p N [] F) => cancel_F w0 p N [] [] F i 0 false u h hi rfl rfl rfl)
  have N2 := Lib.hid (fun w0 p u (h : MW w0 u p N []) => now_M w0 p N [] u h)
  have L2 := Lib.hid (fun w0 p u (h : MW w0 u p N []) => len_M w0 p N [] 0 u h rfl)
  have WK := Lib.hid (fun u (g : Grw w u) => wakes_any u (tab_grw g t))
  have hfz : ((far : Int) == 0) = false := by simp; omega
  have hfz2 : ¬ (far : Int) = 0 := by omega
  have hw : IntKind.u64.wrap ((N : Int) - 1) = (M : Int) := by rw [IntKind.wrap_u64]; omega
  have hw2 : ((N : Int) - 1) % 18446744073709551616 = (M : Int) := by omega
  have hN1 : (N : Int) - 1 = (M : Int) := by omega
  have hNM : (N : Int) = (M : Int) + 1 := by omega
  have HNM := Lib.hid hNM
  clear t hi hn hfar h0 hN hM hs hNM
  go_enter Tryd.func7, Tryd.ntmps7
  go_wp2_with fail
  refine (SU.out _).mono ?_
  rintro _ w1 ⟨rfl, hg1⟩
  have K1 := Lib.hid (Kp.new w1 (.int .u64 (N : Nat)) (.bool true) 39)
  have G1 : Hid (Grw w (w1.alloc (.cells #[.int .u64 (N : Nat), .bool true] 39))) := (hg1.alloc _ : Grw w (w1.alloc (.cells #[.int .u64 (N : Nat), .bool true] 39)))
  clear hg1
  go_wp2_with fail
  refine (NW.out _ G1.out).mono ?_
  rintro _ w2 ⟨p, rfl, hm⟩
  have K2 := Lib.hid (K1.out.later hm.grw)
  have k0 := K2.out.t.c0
  have k1 := K2.out.t.c1
  have IX := Lib.hid (I1.out _ p _ hm)
  clear hm
  go_wp2_with fail
  refine IX.out.mono ?_
  rintro _ w3 ⟨rfl, hm⟩
  have K3 := Lib.hid (K1.out.later hm.grw)
  have j0 := K3.out.t.c0
  have IY := Lib.hid (I2.out _ p _ hm)
  clear hm k0 k1
  go_wp2_with fail
  refine IY.out.mono ?_
  rintro _ w4 ⟨rfl, hm⟩
  have FX := Lib.hid (FI.out _ p _ hm)
  have M4 := Lib.hid hm
  clear hm j0
  go_wp2_with fail
  refine FX.out.mono ?_
  rintro _ w5 ⟨rfl, hg5⟩
  unfold hdD
  simp only [List.headD_cons, List.isEmpty_cons, Bool.not_false]
  have M5 : Hid (MF (w1.alloc (.cells #[.int .u64 (N : Nat), .bool true] 39)) (w5.alloc (.cells #[.int .i64 i, .int .u64 (N : Nat)] 42)) p now [⟨i, N⟩] (fun k => k = w5.heap.size)) := ((M4.out.later hg5).mf.add ((Grw.rfl' w5).alloc _) (fun k hk => Or.inr ⟨by omega, by rw [hk, size_new]; omega⟩) : MF (w1.alloc (.cells #[.int .u64 (N : Nat), .bool true] 39)) (w5.alloc (.cells #[.int .i64 i, .int .u64 (N : Nat)] 42)) p now [⟨i, N⟩] (fun k => k = w5.heap.size))
  have D5 := Lib.hid (Kp.new w5 (.int .i64 i) (.int .u64 (N : Nat)) 42)
  have K5 := Lib.hid (K1.out.later M5.out.grw)
  have j0 := K5.out.t.c0
  have PX := Lib.hid (PO.out _ p _ _ M5.out)
  clear hg5
  go_wp2_with fail
  refine PX.out.mono ?_
  rintro _ w6 ⟨rfl, hm, hf⟩
  have D6 := Lib.hid ((D5.out.kept hf rfl).later ((Grw.rfl' w6).alloc (.cells #[.int .i64 0, .int .u64 0] 42)))
  have M6 : Hid (MF (w1.alloc (.cells #[.int .u64 (N : Nat), .bool true] 39)) (w6.alloc (.cells #[.int .i64 0, .int .u64 0] 42)) p M [⟨i, N⟩] (fun k => k = w5.heap.size)) := (hm.later ((Grw.rfl' w6).alloc _) : MF (w1.alloc (.cells #[.int .u64 (N : Nat), .bool true] 39)) (w6.alloc (.cells #[.int .i64 0, .int .u64 0] 42)) p M [⟨i, N⟩] (fun k => k = w5.heap.size))
  have K6 := Lib.hid (K1.out.later M6.out.grw)
  have e0 := gw_cell D6.out.t.c0
  have e1 := gw_cell D6.out.t.c1
  have q0 := gw_cell K6.out.t.c0
  have NX := Lib.hid (fun q : GW (w6.alloc (.cells #[.int .i64 0, .int .u64 0] 42)) => NO.out _ p q.x (M6.out.mw.later q.h))
  have LX := Lib.hid (fun q : GW (w6.alloc (.cells #[.int .i64 0, .int .u64 0] 42)) => LE.out _ p q.x (M6.out.mw.later q.h))
  clear hm hf j0
  go_wp2_with fail
  refine wp_region_grown (by kernel_rfl) (by kernel_rfl) ?_
  repeat (go_big_quiet_step (first | (go_at_call 29; exact calls_grown_same (NX.out _)) | (go_at_call 33; exact calls_grown_same (LX.out _))))
  refine wpQuiet_nil ?_
  rintro _ ⟨q', rfl⟩
  have M8 := Lib.hid (M6.out.later q'.h)
  have D8 := Lib.hid (D6.out.later q'.h)
  obtain ⟨w8, hw8⟩ : ∃ w8, q'.x = w8 := ⟨_, rfl⟩
  rw [hw8] at M8 D8 ⊢
  clear e0 e1 q0 hw8
  have AX := Lib.hid (AD.out _ p _ _ M8.out)
  go_wp2_with fail
  refine AX.out.mono ?_
  rintro _ w9 ⟨v, rfl, hrow, hm, hf, hnew⟩
  have D9 := Lib.hid (D8.out.kept hf rfl)
  have RW9 := Lib.hid hrow
  have CX := Lib.hid (CA.out _ p _ _ hm)
  clear hm hf hnew hrow
  go_wp2_with fail
  refine CX.out.mono ?_
  rintro _ w10 ⟨rfl, hm, hf⟩
  have D10 := Lib.hid (D9.out.kept hf (Or.inl rfl))
  have R10 := RW9.out.frm hf (fun k hk c => c (Or.inr hk))
  have M10 := Lib.hid hm.mw
  obtain ⟨ao, cap, rfl, hl⟩ := R10
  obtain ⟨rb, off, rfl, c0, c1⟩ := lies_at hl (j := 0) (by simp)
  simp only [Nat.zero_mul, Nat.add_zero, List.getElem_cons_zero] at c0 c1
  have z0 := gw_cell c0
  have z1 := gw_cell c1
  have e0 := gw_cell D10.out.t.c0
  have e1 := gw_cell D10.out.t.c1
  have q0 := gw_cell (K1.out.later hm.grw).t.c0
  have G10 : Hid (Grw w w10) := (G1.out.trans hm.grw : Grw w w10)
  have NY := Lib.hid (fun q : GW w10 => N2.out _ p q.x (M10.out.later q.h))
  have LY := Lib.hid (fun q : GW w10 => L2.out _ p q.x (M10.out.later q.h))
  have WY := Lib.hid (fun q : GW w10 => WK.out q.x (G10.out.trans q.h))
  clear hm hf hl c0 c1
  simp only [List.length_cons, List.length_nil]
  go_wp2_with fail
  refine wp_region_grown (by kernel_rfl) (by kernel_rfl) ?_
  repeat (go_big_quiet_step (first | (go_at_call 29; exact calls_grown_same (NY.out _)) | (go_at_call 33; exact calls_grown_same (LY.out _)) | (go_at_call 26; exact calls_grown (WY.out _))))
  refine wpQuiet_nil ?_
  rintro _ ⟨q2, rfl⟩
  have GF := Lib.hid (G10.out.trans q2.h)
  clear z0 z1 e0 e1 q0
  go_wp2_with fail
  go_ret
  exact ⟨rfl, GF.out⟩
theorem last_walk (now far : Nat) (i : Int) (w : World) (t : Tab w) (hi : Wi i) (hn : now < 2 ^ 64) (hfar : far < 2 ^ 64) :
    Calls Tryd.prog 7 #[.int .u64 now, .int .u64 far, .int .i64 i] w fun e w' => e = .returned (.bool true) ∧ Grw w w' := by
  by_cases hs : now + far < 2 ^ 64
  · by_cases h0 : far = 0
    · exact last_bad now far (now + far) true i w t hi hn (fun u => rsum_is now far (now + far) true u hn hfar (sum_in hs).1 (sum_in hs).2) (Or.inr h0)
    · exact last_good now far (now + far) (now + far - 1) i w t hi hn hfar (by omega) rfl (by omega) hs
  · exact last_bad now far 0 false i w t hi hn (fun u => rsum_is now far 0 false u hn hfar (sum_out hs).1 (sum_out hs).2) (Or.inl rfl)
end Go.Proofs.YtifgpjdcbkjomaaDoor
