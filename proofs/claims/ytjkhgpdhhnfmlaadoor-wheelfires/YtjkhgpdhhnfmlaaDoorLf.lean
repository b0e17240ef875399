/- The law WheelFires at this program. -/
import Derived.Test.YtjkhgpdhhnfmlaaDoorVq
import Derived.Test.YtjkhgpdhhnfmlaaDoorXy
namespace Go.Proofs.YtjkhgpdhhnfmlaaDoor
open Go.RowKit TM MK
open RG (Du Srt)
open VM (idsD)
set_option linter.unusedSimpArgs false

def wS (w : World) (ao : Option Addr) (n cap : Nat) : World := w.alloc (.cells #[.slice ao n cap] 56)
theorem wS_grw (w : World) (ao : Option Addr) (n cap : Nat) : Grw w (wS w ao n cap) := (Grw.rfl' w).alloc _
theorem wS_pos (w : World) (ao : Option Addr) (n cap : Nat) : 0 < (wS w ao n cap).heap.size := by unfold wS; rw [size_new]; omega
/-- between the advances: the clock stands at c. -/
structure Fi (w0 wr : World) (p now n c tb : Nat) (f : Nat → Nat) (ao : Option Addr) (F : Nat → Prop) (L : List Du) : Prop where
  m : MF w0 wr p c L F
  fs : Fs now n c f L
  told : Told wr tb n (tl now c f)
  at' : RowU wr ao n (fun j => now + f j)
theorem u5 {k : Nat} : ((k : Int).tmod 5 = ((k % 5 : Nat) : Int)) := by rw [Int.tmod_eq_emod_of_nonneg (by omega)]; omega
theorem Told.congr {w : World} {b n : Nat} {g g' : Nat → Bool} (h : Told w b n g) (e : ∀ k, k < n → g k = g' k) : Told w b n g' :=
  ⟨by
    have : bl g' n = bl g n := by unfold bl; exact List.map_congr_left fun k hk => by rw [e k (List.mem_range.1 hk)]
    rw [this]; exact h.own⟩
set_option maxHeartbeats 16000000 in
set_option maxRecDepth 100000 in
theorem fires_walk (ao : Option Addr) (n cap now : Nat) (so : Option Addr) (m sc : Nat) (f st : Nat → Nat) (w : World) (t : Tab w) (hn : now < 2 ^ 64) (hr : RowU w ao n f) (hf : ∀ j, j < n → f j < 2 ^ 64) (hl : n ≤ 9223372036854775807)
    (hs : RowU w so m st) (hst : ∀ j, j < m → st j < 2 ^ 64) (hm : m ≤ 9223372036854775807) :
    Calls Tryd.prog 4 #[.int .u64 now, .agg #[.slice ao n cap], .slice so m sc] w fun e w' => e = .returned (.bool true) ∧ Grw w w' := by
  have G0 := Lib.hid (wS_grw w ao n cap)
  have L1 := Lib.hid (laid_walk ao n cap now f (wS w ao n cap) (tab_grw G0.out t) hn (hr.later G0.out) hf hl)
  have WK := Lib.hid (fun u (g : Grw w u) => wakes_any u (tab_grw g t))
  have RS := Lib.hid (fun u (g : Grw w u) => hs.later g)
  have HST := Lib.hid hst
  have POS := Lib.hid (wS_pos w ao n cap)
  obtain ⟨i4, hi4, hz4, hs4, hb4⟩ := info_parts Tryd.info4
  have u59 : Tryd.prog.underlying 59 = some (.slice 4) := by kernel_rfl
  unfold wS at L1
  clear t hr hf hs hst
  go_enter Tryd.func4, Tryd.ntmps4
  go_wp2_with fail
  refine L1.out.mono ?_
  rintro e w1 (⟨hok, p, ao1, cap1, rfl, hmA, hat, hnew⟩ | ⟨hno, pa, rfl, hg1⟩)
  · have hmA : MF (wS w ao n cap) w1 p now (lay now f n) (fun k => (Value.slice ao1 n cap1).ownBlock = some k) := hmA
    obtain ⟨w0, hw0⟩ : ∃ w0, wS w ao n cap = w0 := ⟨_, rfl⟩
    rw [hw0] at hmA G0 POS
    obtain ⟨F1, hF1⟩ : ∃ F1 : Nat → Prop, F1 = fun k => (Value.slice ao1 n cap1).ownBlock = some k := ⟨_, rfl⟩
    rw [← hF1] at hmA
    have FA : Hid (∀ k, (Value.slice ao1 n cap1).ownBlock = some k → F1 k) := (by rw [hF1]; exact fun k hk => hk : ∀ k, (Value.slice ao1 n cap1).ownBlock = some k → F1 k)
    have MA := Lib.hid hmA
    have AT := Lib.hid hat
    have OKL := Lib.hid hok.2
    have h60 := hok.1
    clear hmA hat hnew hw0 hF1 hok
    go_wp2_with fail
    go_loopw [10] (fun u10 wr => ∃ (j : Nat) (L : List Du), u10 = .int .i64 j ∧ j ≤ 64 ∧ j % 5 = 0 ∧ Cs now n j f L ∧ MF w0 wr p now L F1 ∧ RowU wr ao1 n (fun j => now + f j)) (fun u10 _ => 65 - (intOf u10).toNat)
    case atStart => exact ⟨0, _, rfl, by omega, rfl, Cs.start now n f, MA.out, AT.out⟩
    case round => as_aux_lemma =>
      obtain ⟨j, L, rfl, hj64, hj5, hcs, hmf, hat⟩ := hrel
      by_cases hjn : j < n
      · as_aux_lemma =>
        have hji : (j : Int) < (n : Int) := by omega
        obtain ⟨h1, h2⟩ := hcs.step hjn hj5
        have CC := Lib.hid (cancel_F w0 p now L _ F1 (j : Int) (now + f j) true wr hmf (by unfold Wi; omega) (by rw [h1]; rfl) (by rw [h1]; rfl) rfl)
        have HCS := Lib.hid h2
        obtain ⟨x, hx⟩ : ∃ x, now + f j = x := ⟨_, rfl⟩
        rw [hx] at CC
        have HAT := Lib.hid hat
        have HX := Lib.hid hx
        clear h1 h2 hcs hmf hat hx
        go_wp2_with fail
        refine CC.out.mono ?_
        rintro _ w2 ⟨rfl, hm2, hf2⟩
        have A2 := Lib.hid (HAT.out.frm (cap := cap1) hf2 (fun k hk c => c (FA.out k hk)))
        obtain ⟨b, off, rfl, hc⟩ := A2.out.at (by omega : 0 < n)
        have c0 := hc j hjn
        rw [HX.out] at c0
        have M2 := Lib.hid hm2
        clear hm2 hf2 hc
        go_wp2_with fail
        go_roundw
        case rel => exact ⟨j + 5, _, by go_num, by omega, by omega, HCS.out, M2.out, A2.out⟩
        case measure => simp [intOf]; omega
      · as_aux_lemma =>
        have hji : ¬ (j : Int) < (n : Int) := by omega
        have hfs := hcs.done (by omega) (fun k hk => (OKL.out k hk).1)
        have HFS := Lib.hid hfs
        have MB := Lib.hid hmf
        have HAT := Lib.hid hat
        clear hcs hmf hat hfs
        go_wp2_with (at_make; refine wpList_make_full _ rfl _ _ 59 rfl 0 4 i4 _ 1 u59 hi4 hz4 hs4 .i64 .i64 _ _ n rfl rfl rfl rfl (by rw [hb4]; omega) (by unfold maxLen; omega) (Nat.zero_le _) ?_)
        intro w2 hown hgrow
        have g2 : Grw wr w2 := (grownBy_frm hgrow).grw (Grw.rfl' wr) (fun k hk => by cases hk)
        obtain ⟨tb, htb⟩ : ∃ tb, wr.heap.size = tb := ⟨_, rfl⟩
        rw [htb] at hown ⊢
        have T0 : Hid (Told w2 tb n (tl now now f)) := (⟨by
          rw [bl_none n (tl now now f) (fun k hk => by unfold tl; rw [show decide (now + f k ≤ now) = false by rw [decide_eq_false_iff_not]; have := (OKL.out k hk).1; omega, Bool.and_false])]
          rw [← toList_madeCells_one, ← Nat.mul_one n]
          simpa using hown⟩ : Told w2 tb n (tl now now f))
        obtain ⟨F2, hF2⟩ : ∃ F2 : Nat → Prop, F2 = fun k => F1 k ∨ k = tb := ⟨_, rfl⟩
        have FB : Hid ((∀ k, (Value.slice ao1 n cap1).ownBlock = some k → F2 k) ∧ F2 tb ∧ (∀ k, (Value.slice ao1 n cap1).ownBlock = some k → k ≠ tb) ∧ w0.heap.size ≤ tb) := (by
          rw [hF2]
          refine ⟨fun k hk => Or.inl (FA.out k hk), Or.inr rfl, fun k hk e => ?_, ?_⟩
          · have := MB.out.lt (FA.out k hk); omega
          · have := Below.size MB.out.grw; omega : (∀ k, (Value.slice ao1 n cap1).ownBlock = some k → F2 k) ∧ F2 tb ∧ (∀ k, (Value.slice ao1 n cap1).ownBlock = some k → k ≠ tb) ∧ w0.heap.size ≤ tb)
        have I0 : Hid (Fi w0 w2 p now n now tb f ao1 F2 L) := (⟨MB.out.add g2 (fun k hk => by rw [hF2] at hk; exact hk.imp id (fun e => by have := T0.out.lt; omega)), HFS.out, T0.out, HAT.out.later g2⟩ : Fi w0 w2 p now n now tb f ao1 F2 L)
        clear hown hgrow hF2 g2 MB HFS HAT T0
        go_wp2_with fail
        clear htb
        go_loopw [14, 15] (fun u14 u15 wr => ∃ (c i : Nat) (L : List Du), u14 = .int .u64 c ∧ u15 = .int .i64 i ∧ i ≤ m ∧ i ≤ 40 ∧ now ≤ c ∧ c < 2 ^ 64 ∧ Fi w0 wr p now n c tb f ao1 F2 L) (fun _ u15 _ => 41 - (intOf u15).toNat)
        case atStart => exact ⟨now, 0, L, rfl, rfl, by omega, by omega, by omega, hn, I0.out⟩
        case round => as_aux_lemma =>
          obtain ⟨c, i, L, rfl, rfl, him, hi40, hcn, hc64, hI⟩ := hrel
          have II := Lib.hid hI
          have GR : Hid (Grw w wr) := (G0.out.trans hI.m.grw : Grw w wr)
          by_cases hin : i < m ∧ i < 40
          · as_aux_lemma =>
            obtain ⟨hin, hi41⟩ := hin
            have hii : (i : Int) < (m : Int) := by omega
            have hi40i : (i : Int) < 40 := by omega
            obtain ⟨b, off, rfl, -⟩ := (RS.out wr GR.out).at (by omega)
            obtain ⟨x, hx⟩ : ∃ x, st i = x := ⟨_, rfl⟩
            have hx64 : x < 2 ^ 64 := by rw [← hx]; exact HST.out i hin
            have CS : Hid (∀ u, Grw w u → u.cell? ⟨b, off + i, none⟩ = some (.int .u64 (x : Nat))) := (fun u g => by
              obtain ⟨b', off', e, hc⟩ := (RS.out u g).at (by omega)
              injection e with e
              injection e with e1 e2
              subst e1 e2
              rw [← hx]
              exact hc i hin : ∀ u, Grw w u → u.cell? ⟨b, off + i, none⟩ = some (.int .u64 (x : Nat)))
            have c0 := CS.out wr GR.out
            by_cases hov : c + x < 2 ^ 64
            · as_aux_lemma =>
              have hsu := fun u => rsum_is c x (c + x) true u hc64 hx64 (sum_in hov).1 (sum_in hov).2
              obtain ⟨to, hto⟩ : ∃ to, c + x = to := ⟨_, rfl⟩
              rw [hto] at hsu hov
              have hcto : c ≤ to := by omega
              obtain ⟨l, hl'⟩ : ∃ l, L.takeWhile (dueP to) = l := ⟨_, rfl⟩
              have AD := Lib.hid (advance_F w0 p c x to L _ l F2 wr hI.m hov hto rfl hl')
              have SU := Lib.hid hsu
              have HL := Lib.hid hl'
              have FSX := Lib.hid hI.fs
              clear hsu hto hl' hI hx
              go_wp2_with fail
              refine AD.out.mono ?_
              rintro _ w2 ⟨v, rfl, hrow, hm2, hf2, hnv⟩
              have M2 := Lib.hid hm2
              have T2 := Lib.hid (II.out.told.frm hf2 (fun c => c FB.out.2.1))
              have A2 := Lib.hid (II.out.at'.frm (cap := cap1) hf2 (fun k hk c => c (FB.out.1 k hk)))
              have GR2 : Hid (Grw w w2) := (G0.out.trans hm2.grw : Grw w w2)
              have d0 := CS.out w2 GR2.out
              obtain ⟨lo, lc, ev, hlies⟩ := hrow
              subst ev
              have VT : Hid (∀ a, lo = some a → ¬ a.block = tb) := (fun a ha e => by
                subst ha
                have h1 := hnv a.block rfl
                have h2 := II.out.told.lt
                omega : ∀ a, lo = some a → ¬ a.block = tb)
              have LI := Lib.hid hlies
              obtain ⟨ln, hln⟩ : ∃ ln, l.length = ln := ⟨_, rfl⟩
              rw [hln]
              have HLN := Lib.hid hln
              have hln60 : ln ≤ 1000000 := by
                have h1 : ln ≤ L.length := by rw [← hln, ← HL.out]; exact (List.takeWhile_sublist _).length_le
                obtain ⟨S, -, h2, -⟩ := II.out.m
                have := h2.gl.few
                omega
              clear hm2 hf2 hnv c0 hlies hln
              go_wp2_with fail
              refine (SU.out _).mono ?_
              rintro _ w3 ⟨rfl, hg3⟩
              have G3 : Hid (Grw w2 (w3.alloc (.cells #[.int .u64 (to : Nat), .bool true] 39))) := (hg3.alloc _ : Grw w2 (w3.alloc (.cells #[.int .u64 (to : Nat), .bool true] 39)))
              have K3 := Lib.hid (Kp.new w3 (.int .u64 (to : Nat)) (.bool true) 39)
              have Z3 := Lib.hid (Below.size hg3)
              have e0 := gw_cell K3.out.t.c0
              have NX : Hid (∀ q : GW (w3.alloc (.cells #[.int .u64 (to : Nat), .bool true] 39)), Calls Tryd.prog 26 #[.pointer (some ⟨p, 0, none⟩)] q.x fun e w' => e = .returned (.int .u64 (to : Nat)) ∧ q.x = w') := (fun q => now_F w0 p to _ _ q.x ((M2.out.later G3.out).later q.h) : ∀ q : GW (w3.alloc (.cells #[.int .u64 (to : Nat), .bool true] 39)), Calls Tryd.prog 26 #[.pointer (some ⟨p, 0, none⟩)] q.x fun e w' => e = .returned (.int .u64 (to : Nat)) ∧ q.x = w')
              clear hg3 d0
              go_wp2_with fail
              refine wp_region_grown (by kernel_rfl) (by kernel_rfl) ?_
              repeat (go_big_quiet_step (first | (go_at_call 26; exact calls_grown_same (NX.out _))))
              refine wpQuiet_nil ?_
              rintro _ ⟨q', rfl⟩
              have GQ : Hid (Grw w2 q'.x) := (G3.out.trans q'.h : Grw w2 q'.x)
              have KQ := Lib.hid (K3.out.later q'.h)
              obtain ⟨wq, hwq⟩ : ∃ wq, q'.x = wq := ⟨_, rfl⟩
              rw [hwq] at GQ KQ ⊢
              obtain ⟨X, hX⟩ : ∃ X, w3.heap.size = X := ⟨_, rfl⟩
              rw [hX] at KQ Z3 ⊢
              have hXt : X ≠ tb := by
                have h1 := T2.out.lt
                have h2 := Z3.out
                omega
              have TQ := Lib.hid (T2.out.frm (GQ.out.frm (fun _ => False)) (fun c => c))
              have AQ := Lib.hid (A2.out.later GQ.out)
              have LQ := Lib.hid (LI.out.later GQ.out)
              have MQ : Hid (MF w0 wq p to (L.dropWhile (dueP to)) F2) := ((M2.out.later GQ.out).mono (fun k hk => Or.inl hk) : MF w0 wq p to (L.dropWhile (dueP to)) F2)
              clear e0 hwq
              go_wp2_with fail
              clear hX
              go_loopw [19] (fun u19 wk => ∃ k : Nat, u19 = .int .i64 k ∧ k ≤ ln ∧ Frm (fun q => q = tb) wq wk ∧ Told wk tb n (tk (tl now c f) l k)) (fun u19 _ => ln - (intOf u19).toNat)
              case atStart => exact ⟨0, rfl, Nat.zero_le _, Frm.rfl' _ _, TQ.out.congr (fun k _ => (tk_zero _ _ _).symm)⟩
              case round => as_aux_lemma =>
                obtain ⟨k, rfl, hk, hfr, htk⟩ := hrel
                have FR := Lib.hid hfr
                have TK := Lib.hid htk
                by_cases hkn : k < ln
                · as_aux_lemma =>
                  have hki : (k : Int) < (ln : Int) := by omega
                  have hkl : k < l.length := by rw [HLN.out]; exact hkn
                  obtain ⟨q, hq1, hq2, hq3, hq4, hq5, hq6⟩ := FSX.out.told HL.out k hkl
                  have lw := LQ.out.frm hfr (fun a ha => VT.out a ha)
                  have LW := Lib.hid lw
                  obtain ⟨ab, aoff, rfl, hca⟩ := (AQ.out.frm (cap := cap1) hfr (fun k hk c => FB.out.2.2.1 k hk c)).at (by omega : 0 < n)
                  have ya : wr.cell? ⟨ab, aoff + q, none⟩ = some (.int .u64 ((now + f q : Nat) : Int)) := hca q hq1
                  have yt := htk.cell hq1
                  have yf := htk.fz q
                  have yo := (KQ.out.frm hfr hXt).t.c0
                  obtain ⟨y, hy⟩ : ∃ y, now + f q = y := ⟨_, rfl⟩
                  obtain ⟨r, hr⟩ : ∃ r, q % 5 = r := ⟨_, rfl⟩
                  rw [hy] at ya hq3 hq4 hq5
                  rw [hq6] at yt
                  have TS : Hid (∀ x, Told x tb n (tk (tl now c f) l k) → Told (x.setCell ⟨tb, q, none⟩ (.bool true)) tb n (tk (tl now c f) l (k + 1)) ∧ Frm (fun q => q = tb) x (x.setCell ⟨tb, q, none⟩ (.bool true))) := (fun x h => h.set q (fun z _ => tk_succ _ _ _ _ _ _ hq5) : ∀ x, Told x tb n (tk (tl now c f) l k) → Told (x.setCell ⟨tb, q, none⟩ (.bool true)) tb n (tk (tl now c f) l (k + 1)) ∧ Frm (fun q => q = tb) x (x.setCell ⟨tb, q, none⟩ (.bool true)))
                  have hm5 : (q : Int).tmod 5 = (r : Int) := by rw [u5, hr]
                  have hr1 : ((r : Int) == 0) = false := by simp; omega
                  have hr2 : ¬ (r : Int) = 0 := by omega
                  have hqi : ¬ (q : Int) < 0 := by omega
                  have hqn : (q : Int) < (n : Int) := by omega
                  have hqn2 : ¬ (n : Int) ≤ (q : Int) := by omega
                  have hyc : ¬ (y : Int) ≤ (c : Int) := by omega
                  have hyto : ¬ (to : Int) < (y : Int) := by omega
                  obtain ⟨b2, off2, elo, z0, z1⟩ := lies_at lw hkl
                  obtain ⟨hg1, hg2⟩ := List.getElem?_eq_some_iff.1 hq5
                  rw [hg2] at z0 z1
                  simp only at z0 z1
                  have HQ5 := Lib.hid hq5
                  have ya' : ∀ o : Obj, (wr.alloc o).cell? ⟨ab, aoff + q, none⟩ = some (.int .u64 (y : Nat)) := fun o => ((Grw.rfl' wr).alloc o).cell ya
                  have yt' : ∀ o : Obj, (wr.alloc o).cell? ⟨tb, q, none⟩ = some (.bool false) := fun o => ((Grw.rfl' wr).alloc o).cell yt
                  have yf' : ∀ o : Obj, (wr.alloc o).frozen? ⟨tb, q, none⟩ = false := fun o => by rw [Below.frozen ((Grw.rfl' wr).alloc o) TK.out.lt]; exact yf
                  have yo' : ∀ o : Obj, (wr.alloc o).cell? ⟨X, 0, none⟩ = some (.int .u64 (to : Nat)) := fun o => ((Grw.rfl' wr).alloc o).cell yo
                  have RL : Hid (∀ x, Grw wr x → Frm (fun q => q = tb) wq (x.setCell ⟨tb, q, none⟩ (.bool true)) ∧ Told (x.setCell ⟨tb, q, none⟩ (.bool true)) tb n (tk (tl now c f) l (k + 1))) := (fun x ga => by
                    obtain ⟨h1, h2⟩ := TS.out _ (TK.out.frm (ga.frm (fun _ => False)) (fun c => c))
                    exact ⟨(FR.out.grw' ga).trans h2 (fun _ e => Or.inl e), h1⟩ : ∀ x, Grw wr x → Frm (fun q => q = tb) wq (x.setCell ⟨tb, q, none⟩ (.bool true)) ∧ Told (x.setCell ⟨tb, q, none⟩ (.bool true)) tb n (tk (tl now c f) l (k + 1)))
                  have hyc2 : decide (y ≤ c) = false := by simp; omega
                  have hyt2 : decide (to < y) = false := by simp; omega
                  have hqb : decide (n ≤ q) = false := by simp; omega
                  have hqb0 : decide ((q : Int) < 0) = false := by simp
                  have hqb1 : decide ((n : Int) ≤ (q : Int)) = false := by simp; omega
                  have hyc3 : decide ((y : Int) ≤ (c : Int)) = false := by simp; omega
                  have hyt3 : decide ((to : Int) < (y : Int)) = false := by simp; omega
                  rcases Nat.eq_zero_or_pos k with hk0 | hkp
                  · subst elo
                    have hk1 : ¬ (0 : Int) < (k : Int) := by omega
                    have hk2 : decide (0 < k) = false := by simp; omega
                    have hk3 : ¬ 0 < k := by omega
                    clear hk0
                    clear hfr htk lw hca ya yt yf yo hy hr hq1 hq2 hq3 hq4 hq5 hq6 hg1 hg2 hkl
                    go_wp2_with fail
                    go_big_quiet (fail)
                    go_wp2_with fail
                    go_roundw
                    case rel => exact ⟨k + 1, by go_num, by omega, (RL.out _ (((Grw.rfl' wr).alloc _).drewN _)).1, (RL.out _ (((Grw.rfl' wr).alloc _).drewN _)).2⟩
                    case measure => simp [intOf]; omega
                  · as_aux_lemma =>
                    obtain ⟨k', hk'⟩ : ∃ k', k = k' + 1 := ⟨k - 1, by omega⟩
                    obtain ⟨b3, off3, elo3, v0, v1⟩ := lies_at lw (show k' < l.length by omega)
                    have hnx := FSX.out.next HL.out k' l[k'] ⟨(q : Int), y⟩ (List.getElem?_eq_getElem (by omega)) (by rw [← hk']; exact hq5)
                    obtain ⟨⟨ei, et⟩, hE⟩ : ∃ E, l[k'] = E := ⟨_, rfl⟩
                    rw [hE] at v0 v1 hnx
                    simp only at v0 v1 hnx
                    subst elo
                    injection elo3 with e3
                    injection e3 with e31 e32
                    subst e31 e32
                    have v0' : ∀ o : Obj, (wr.alloc o).cell? ⟨b2, off2 + k' * 2, none⟩ = some (.int .i64 ei) := fun o => ((Grw.rfl' wr).alloc o).cell v0
                    have v1' : ∀ o : Obj, (wr.alloc o).cell? ⟨b2, off2 + k' * 2 + 1, none⟩ = some (.int .u64 (et : Nat)) := fun o => ((Grw.rfl' wr).alloc o).cell v1
                    have hk0 : (0 : Int) < (k : Int) := by omega
                    have hk1 : (k : Int) - 1 = (k' : Int) := by omega
                    have hk2 : (k' : Int) < (ln : Int) := by omega
                    have hk3 : decide (0 < k) = true := by simp; omega
                    have hw1 : IntKind.i64.wrap ((k : Int) - 1) = (k' : Int) := by rw [IntKind.wrap_i64]; omega
                    have hw2 : IntKind.i64.wrap (k' : Int) = (k' : Int) := by rw [IntKind.wrap_i64]; omega
                    have hk4 : k' < ln := by omega
                    have hk5 : decide ((0 : Int) < (k : Int)) = true := by simp; omega
                    clear hfr htk lw hca ya yt yf yo hy hr hq1 hq2 hq3 hq4 hq5 hq6 hg1 hg2 hkl v0 v1 hE hk'
                    rcases hnx with hlt | ⟨heq, hid⟩
                    · as_aux_lemma =>
                      have hn1 : ¬ (y : Int) < (et : Int) := by omega
                      have hn2 : ¬ (et : Int) = (y : Int) := by omega
                      have hn3 : ((et : Int) == (y : Int)) = false := by simp; omega
                      have hn4 : decide (y < et) = false := by simp; omega
                      have hn5 : decide ((y : Int) < (et : Int)) = false := by simp; omega
                      have hn6 : (et == y) = false := by simp; omega
                      have hn7 : decide (et = y) = false := by simp; omega
                      have hn8 : decide ((et : Int) = (y : Int)) = false := by simp; omega
                      clear hlt
                      go_wp2_with fail
                      go_big_quiet (fail)
                      go_wp2_with fail
                      go_roundw
                      case rel => exact ⟨k + 1, by go_num, by omega, (RL.out _ (((Grw.rfl' wr).alloc _).drewN _)).1, (RL.out _ (((Grw.rfl' wr).alloc _).drewN _)).2⟩
                      case measure => simp [intOf]; omega
                    · subst heq
                      have hn1 : ¬ (q : Int) ≤ ei := by omega
                      have hn4 : decide ((q : Int) ≤ ei) = false := by simp; omega
                      have hn5 : decide (et < et) = false := by simp
                      have hn6 : decide ((et : Int) < (et : Int)) = false := by simp
                      clear hid
                      go_wp2_with fail
                      go_big_quiet (fail)
                      go_wp2_with fail
                      go_roundw
                      case rel => exact ⟨k + 1, by go_num, by omega, (RL.out _ (((Grw.rfl' wr).alloc _).drewN _)).1, (RL.out _ (((Grw.rfl' wr).alloc _).drewN _)).2⟩
                      case measure => simp [intOf]; omega
                · as_aux_lemma =>
                  have hki : ¬ (k : Int) < (ln : Int) := by omega
                  obtain rfl : ln = k := by omega
                  have KK := KQ.out.frm hfr hXt
                  have x0 := KK.t.c0
                  have TF : Hid (Told wr tb n (tl now to f)) := (TK.out.congr (fun q hq => by have := FSX.out.end HL.out hcto q hq; rw [HLN.out] at this; exact this) : Told wr tb n (tl now to f))
                  have AF := Lib.hid (AQ.out.frm (cap := cap1) hfr (fun k hk c => FB.out.2.2.1 k hk c))
                  have MK := Lib.hid (MQ.out.put hfr (fun k hk => by subst hk; exact ⟨FB.out.2.1, FB.out.2.2.2⟩) POS.out)
                  clear hfr htk KK
                  go_wp2_with fail
                  go_loopw [21] (fun u21 wz => ∃ k : Nat, u21 = .int .i64 k ∧ k ≤ n ∧ Grw wr wz) (fun u21 _ => n - (intOf u21).toNat)
                  case atStart => exact ⟨0, rfl, Nat.zero_le _, Grw.rfl' _⟩
                  case round => as_aux_lemma =>
                    obtain ⟨k, rfl, hk, hgz⟩ := hrel
                    have GZ := Lib.hid hgz
                    by_cases hkn : k < n
                    · as_aux_lemma =>
                      have hki : (k : Int) < (n : Int) := by omega
                      obtain ⟨ab, aoff, rfl, hc⟩ := (AF.out.later hgz).at (by omega : 0 < n)
                      have y0 : wr.cell? ⟨ab, aoff + k, none⟩ = some (.int .u64 ((now + f k : Nat) : Int)) := hc k hkn
                      have y1 := hgz.cell (TF.out.cell hkn)
                      obtain ⟨y, hy⟩ : ∃ y, now + f k = y := ⟨_, rfl⟩
                      obtain ⟨r, hr⟩ : ∃ r, k % 5 = r := ⟨_, rfl⟩
                      have hm5 : (k : Int).tmod 5 = (r : Int) := by rw [u5, hr]
                      rw [hy] at y0
                      unfold tl at y1
                      rw [hy, hr] at y1
                      clear hc hgz hy hr
                      by_cases hr0 : r = 0
                      · subst hr0
                        simp only [ne_eq, not_true_eq_false, decide_false, Bool.false_and] at y1
                        go_wp2_with fail
                        go_quiet (fail)
                        go_wp2_with fail
                        go_roundw
                        case rel => exact ⟨k + 1, by go_num, by omega, GZ.out.drewN _⟩
                        case measure => simp [intOf]; omega
                      · as_aux_lemma =>
                        have hr1 : ((r : Int) == 0) = false := by simp; omega
                        have hr2 : ¬ (r : Int) = 0 := by omega
                        have hr3 : ((r : Int) != 0) = true := by simp; omega
                        rw [show decide (r ≠ 0) = true by simp [hr0], Bool.true_and] at y1
                        by_cases hyt : y ≤ to
                        · have hyi : (y : Int) ≤ (to : Int) := by omega
                          have hyb : decide (y ≤ to) = true := by simp [hyt]
                          have hyb2 : decide (to < y) = false := by simp; omega
                          have hyn : ¬ to < y := by omega
                          have hyn2 : ¬ (to : Int) < (y : Int) := by omega
                          rw [show decide (y ≤ to) = true by simp [hyt]] at y1
                          go_wp2_with fail
                          go_quiet (fail)
                          go_wp2_with fail
                          go_roundw
                          case rel => exact ⟨k + 1, by go_num, by omega, GZ.out.drewN _⟩
                          case measure => simp [intOf]; omega
                        · have hyi : ¬ (y : Int) ≤ (to : Int) := by omega
                          have hyb : decide (y ≤ to) = false := by simp [hyt]
                          rw [show decide (y ≤ to) = false by simp [hyt]] at y1
                          go_wp2_with fail
                          go_quiet (fail)
                          go_wp2_with fail
                          go_roundw
                          case rel => exact ⟨k + 1, by go_num, by omega, GZ.out.drewN _⟩
                          case measure => simp [intOf]; omega
                    · as_aux_lemma =>
                      have hki : ¬ (k : Int) < (n : Int) := by omega
                      have IF : Hid (Fi w0 wr p now n to tb f ao1 F2 (L.dropWhile (dueP to))) := (⟨MK.out.later hgz, FSX.out.drop hcto, TF.out.frm (hgz.frm (fun _ => False)) (fun c => c), AF.out.later hgz⟩ : Fi w0 wr p now n to tb f ao1 F2 (L.dropWhile (dueP to)))
                      clear hgz
                      go_wp2_with fail
                      go_roundw
                      case rel => exact ⟨to, i + 1, _, rfl, by go_num, by omega, by omega, by omega, hov, IF.out⟩
                      case measure => simp [intOf]; omega
            · as_aux_lemma =>
              have hsu := fun u => rsum_is c x 0 false u hc64 hx64 (sum_out hov).1 (sum_out hov).2
              have SU := Lib.hid hsu
              have AD := Lib.hid (advance_F_no w0 p c x L F2 wr hI.m hx64 hov)
              clear hsu hI hx
              go_wp2_with fail
              refine AD.out.mono ?_
              rintro _ w2 ⟨rfl, rfl⟩
              go_wp2_with fail
              refine (SU.out _).mono ?_
              rintro _ w3 ⟨rfl, hg3⟩
              have NX := Lib.hid (now_F w0 p c L F2 _ (II.out.m.later (hg3.alloc (.cells #[.int .u64 ((0 : Nat) : Int), .bool false] 39))))
              have G3 : Hid (Grw wr (w3.alloc (.cells #[.int .u64 ((0 : Nat) : Int), .bool false] 39))) := (hg3.alloc _ : Grw wr (w3.alloc (.cells #[.int .u64 ((0 : Nat) : Int), .bool false] 39)))
              clear hg3 c0
              go_wp2_with fail
              refine NX.out.mono ?_
              rintro _ w4 ⟨rfl, hw4⟩
              have IF : Hid (Fi w0 w4 p now n c tb f ao1 F2 L) := (by rw [← hw4]; exact ⟨II.out.m.later G3.out, II.out.fs, II.out.told.frm (G3.out.frm (fun _ => False)) (fun c => c), II.out.at'.later G3.out⟩ : Fi w0 w4 p now n c tb f ao1 F2 L)
              clear hw4
              go_wp2_with fail
              go_roundw
              case rel => exact ⟨c, i + 1, L, rfl, by go_num, by omega, by omega, hcn, hc64, IF.out⟩
              case measure => simp [intOf]; omega
          · as_aux_lemma =>
            have GE := GR
            by_cases hie : i < m
            · have hii : (i : Int) < (m : Int) := by omega
              have hi40i : ¬ (i : Int) < 40 := by omega
              clear hI
              go_wp2_with fail
              refine (WK.out _ GE.out).mono ?_
              rintro _ w9 ⟨rfl, hg9⟩
              have GF := Lib.hid (GE.out.trans hg9)
              clear hg9
              go_wp2_with fail
              go_ret
              exact ⟨rfl, GF.out⟩
            · have hii : ¬ (i : Int) < (m : Int) := by omega
              clear hI
              go_wp2_with fail
              refine (WK.out _ GE.out).mono ?_
              rintro _ w9 ⟨rfl, hg9⟩
              have GF := Lib.hid (GE.out.trans hg9)
              clear hg9
              go_wp2_with fail
              go_ret
              exact ⟨rfl, GF.out⟩
  · have GN : Hid (Grw w w1) := (G0.out.trans hg1 : Grw w w1)
    clear hg1
    go_wp2_with fail
    refine (WK.out _ GN.out).mono ?_
    rintro _ w2 ⟨rfl, hg2⟩
    have GF := Lib.hid (GN.out.trans hg2)
    clear hg2
    go_wp2_with fail
    go_ret
    exact ⟨rfl, GF.out⟩
end Go.Proofs.YtjkhgpdhhnfmlaaDoor
