/- The law WheelPlaces at this program. -/
import Derived.Test.YtifgpjdcbkjomaaDoorVp
namespace Go.Proofs.YtifgpjdcbkjomaaDoor
open Go.RowKit TM MK
open RG (Du La listR putB putR dropR dropO takeR hasId Srt)
open VM (RK BK lvl idsD)
set_option linter.unusedSimpArgs false

theorem adv_any (w0 : World) (p now m : Nat) (L : List Du) (F : Nat → Prop) (w : World) (h : MF w0 w p now L F) (hm : m < 2 ^ 64) : ∃ nw L', (∀ d ∈ L', d ∈ L) ∧ Calls Tryd.prog 18 #[.pointer (some ⟨p, 0, none⟩), .int .u64 m] w (fun e w' => ∃ lo lm lc er, e = .returned (.tuple #[.slice lo lm lc, .int .i64 er]) ∧ MF w0 w' p nw L' F ∧ Frm (fun k => ¬ F k) w w' ∧ lm + L'.length = L.length ∧ ((er == 0) = true ∨ lm = 0)) := by
  by_cases hs : now + m < 2 ^ 64
  · refine ⟨now + m, L.dropWhile (dueP (now + m)), fun d hd => (List.dropWhile_sublist _).subset hd, (advance_F w0 p now m (now + m) L _ _ F w h hs rfl rfl rfl).mono ?_⟩
    rintro e w' ⟨v, he, ⟨lo, lc, rfl, _⟩, hm', hf, _⟩
    refine ⟨lo, _, lc, 0, he, hm'.mono (fun k hk => Or.inl hk), hf, ?_, Or.inl rfl⟩
    have := congrArg List.length (List.takeWhile_append_dropWhile (p := dueP (now + m)) (l := L))
    rw [List.length_append] at this
    exact this
  · refine ⟨now, L, fun d hd => hd, (advance_M_no w0 p now m L w h.mw hm hs).mono ?_⟩
    rintro e w' ⟨he, rfl⟩
    exact ⟨none, 0, 0, 14, he, h, Frm.rfl' _ _, by omega, Or.inr rfl⟩
/-- the wheel, the times, the two arrays of the law. -/
structure Pl (w0 wr : World) (p nw X Y : Nat) (L : List Du) (ao : Option Addr) (n cap : Nat) (a g h : Nat → Nat) : Prop where
  m : MF w0 wr p nw L (fun k => k = X ∨ k = Y ∨ (Value.slice ao n cap).ownBlock = some k)
  row : RowU wr ao n a
  bx : wr.heap[X]? = some (.cells (a7 g) 64 (0, 0))
  by' : wr.heap[Y]? = some (.cells (u7 h) 67 (0, 0))
  ge : w0.heap.size ≤ X ∧ w0.heap.size ≤ Y ∧ X ≠ Y ∧ (Value.slice ao n cap).ownBlock ≠ some X ∧ (Value.slice ao n cap).ownBlock ≠ some Y
  pos : 0 < w0.heap.size
theorem Pl.later {w0 wr x : World} {p nw X Y : Nat} {L : List Du} {ao : Option Addr} {n cap : Nat} {a g h : Nat → Nat} (P : Pl w0 wr p nw X Y L ao n cap a g h) (gr : Grw wr x) : Pl w0 x p nw X Y L ao n cap a g h :=
  ⟨P.m.later gr, P.row.later gr, by rw [gr.block (Array.getElem?_eq_some_iff.1 P.bx).1]; exact P.bx, by rw [gr.block (Array.getElem?_eq_some_iff.1 P.by').1]; exact P.by', P.ge, P.pos⟩
theorem Pl.cx {w0 wr : World} {p nw X Y : Nat} {L : List Du} {ao : Option Addr} {n cap : Nat} {a g h : Nat → Nat} (P : Pl w0 wr p nw X Y L ao n cap a g h) {k : Nat} (hk : k < 7) : wr.cell? ⟨X, k, none⟩ = some (.int .i64 (g k : Nat)) ∧ wr.frozen? ⟨X, k, none⟩ = false :=
  ⟨by simp [World.cell?, P.bx, a7_get g k hk], by simp [World.frozen?, P.bx]⟩
theorem Pl.cy {w0 wr : World} {p nw X Y : Nat} {L : List Du} {ao : Option Addr} {n cap : Nat} {a g h : Nat → Nat} (P : Pl w0 wr p nw X Y L ao n cap a g h) {k : Nat} (hk : k < 7) : wr.cell? ⟨Y, k, none⟩ = some (.int .u64 (h k : Nat)) ∧ wr.frozen? ⟨Y, k, none⟩ = false :=
  ⟨by simp [World.cell?, P.by', u7_get h k hk], by simp [World.frozen?, P.by']⟩
theorem Pl.setX {w0 wr : World} {p nw X Y : Nat} {L : List Du} {ao : Option Addr} {n cap : Nat} {a g g' h : Nat → Nat} (P : Pl w0 wr p nw X Y L ao n cap a g h) {k : Nat} (hk : k < 7) (e : ∀ i, i ≠ k → g' i = g i) : Pl w0 (wr.setCell ⟨X, k, none⟩ (.int .i64 (g' k : Nat))) p nw X Y L ao n cap a g' h := by
  have f1 : Frm (fun q => q = X) wr (wr.setCell ⟨X, k, none⟩ (.int .i64 (g' k : Nat))) := frm_set wr ⟨X, k, none⟩ _ rfl
  have hb := P.bx
  refine ⟨P.m.put f1 (fun q hq => ⟨Or.inl hq, hq ▸ P.ge.1⟩) P.pos, P.row.frm (cap := cap) f1 (fun q hq c => P.ge.2.2.2.1 (c ▸ hq)), ?_, ?_, P.ge, P.pos⟩
  · rw [← a7_set g g' k hk e]
    simp [World.setCell, Array.getElem?_modify, hb]
  · rw [f1.block Y (Array.getElem?_eq_some_iff.1 P.by').1 (fun c => P.ge.2.2.1 c.symm)]; exact P.by'
theorem Pl.setY {w0 wr : World} {p nw X Y : Nat} {L : List Du} {ao : Option Addr} {n cap : Nat} {a g h h' : Nat → Nat} (P : Pl w0 wr p nw X Y L ao n cap a g h) {k : Nat} (hk : k < 7) (e : ∀ i, i ≠ k → h' i = h i) : Pl w0 (wr.setCell ⟨Y, k, none⟩ (.int .u64 (h' k : Nat))) p nw X Y L ao n cap a g h' := by
  have f1 : Frm (fun q => q = Y) wr (wr.setCell ⟨Y, k, none⟩ (.int .u64 (h' k : Nat))) := frm_set wr ⟨Y, k, none⟩ _ rfl
  have hb := P.by'
  refine ⟨P.m.put f1 (fun q hq => ⟨Or.inr (Or.inl hq), hq ▸ P.ge.2.1⟩) P.pos, P.row.frm (cap := cap) f1 (fun q hq c => P.ge.2.2.2.2 (c ▸ hq)), ?_, ?_, P.ge, P.pos⟩
  · rw [f1.block X (Array.getElem?_eq_some_iff.1 P.bx).1 (fun c => P.ge.2.2.1 c)]; exact P.bx
  · rw [← u7_set h h' k hk e]
    simp [World.setCell, Array.getElem?_modify, hb]
theorem Pl.start {w0 w : World} {p nw : Nat} {L : List Du} {ao : Option Addr} {n cap : Nat} {a : Nat → Nat} (hm : MF w0 w p nw L (fun k => (Value.slice ao n cap).ownBlock = some k)) (hr : RowU w ao n a) (hp : 0 < w0.heap.size) :
    Pl w0 ((w.alloc (.cells #[.int .i64 0, .int .i64 0, .int .i64 0, .int .i64 0, .int .i64 0, .int .i64 0, .int .i64 0] 64)).alloc (.cells #[.int .u64 0, .int .u64 0, .int .u64 0, .int .u64 0, .int .u64 0, .int .u64 0, .int .u64 0] 67)) p nw w.heap.size (w.heap.size + 1) L ao n cap a (fun _ => 0) (fun _ => 0) := by
  have g1 : Grw w ((w.alloc (.cells #[.int .i64 0, .int .i64 0, .int .i64 0, .int .i64 0, .int .i64 0, .int .i64 0, .int .i64 0] 64)).alloc (.cells #[.int .u64 0, .int .u64 0, .int .u64 0, .int .u64 0, .int .u64 0, .int .u64 0, .int .u64 0] 67)) := ((Grw.rfl' w).alloc _).alloc _
  have hs := Below.size hm.grw
  refine ⟨hm.add g1 (fun k hk => ?_), hr.later g1, ?_, ?_, ⟨hs, by omega, by omega, fun c => ?_, fun c => ?_⟩, hp⟩
  · simp only [size_new]
    rcases hk with c | c | c
    · exact Or.inr ⟨by omega, by omega⟩
    · exact Or.inr ⟨by omega, by omega⟩
    · exact Or.inl c
  · rw [a7_zero, heap_old _ _ _ (by rw [size_new]; omega)]
    exact heap_alloc_new w _
  · rw [u7_zero]
    have := heap_alloc_new (w.alloc (.cells #[.int .i64 0, .int .i64 0, .int .i64 0, .int .i64 0, .int .i64 0, .int .i64 0, .int .i64 0] 64)) (.cells #[.int .u64 0, .int .u64 0, .int .u64 0, .int .u64 0, .int .u64 0, .int .u64 0, .int .u64 0] 67)
    rw [size_new] at this
    exact this
  · have := hm.lt c; omega
  · have := hm.lt c; omega
theorem Pl.congr {w0 wr : World} {p nw X Y : Nat} {L : List Du} {ao : Option Addr} {n cap : Nat} {a g h g' h' : Nat → Nat} (P : Pl w0 wr p nw X Y L ao n cap a g h) (e1 : ∀ i, g i = g' i) (e2 : ∀ i, h i = h' i) : Pl w0 wr p nw X Y L ao n cap a g' h' := by
  obtain rfl : g = g' := funext e1
  obtain rfl : h = h' := funext e2
  exact P
theorem ordM1 : (FloatKind.f64.format.order 13830554455654793216 13830554455654793216 != some .eq) = false := by decide +kernel
set_option maxHeartbeats 8000000 in
set_option maxRecDepth 100000 in
theorem places_walk (ao : Option Addr) (n cap now m : Nat) (f : Nat → Nat) (w : World) (t : Tab w) (hn : now < 2 ^ 64) (hm : m < 2 ^ 64) (hr : RowU w ao n f) (hf : ∀ j, j < n → f j < 2 ^ 64) (hl : n ≤ 9223372036854775807) :
    Calls Tryd.prog 6 #[.int .u64 now, .agg #[.slice ao n cap], .int .u64 m] w fun e w' => e = .returned (.bool true) ∧ Grw w w' := by
  have g0 : Grw w (w.alloc (.cells #[.slice ao n cap] 56)) := (Grw.rfl' w).alloc _
  have LD := Lib.hid (laid_walk ao n cap now f _ (tab_grw g0 t) hn (hr.later g0) hf hl)
  have WK := Lib.hid (fun u (g : Grw w u) => wakes_any u (tab_grw g t))
  have G0 := Lib.hid g0
  have POS : Hid (0 < (w.alloc (.cells #[.slice ao n cap] 56)).heap.size) := (by rw [size_new]; omega : 0 < (w.alloc (.cells #[.slice ao n cap] 56)).heap.size)
  clear t hn hr hf g0
  go_enter Tryd.func6, Tryd.ntmps6
  go_wp2_with fail
  refine LD.out.mono ?_
  rintro e w1 (⟨hok, p, ao2, cap2, rfl, hmf, hrow, hnew⟩ | ⟨hno, p, rfl, hg⟩)
  · obtain ⟨nw, L', hsub, hAV⟩ := adv_any _ p now m _ _ w1 hmf hm
    have AV := Lib.hid hAV
    have RW1 := Lib.hid hrow
    obtain ⟨a, ha⟩ : ∃ a : Nat → Nat, a = fun j => now + f j := ⟨_, rfl⟩
    have RW1 : Hid (RowU w1 ao2 n a) := (by rw [ha]; exact hrow : RowU w1 ao2 n a)
    have FR : Hid (Fr L' a n) := (by rw [ha]; exact (fr_lay now f n).sub hsub : Fr L' a n)
    have AP : Hid (∀ j, j < n → 0 < a j ∧ a j < 2 ^ 64) := (fun j hj => by rw [ha]; have := hok.2 j hj; simp only; omega : ∀ j, j < n → 0 < a j ∧ a j < 2 ^ 64)
    have h60 : n ≤ 60 := hok.1
    have hll := lay_len now f n
    have HLL := Lib.hid hll
    clear hAV hrow hnew hsub hok hmf hll ha
    go_wp2_with fail
    refine AV.out.mono ?_
    rintro _ w2 ⟨lo, lm, lc, er, rfl, hm2, hf2, hlen, her⟩
    rw [HLL.out] at hlen
    have P0 := Lib.hid (Pl.start hm2 (RW1.out.frm (cap := cap2) hf2 (fun k hk c => c hk)) POS.out)
    have GL2 := Lib.hid hm2.mw.gl
    obtain ⟨X, hX⟩ : ∃ X, w2.heap.size = X := ⟨_, rfl⟩
    have P0' : Hid (Pl (w.alloc (.cells #[.slice ao n cap] 56)) ((w2.alloc (.cells #[.int .i64 0, .int .i64 0, .int .i64 0, .int .i64 0, .int .i64 0, .int .i64 0, .int .i64 0] 64)).alloc (.cells #[.int .u64 0, .int .u64 0, .int .u64 0, .int .u64 0, .int .u64 0, .int .u64 0, .int .u64 0] 67)) p nw X (X + 1) L' ao2 n cap2 a (lcN nw L' a 0) (mxN nw L' a 0)) := (by rw [← hX]; exact P0.out.congr (fun _ => rfl) (fun _ => rfl) : Pl (w.alloc (.cells #[.slice ao n cap] 56)) ((w2.alloc (.cells #[.int .i64 0, .int .i64 0, .int .i64 0, .int .i64 0, .int .i64 0, .int .i64 0, .int .i64 0] 64)).alloc (.cells #[.int .u64 0, .int .u64 0, .int .u64 0, .int .u64 0, .int .u64 0, .int .u64 0, .int .u64 0] 67)) p nw X (X + 1) L' ao2 n cap2 a (lcN nw L' a 0) (mxN nw L' a 0))
    clear hm2 hf2 P0 RW1
    have RD : Hid (∀ u i, i < n → MW (w.alloc (.cells #[.slice ao n cap] 56)) u p nw L' → (inL L' a i = false ∧ (Calls Tryd.prog 21 #[.pointer (some ⟨p, 0, none⟩), .int .i64 (i : Nat)] u fun e w' => e = .returned (.tuple #[.complex .f64 0 0, .bool false]) ∧ Grw u w') ∧ ∀ x, Grw u x → Calls Tryd.prog 23 #[.pointer (some ⟨p, 0, none⟩), .int .i64 (i : Nat)] x fun e w' => e = .returned (.tuple #[.int .u64 0, .bool false]) ∧ x = w') ∨
      (inL L' a i = true ∧ (Calls Tryd.prog 21 #[.pointer (some ⟨p, 0, none⟩), .int .i64 (i : Nat)] u fun e w' => e = .returned (.tuple #[.complex .f64 (floatOfInt .f64 (posS nw (a i))) (floatOfInt .f64 (lvl nw (a i) : Nat)), .bool true]) ∧ Grw u w') ∧ ∀ x, Grw u x → Calls Tryd.prog 23 #[.pointer (some ⟨p, 0, none⟩), .int .i64 (i : Nat)] x fun e w' => e = .returned (.tuple #[.int .u64 (a i : Nat), .bool true]) ∧ x = w')) := (fun u i hi P => by
        have hat := inL_atO GL2.out.ids FR.out i
        have hwi : Wi (i : Int) := ⟨by omega, by omega⟩
        cases c : inL L' a i with
        | false =>
          rw [c] at hat
          simp only [Bool.false_eq_true, if_false] at hat
          exact Or.inl ⟨rfl, place_M _ p nw L' i 0 0 false u P hwi (by rw [hat]; rfl) (by rw [hat]; rfl) (by rw [hat]; rfl), fun x g => at_M _ p nw L' i 0 false x (P.later g) hwi (by rw [hat]; rfl) (by rw [hat]; rfl)⟩
        | true =>
          rw [c] at hat
          simp only [if_true] at hat
          exact Or.inr ⟨rfl, place_M _ p nw L' i _ _ true u P hwi (by rw [hat]; rfl) (by rw [hat]; rfl) (by rw [hat]; rfl), fun x g => at_M _ p nw L' i (a i) true x (P.later g) hwi (by rw [hat]; rfl) (by rw [hat]; rfl)⟩ : ∀ u i, i < n → MW (w.alloc (.cells #[.slice ao n cap] 56)) u p nw L' → (inL L' a i = false ∧ (Calls Tryd.prog 21 #[.pointer (some ⟨p, 0, none⟩), .int .i64 (i : Nat)] u fun e w' => e = .returned (.tuple #[.complex .f64 0 0, .bool false]) ∧ Grw u w') ∧ ∀ x, Grw u x → Calls Tryd.prog 23 #[.pointer (some ⟨p, 0, none⟩), .int .i64 (i : Nat)] x fun e w' => e = .returned (.tuple #[.int .u64 0, .bool false]) ∧ x = w') ∨
      (inL L' a i = true ∧ (Calls Tryd.prog 21 #[.pointer (some ⟨p, 0, none⟩), .int .i64 (i : Nat)] u fun e w' => e = .returned (.tuple #[.complex .f64 (floatOfInt .f64 (posS nw (a i))) (floatOfInt .f64 (lvl nw (a i) : Nat)), .bool true]) ∧ Grw u w') ∧ ∀ x, Grw u x → Calls Tryd.prog 23 #[.pointer (some ⟨p, 0, none⟩), .int .i64 (i : Nat)] x fun e w' => e = .returned (.tuple #[.int .u64 (a i : Nat), .bool true]) ∧ x = w'))
    go_wp2_with fail
    clear hX
    go_loopw [14, 15] (fun u14 u15 wr => ∃ i : Nat, i ≤ n ∧ u14 = .int .i64 (leN L' a i : Nat) ∧ u15 = .int .i64 i ∧ Pl (w.alloc (.cells #[.slice ao n cap] 56)) wr p nw X (X + 1) L' ao2 n cap2 a (lcN nw L' a i) (mxN nw L' a i)) (fun _ u15 _ => n - (intOf u15).toNat)
    case atStart => exact ⟨0, Nat.zero_le _, rfl, rfl, P0'.out⟩
    case round =>
      obtain ⟨i, hi, rfl, rfl, hP⟩ := hrel
      by_cases hin : i < n
      · have hii : (i : Int) < (n : Int) := by omega
        have hle := leN_le L' a i
        rcases RD.out wr i hin hP.m.mw with ⟨hfalse, hC, hA⟩ | ⟨htrue, hC, hA⟩
        · have C := Lib.hid hC
          have AT := Lib.hid hA
          have PP := Lib.hid hP
          have SC : Hid (∀ k, lcN nw L' a (i + 1) k = lcN nw L' a i k ∧ mxN nw L' a (i + 1) k = mxN nw L' a i k) := (fun k => ⟨by rw [lcN_succ, hfalse]; simp, by show (if _ then _ else _) = _; rw [hfalse]; simp⟩ : ∀ k, lcN nw L' a (i + 1) k = lcN nw L' a i k ∧ mxN nw L' a (i + 1) k = mxN nw L' a i k)
          have SL : Hid (leN L' a (i + 1) = leN L' a i) := (by rw [leN_succ, hfalse]; simp : leN L' a (i + 1) = leN L' a i)
          obtain ⟨c, hc⟩ : ∃ c, leN L' a i = c := ⟨_, rfl⟩
          rw [hc] at hle SL ⊢
          clear hC hA hP hfalse hc
          go_wp2_with fail
          refine C.out.mono ?_
          rintro _ w3 ⟨rfl, hg3⟩
          have P3 := Lib.hid (PP.out.later hg3)
          have AX := Lib.hid (AT.out _ hg3)
          clear hg3
          go_wp2_with fail
          refine AX.out.mono ?_
          rintro _ w4 ⟨rfl, rfl⟩
          go_wp2_with fail
          go_roundw
          case rel => exact ⟨i + 1, by omega, by rw [SL.out], by go_num, P3.out.congr (fun k => (SC.out k).1.symm) (fun k => (SC.out k).2.symm)⟩
          case measure => simp [intOf]; omega
        · have C := hC
          have AT := Lib.hid hA
          have PP := Lib.hid hP
          obtain ⟨b2, off2, rfl, hrc⟩ := hP.row.at (by omega : 0 < n)
          have r0 := hrc i hin
          have hpx := AP.out i hin
          have htop := lvl_top GL2.out.nw hpx.2
          have hdg := dig_dg (a i) (lvl nw (a i))
          have hl6 := VM.lvl_six nw (a i)
          have hsr := posS_range nw (a i)
          have hps : lvl nw (a i) < 6 → posS nw (a i) = dig ((a i : Nat) : Int) (lvl nw (a i)) := fun h => by unfold posS; rw [if_neg (by omega)]; exact hdg.symm
          have hps6 : lvl nw (a i) = 6 → posS nw (a i) = -1 := fun h => by unfold posS; rw [if_pos h]
          have SC : Hid (∀ k, lcN nw L' a (i + 1) k = (if k = lvl nw (a i) then lcN nw L' a i (lvl nw (a i)) + 1 else lcN nw L' a i k) ∧ mxN nw L' a (i + 1) k = (if k = lvl nw (a i) then max (mxN nw L' a i (lvl nw (a i))) (a i) else mxN nw L' a i k)) := (fun k => by
            rw [lcN_succ]
            have e2 : mxN nw L' a (i + 1) k = if inL L' a i && decide (lvl nw (a i) = k) then max (mxN nw L' a i k) (a i) else mxN nw L' a i k := rfl
            rw [e2, htrue]
            by_cases q : k = lvl nw (a i)
            · subst q; simp
            · have q' : ¬ lvl nw (a i) = k := fun e => q e.symm
              simp [q, q'] : ∀ k, lcN nw L' a (i + 1) k = (if k = lvl nw (a i) then lcN nw L' a i (lvl nw (a i)) + 1 else lcN nw L' a i k) ∧ mxN nw L' a (i + 1) k = (if k = lvl nw (a i) then max (mxN nw L' a i (lvl nw (a i))) (a i) else mxN nw L' a i k))
          have SL : Hid (leN L' a (i + 1) = leN L' a i + 1) := (by rw [leN_succ, htrue]; simp : leN L' a (i + 1) = leN L' a i + 1)
          have hqle := lcN_le nw L' a i (lvl nw (a i))
          have IX := index_dig (a i) (lvl nw (a i))
          have HA := Lib.hid (fun u => digits_any ((a i : Nat) : Int) u ⟨by omega, by omega⟩)
          have TPx := fun u tv h => top_is (a i) nw tv u hpx.2 GL2.out.nw h
          have r1 := fun w => run_back (posS nw (a i)) hsr.1 hsr.2 w
          have r2 := fun w => run_back ((lvl nw (a i) : Nat) : Int) (by omega) (by omega) w
          have cxy := fun (u : World) (P : Pl (w.alloc (.cells #[.slice ao n cap] 56)) u p nw X (X + 1) L' (some ⟨b2, off2, none⟩) n cap2 a (lcN nw L' a i) (mxN nw L' a i)) => And.intro (P.cx (k := lvl nw (a i)) (by omega)) (P.cy (k := lvl nw (a i)) (by omega))
          have PS := fun (u : World) (P : Pl (w.alloc (.cells #[.slice ao n cap] 56)) u p nw X (X + 1) L' (some ⟨b2, off2, none⟩) n cap2 a (lcN nw L' a i) (mxN nw L' a i)) => (((P.setX (k := lvl nw (a i)) (g' := lcN nw L' a (i + 1)) (by omega) (fun k hk => by rw [(SC.out k).1, if_neg hk])).setY (k := lvl nw (a i)) (h' := mxN nw L' a (i + 1)) (by omega) (fun k hk => by rw [(SC.out k).2, if_neg hk])))
          have es1 := (SC.out (lvl nw (a i))).1
          have es2 := (SC.out (lvl nw (a i))).2
          rw [if_pos rfl] at es1 es2
          rw [es1, es2] at PS
          have hnb : ¬ b2 = X ∧ ¬ b2 = X + 1 := ⟨fun e => hP.ge.2.2.2.1 (congrArg some e), fun e => hP.ge.2.2.2.2 (congrArg some e)⟩
          obtain ⟨hnb1, hnb2⟩ := hnb
          obtain ⟨c, hc⟩ : ∃ c, leN L' a i = c := ⟨_, rfl⟩
          obtain ⟨l, hlv⟩ : ∃ l, lvl nw (a i) = l := ⟨_, rfl⟩
          obtain ⟨sl, hsl⟩ : ∃ sl, posS nw (a i) = sl := ⟨_, rfl⟩
          rw [hlv, hsl] at C
          rw [hlv] at htop hl6 hps hps6 hqle IX r2 cxy PS
          rw [hsl] at hps hps6 r1 hsr
          obtain ⟨q, hq⟩ : ∃ q, lcN nw L' a i l = q := ⟨_, rfl⟩
          obtain ⟨mq, hmq⟩ : ∃ mq, mxN nw L' a i l = mq := ⟨_, rfl⟩
          rw [hq, hmq] at cxy PS
          rw [hq] at hqle
          obtain ⟨x, hx⟩ : ∃ x, a i = x := ⟨_, rfl⟩
          rw [hx] at htop hps IX HA TPx PS r0 hpx
          have AT : Hid (∀ y, Grw wr y → Calls Tryd.prog 23 #[.pointer (some ⟨p, 0, none⟩), .int .i64 (i : Nat)] y fun e w' => e = .returned (.tuple #[.int .u64 (x : Nat), .bool true]) ∧ y = w') := (by rw [← hx]; exact AT.out : ∀ y, Grw wr y → Calls Tryd.prog 23 #[.pointer (some ⟨p, 0, none⟩), .int .i64 (i : Nat)] y fun e w' => e = .returned (.tuple #[.int .u64 (x : Nat), .bool true]) ∧ y = w')
          obtain ⟨Mx, hMx⟩ : ∃ Mx, max mq x = Mx := ⟨_, rfl⟩
          rw [hMx] at PS
          have hMi : max (mq : Int) (x : Int) = (Mx : Int) := by omega
          rw [hc] at hle SL ⊢
          obtain ⟨fs, hfs⟩ : ∃ fs, floatOfInt .f64 sl = fs := ⟨_, rfl⟩
          obtain ⟨fl', hfl⟩ : ∃ fl', floatOfInt .f64 ((l : Nat) : Int) = fl' := ⟨_, rfl⟩
          rw [hfs] at r1
          rw [hfl] at r2
          rw [hfs, hfl] at C
          have HFS := Lib.hid hfs
          have R1 := Lib.hid r1
          have R2 := Lib.hid r2
          have C := Lib.hid C
          have CXY := Lib.hid cxy
          have PSS := Lib.hid PS
          have TPH := Lib.hid TPx
          have HT := Lib.hid htop
          have HPS := Lib.hid (And.intro hps hps6)
          have IXH := Lib.hid IX
          have RR0 : Hid (∀ u, Grw wr u → u.cell? ⟨b2, off2 + i, none⟩ = some (.int .u64 (x : Nat))) := (fun u g => g.cell r0 : ∀ u, Grw wr u → u.cell? ⟨b2, off2 + i, none⟩ = some (.int .u64 (x : Nat)))
          have hn1 : ¬ X = X + 1 := by omega
          have hn2 : ¬ X + 1 = X := by omega
          have hli : (l : Int) ≤ 6 := by omega
          clear hC hA hP hrc r0 htop hdg hps hps6 IX TPx r1 r2 cxy PS es1 es2 hc hlv hsl hq hmq hx hMx hfs hfl htrue hsr
          go_wp2_with fail
          refine C.out.mono ?_
          rintro _ w3 ⟨rfl, hg3⟩
          have P3 := Lib.hid (PP.out.later hg3)
          have AX := Lib.hid (AT.out _ hg3)
          obtain ⟨⟨c1, c2⟩, c3, c4⟩ := CXY.out w3 P3.out
          have c5 := RR0.out w3 hg3
          have P5 := PSS.out w3 P3.out
          have NX := Lib.hid (now_M _ p nw L' _ P5.m.mw)
          have P5 := Lib.hid P5
          clear hg3
          go_wp2_with fail
          refine AX.out.mono ?_
          rintro _ w4 ⟨rfl, rfl⟩
          rcases Nat.lt_or_ge l 6 with hl5 | hl5
          · have hl5i : (l : Int) < 6 := by omega
            have hnot6 : ((l : Int) == 6) = false := by simp; omega
            obtain ⟨tv, htv⟩ : ∃ tv, topV (x : Int) (nw : Int) = tv := ⟨_, rfl⟩
            have hmx : max tv 0 = (l : Int) := by
              rcases HT.out with ⟨_, h⟩ | ⟨h, _⟩
              · rw [htv] at h; exact h
              · omega
            have T := Lib.hid (TPH.out ((w3.setCell ⟨X, l, none⟩ (.int .i64 ((q : Int) + 1))).setCell ⟨X + 1, l, none⟩ (.int .u64 (Mx : Nat))) tv htv)
            have hsd : sl = dig (x : Int) l := HPS.out.1 hl5
            have IK := Lib.hid (IXH.out (by omega))
            have HD := Lib.hid (HA.out ((w3.setCell ⟨X, l, none⟩ (.int .i64 ((q : Int) + 1))).setCell ⟨X + 1, l, none⟩ (.int .u64 (Mx : Nat))))
            obtain ⟨dx, hdx⟩ : ∃ dx, dig (x : Int) l = dx := ⟨_, rfl⟩
            rw [hdx] at hsd IK
            subst hsd
            clear htv hdx
            go_wp2_with (first | simp only [R1.out] | simp only [R2.out])
            refine NX.out.mono ?_
            rintro _ w5 ⟨rfl, rfl⟩
            go_wp2_with fail
            refine T.out.mono ?_
            rintro _ w5 ⟨rfl, rfl⟩
            go_wp2_with (first | simp only [R1.out] | simp only [R2.out])
            refine HD.out.mono ?_
            rintro _ _ ⟨rfl, k1, k2, rfl⟩
            go_wp2_with (simp only [IK.out])
            go_roundw
            case rel => exact ⟨i + 1, by omega, by rw [SL.out]; go_num, by go_num, P5.out.later (((Grw.rfl' _).alloc _).alloc _)⟩
            case measure => simp [intOf]; omega
          · obtain rfl : l = 6 := by omega
            obtain ⟨tv, htv⟩ : ∃ tv, topV (x : Int) (nw : Int) = tv := ⟨_, rfl⟩
            have hmx : ¬ tv < 6 := by
              rcases HT.out with ⟨h, _⟩ | ⟨_, h⟩
              · omega
              · rw [htv] at h; omega
            have hmx2 : decide (tv < 6) = false := by simp; omega
            have T := Lib.hid (TPH.out ((w3.setCell ⟨X, 6, none⟩ (.int .i64 ((q : Int) + 1))).setCell ⟨X + 1, 6, none⟩ (.int .u64 (Mx : Nat))) tv htv)
            have hfs : fs = 13830554455654793216 := by rw [← HFS.out, HPS.out.2 rfl]; exact floatM1
            subst hfs
            have om := ordM1
            clear htv
            go_wp2_with (first | simp only [R1.out] | simp only [R2.out])
            refine NX.out.mono ?_
            rintro _ w5 ⟨rfl, rfl⟩
            go_wp2_with fail
            refine T.out.mono ?_
            rintro _ w5 ⟨rfl, rfl⟩
            go_wp2_with (first | simp only [R1.out] | simp only [R2.out])
            go_roundw
            case rel => exact ⟨i + 1, by omega, by rw [SL.out]; go_num, by go_num, P5.out⟩
            case measure => simp [intOf]; omega
      · obtain rfl : n = i := by omega
        have hii : ¬ (n : Int) < (n : Int) := by omega
        have hle := leN_all GL2.out.ids FR.out
        have hlc := fun k => lcN_all (now := nw) GL2.out.ids FR.out k
        have PP : Hid (Pl (w.alloc (.cells #[.slice ao n cap] 56)) wr p nw X (X + 1) L' ao2 n cap2 a (ld nw L') (mxN nw L' a n)) := (hP.congr hlc (fun _ => rfl) : Pl (w.alloc (.cells #[.slice ao n cap] 56)) wr p nw X (X + 1) L' ao2 n cap2 a (ld nw L') (mxN nw L' a n))
        rw [hle]
        have MXL : Hid (∀ j k, j < n → inL L' a j = true → k < lvl nw (a j) → mxN nw L' a n k < a j) := (fun j k hj h1 h2 => mx_less GL2.out.ge (AP.out j hj).1 h1 h2 : ∀ j k, j < n → inL L' a j = true → k < lvl nw (a j) → mxN nw L' a n k < a j)
        clear hP hle hlc
        go_wp2_with fail
        go_loopw [21] (fun u21 wr => ∃ j : Nat, j ≤ n ∧ u21 = .int .i64 j ∧ Pl (w.alloc (.cells #[.slice ao n cap] 56)) wr p nw X (X + 1) L' ao2 n cap2 a (ld nw L') (mxN nw L' a n)) (fun u21 _ => n - (intOf u21).toNat)
        case atStart => exact ⟨0, Nat.zero_le _, rfl, PP.out⟩
        case round =>
          obtain ⟨j, hj, rfl, hP⟩ := hrel
          have P2 := Lib.hid hP
          by_cases hjn : j < n
          · have hji : (j : Int) < (n : Int) := by omega
            rcases RD.out _ j hjn hP.m.mw with ⟨hfalse, hC, hA⟩ | ⟨htrue, hC, hA⟩
            · have C := Lib.hid hC
              clear hC hA hP hfalse
              go_wp2_with fail
              refine C.out.mono ?_
              rintro _ w3 ⟨rfl, hg3⟩
              have P3 := Lib.hid (P2.out.later hg3)
              clear hg3
              go_wp2_with fail
              refine wp_loop_rounds 1 ?_
              rw [rounds_succ]
              go_wp2_with fail
              go_roundw
              case rel => exact ⟨j + 1, by omega, by go_num, P3.out⟩
              case measure => simp [intOf]; omega
            · have C := Lib.hid hC
              have hl6 := VM.lvl_six nw (a j)
              have r2 := fun w => run_back ((lvl nw (a j) : Nat) : Int) (by omega) (by omega) w
              obtain ⟨b2, off2, rfl, hrc⟩ := hP.row.at (by omega : 0 < n)
              have RR : Hid (∀ u, Grw _ u → u.cell? ⟨b2, off2 + j, none⟩ = some (.int .u64 (a j : Nat))) := (fun u g => g.cell (hrc j hjn) : ∀ u, Grw _ u → u.cell? ⟨b2, off2 + j, none⟩ = some (.int .u64 (a j : Nat)))
              have ML := Lib.hid (fun k hk => MXL.out j k hjn htrue hk)
              obtain ⟨x, hx⟩ : ∃ x, a j = x := ⟨_, rfl⟩
              rw [hx] at C hl6 r2 RR ML
              obtain ⟨l, hlv⟩ : ∃ l, lvl nw x = l := ⟨_, rfl⟩
              rw [hlv] at C hl6 r2 ML
              obtain ⟨fl', hfl⟩ : ∃ fl', floatOfInt .f64 ((l : Nat) : Int) = fl' := ⟨_, rfl⟩
              rw [hfl] at r2 C
              have R2 := Lib.hid r2
              clear hC hA hP htrue hrc r2 hx hlv hfl
              go_wp2_with fail
              refine C.out.mono ?_
              rintro _ w3 ⟨rfl, hg3⟩
              have P3 := Lib.hid (P2.out.later hg3)
              have RR3 := Lib.hid (RR.out _ hg3)
              clear hg3
              go_wp2_with fail
              go_loopw [24] (fun u24 wr => ∃ k : Nat, k ≤ l ∧ u24 = .int .i64 k ∧ Grw w3 wr) (fun u24 _ => l - (intOf u24).toNat)
              case atStart => exact ⟨0, Nat.zero_le _, rfl, Grw.rfl' _⟩
              case round =>
                obtain ⟨k, hk, rfl, hg⟩ := hrel
                have GR := Lib.hid hg
                by_cases hkl : k < l
                · have hkli : (k : Int) < (l : Int) := by omega
                  have hml := ML.out k hkl
                  have P4 := P3.out.later hg
                  have k0 := gw_cell (P4.cx (k := k) (by omega)).1
                  have k1 := gw_cell (P4.cy (k := k) (by omega)).1
                  have k2 := gw_cell (hg.cell RR3.out)
                  obtain ⟨q, hq⟩ : ∃ q, ld nw L' k = q := ⟨_, rfl⟩
                  obtain ⟨mq, hmq⟩ : ∃ mq, mxN nw L' a n k = mq := ⟨_, rfl⟩
                  rw [hq] at k0
                  rw [hmq] at k1 hml
                  have hge : decide ((mq : Int) ≥ (x : Int)) = false := by simp; omega
                  have hge2 : decide ((x : Int) ≤ (mq : Int)) = false := by simp; omega
                  have hge3 : ¬ (x : Int) ≤ (mq : Int) := by omega
                  have hk6 : (k : Int) < 7 := by omega
                  clear hg P4 hq hmq
                  by_cases hq0 : 0 < q
                  · have hq1 : decide ((q : Int) > 0) = true := by simp; omega
                    have hq2 : decide ((0 : Int) < (q : Int)) = true := by simp; omega
                    have hq3 : decide (0 < q) = true := by simp; omega
                    go_wp2_with (simp only [R2.out])
                    refine wp_region_grown (by kernel_rfl) (by kernel_rfl) ?_
                    repeat (go_big_quiet_step (fail))
                    refine wpQuiet_nil ?_
                    rintro _ ⟨q', rfl⟩
                    have GQ := Lib.hid (GR.out.trans q'.h)
                    clear k0 k1 k2
                    go_wp2_with fail
                    go_roundw
                    case rel => exact ⟨k + 1, by omega, by go_num, GQ.out⟩
                    case measure => simp [intOf]; omega
                  · have hq1 : decide ((q : Int) > 0) = false := by simp; omega
                    have hq2 : decide ((0 : Int) < (q : Int)) = false := by simp; omega
                    have hq3 : decide (0 < q) = false := by simp; omega
                    go_wp2_with (simp only [R2.out])
                    refine wp_region_grown (by kernel_rfl) (by kernel_rfl) ?_
                    repeat (go_big_quiet_step (fail))
                    refine wpQuiet_nil ?_
                    rintro _ ⟨q', rfl⟩
                    have GQ := Lib.hid (GR.out.trans q'.h)
                    clear k0 k1 k2
                    go_wp2_with fail
                    go_roundw
                    case rel => exact ⟨k + 1, by omega, by go_num, GQ.out⟩
                    case measure => simp [intOf]; omega
                · have hkli : ¬ (k : Int) < (l : Int) := by omega
                  have P4 := Lib.hid (P3.out.later hg)
                  clear hg
                  go_wp2_with (simp only [R2.out])
                  go_roundw
                  case rel => exact ⟨j + 1, by omega, by go_num, P4.out⟩
                  case measure => simp [intOf]; omega
          · obtain rfl : n = j := by omega
            have hji : ¬ (n : Int) < (n : Int) := by omega
            have c0 := gw_cell (hP.cx (k := 0) (by omega)).1
            have c1 := gw_cell (hP.cx (k := 1) (by omega)).1
            have c2 := gw_cell (hP.cx (k := 2) (by omega)).1
            have c3 := gw_cell (hP.cx (k := 3) (by omega)).1
            have c4 := gw_cell (hP.cx (k := 4) (by omega)).1
            have c5 := gw_cell (hP.cx (k := 5) (by omega)).1
            have c6 := gw_cell (hP.cx (k := 6) (by omega)).1
            have LE := Lib.hid (fun q : GW _ => len_M _ p nw L' L'.length q.x (hP.m.mw.later q.h) rfl)
            have LO := fun q : GW _ => load_M _ p nw L' q.x (hP.m.mw.later q.h)
            unfold LoadQ ldv at LO
            have E7 := fun w => eq7_same (fun k => (ld nw L' k : Int)) w
            obtain ⟨f7, hf7⟩ : ∃ f7 : Nat → Nat, ld nw L' = f7 := ⟨_, rfl⟩
            rw [hf7] at c0 c1 c2 c3 c4 c5 c6 LO E7
            have LO := Lib.hid LO
            have GG : Hid (Grw w _) := (G0.out.trans hP.m.grw : Grw w _)
            have WY := Lib.hid (fun q : GW _ => WK.out q.x (GG.out.trans q.h))
            obtain ⟨ln, hln⟩ : ∃ ln, L'.length = ln := ⟨_, rfl⟩
            rw [hln] at LE hlen ⊢
            have hsb : (n : Int) - (lm : Int) = (ln : Int) := by omega
            clear hP hf7 hln
            have her2 : (er == 0) = true ∨ ((er == 0) = false ∧ lm = 0) := by
              rcases hb : (er == 0) with _ | _
              · rw [hb] at her
                rcases her with h | h
                · cases h
                · exact Or.inr ⟨rfl, h⟩
              · exact Or.inl rfl
            clear her
            rcases her2 with her | ⟨hb, her⟩
            · have hlm : decide (lm ≤ n) = true := by simp; omega
              go_wp2_with fail
              refine wp_region_grown (by kernel_rfl) (by kernel_rfl) ?_
              repeat (go_big_quiet_step (first | (go_at_call 33; exact calls_grown_same (LE.out _)) | (go_at_call 30; exact calls_grown (LO.out _)) | (go_at_call 26; exact calls_grown (WY.out _))))
              refine wpQuiet_nil ?_
              rintro _ ⟨q2, rfl⟩
              have GF := Lib.hid (GG.out.trans q2.h)
              clear c0 c1 c2 c3 c4 c5 c6
              go_wp2_with fail
              go_ret
              exact ⟨rfl, GF.out⟩
            · subst her
              obtain rfl : n = ln := by omega
              have hlm : decide (0 ≤ n) = true := by simp
              go_wp2_with fail
              refine wp_region_grown (by kernel_rfl) (by kernel_rfl) ?_
              repeat (go_big_quiet_step (first | (go_at_call 33; exact calls_grown_same (LE.out _)) | (go_at_call 30; exact calls_grown (LO.out _)) | (go_at_call 26; exact calls_grown (WY.out _))))
              refine wpQuiet_nil ?_
              rintro _ ⟨q2, rfl⟩
              have GF := Lib.hid (GG.out.trans q2.h)
              clear c0 c1 c2 c3 c4 c5 c6
              go_wp2_with fail
              go_ret
              exact ⟨rfl, GF.out⟩
  · have GN : Hid (Grw w w1) := (G0.out.trans hg : Grw w w1)
    clear hg
    go_wp2_with fail
    refine (WK.out _ GN.out).mono ?_
    rintro _ w2 ⟨rfl, hg2⟩
    have GF := Lib.hid (GN.out.trans hg2)
    clear hg2
    go_wp2_with fail
    go_ret
    exact ⟨rfl, GF.out⟩
end Go.Proofs.YtifgpjdcbkjomaaDoor
