/- LexNumbers, walked. -/
import Derived.Test.YtiocnagbcbhggaaDoorWl
namespace Go.Proofs.YtiocnagbcbhggaaDoor
open Go.RowKit SM
set_option linter.unusedSimpArgs false
set_option linter.unusedVariables false

/-- Lex at a text of which the answer is known. -/
theorem lex_at (s : ByteArray) (y : List Sg × Nat) (n : Nat) (w : World) (t : Mks w) (h : lq s.data.toList = y) (hn : y.1.length = n) : Calls Tryd.prog 9 #[.string s] w fun e w' =>
    ∃ ao cap, e = .returned (.tuple #[.slice ao n cap, .int .i64 ((y.2 : Nat) : Int)]) ∧ w'.ownsRow w.heap.size 35 2 (.slice ao n cap) n (cz y.1) ∧ Lies w' ao (cs (y.1.map up)) ∧ Grw w w' := by
  subst hn
  exact (lex_is s w t).mono fun e w' g => lexQ_at g h
theorem lq_short {l : List UInt8} (h : l.length ≤ 60) : lq l = lx l := by unfold lq; rw [if_neg (by omega)]
/-- wherever the program's memory has grown to. -/
theorem wk_gw {w : World} (t : Mks w) (tt : Tab w) : ∀ p : GW w, Calls Tryd.prog 8 #[] p.x fun e w' => e = .returned (.bool true) ∧ Grw p.x w' :=
  fun p => wakes_any p.x (mks_grw p.h t) (tab_grw p.h tt)

set_option maxHeartbeats 4000000 in
set_option maxRecDepth 100000 in
theorem numbers_walk (n m : Nat) (w : World) (t : Mks w) (tt : Tab w) (hn : n < 18446744073709551616) (hm : m < 65536) :
    Calls Tryd.prog 6 #[.int .u64 n, .int .u16 m] w fun e w' => e = .returned (.bool true) ∧ Grw w w' := by
  obtain ⟨d, hd⟩ := ba_of (Lib.decDigits n)
  obtain ⟨c, hc⟩ := ba_of (Lib.decDigits m)
  have dl := dec_len n hn
  have cl := dec_len m (by omega)
  have dz : (d.size : Int) ≤ 20 := by rw [size_len, hd]; omega
  have cz' : (c.size : Int) ≤ 20 := by rw [size_len, hc]; omega
  have q1 : (((⟨#[48]⟩ : ByteArray).size : Nat) : Int) ≤ 1 := by rw [size_len]; simp
  have q2 : (((⟨#[32]⟩ : ByteArray).size : Nat) : Int) ≤ 1 := by rw [size_len]; simp
  have D1 := Lib.hid (fun w => digits_ba n d w hn hd)
  have D2 := Lib.hid (fun w => digits_ba m c w (by omega) hc)
  have L2 := Lib.hid (fun w t => lex_at (⟨#[48]⟩ ++ d) ([], 2) 0 w t (by
    rw [ba_app, hd, lq_short (by show (48 :: Lib.decDigits n).length ≤ 60; simp; omega)]; exact lx_nought n) rfl)
  have HT := Lib.hid t
  have HTT := Lib.hid tt
  by_cases ov : maxN < n
  · have L1 := Lib.hid (fun w t => lex_at d ([], 3) 0 w t (by rw [hd, lq_short (by omega), lx_dec, if_pos ov]) rfl)
    have o1 : (2147483647 : Int) < n := by unfold maxN at ov; omega
    have o2 : decide ((2147483647 : Int) < n) = true := decide_eq_true o1
    clear hd hc t tt ov dl cl
    go_enter Tryd.func6, Tryd.ntmps6
    go_wp2_with fail
    with_reducible refine (D1.out _).mono ?_
    rintro _ w1 ⟨rfl, h1⟩
    have G1 := Lib.hid h1
    clear h1
    go_wp2_with fail
    with_reducible refine (L1.out _ (mks_grw G1.out HT.out)).mono ?_
    rintro _ w2 ⟨a2, c2, rfl, _, _, h2⟩
    have G2 := Lib.hid (G1.out.trans h2)
    clear h2
    go_wp2_with fail
    with_reducible refine (L2.out _ (mks_grw G2.out HT.out)).mono ?_
    rintro _ w3 ⟨a3, c3, rfl, _, _, h3⟩
    have G3 := Lib.hid (G2.out.trans h3)
    have WK := Lib.hid (wakes_any w3 (mks_grw G3.out HT.out) (tab_grw G3.out HTT.out))
    clear h3
    go_wp2_with fail
    refine WK.out.mono ?_
    rintro _ w4 ⟨rfl, h4⟩
    go_wp2_with fail
    go_ret
    exact ⟨rfl, G3.out.trans h4⟩
  · have L1 := Lib.hid (fun w t => lex_at d ([⟨1, n⟩], 0) 1 w t (by rw [hd, lq_short (by omega), lx_dec, if_neg ov]) rfl)
    have o1 : ¬ (2147483647 : Int) < n := by unfold maxN at ov; omega
    have o2 : decide ((2147483647 : Int) < n) = false := decide_eq_false o1
    have L3 := Lib.hid (fun w t => lex_at (c ++ ⟨#[32]⟩ ++ d) ([⟨1, m⟩, ⟨1, n⟩], 0) 2 w t (by
      have e : (c ++ ⟨#[32]⟩ ++ d).data.toList = Lib.decDigits m ++ 32 :: Lib.decDigits n := by rw [ba_app, ba_app, hc, hd]; simp
      have em : lx (Lib.decDigits m) = ([⟨1, m⟩], 0) := by rw [lx_dec, if_neg (by unfold maxN; omega)]
      have en : lx (Lib.decDigits n) = ([⟨1, n⟩], 0) := by rw [lx_dec, if_neg ov]
      rw [e, lq_short (by simp only [List.length_append, List.length_cons]; omega), lx_join, em, en]
      rfl) rfl)
    have n1 : IntKind.i64.wrap (n : Int) = n := by unfold maxN at ov; simp only [IntKind.wrap_i64]; omega
    have m1 : IntKind.u64.wrap (m : Int) = m := by simp only [IntKind.wrap_u64]; omega
    have m2 : IntKind.i64.wrap (m : Int) = m := by simp only [IntKind.wrap_i64]; omega
    clear hd hc t tt ov dl cl
    go_enter Tryd.func6, Tryd.ntmps6
    go_wp2_with fail
    with_reducible refine (D1.out _).mono ?_
    rintro _ w1 ⟨rfl, h1⟩
    have G1 := Lib.hid h1
    clear h1
    go_wp2_with fail
    with_reducible refine (L1.out _ (mks_grw G1.out HT.out)).mono ?_
    rintro _ w2 ⟨a2, c2, rfl, _, l2, h2⟩
    have G2 := Lib.hid (G1.out.trans h2)
    replace l2 := Lib.hid l2
    clear h2
    go_wp2_with fail
    with_reducible refine (L2.out _ (mks_grw G2.out HT.out)).mono ?_
    rintro _ w3 ⟨a3, c3, rfl, _, _, h3⟩
    have G3 := Lib.hid (G2.out.trans h3)
    replace l2 := Lib.hid (l2.out.later h3)
    clear h3
    go_wp2_with fail
    with_reducible refine (D2.out _).mono ?_
    rintro _ w4 ⟨rfl, h4⟩
    have G4 := Lib.hid (G3.out.trans h4)
    replace l2 := Lib.hid (l2.out.later h4)
    clear h4
    go_wp2_with fail
    with_reducible refine (L3.out _ (mks_grw G4.out HT.out)).mono ?_
    rintro _ w5 ⟨a5, c5, rfl, _, l5, h5⟩
    have G5 := Lib.hid (G4.out.trans h5)
    replace l2 := l2.out.later h5
    obtain ⟨b, off, rfl, x0, x1⟩ := slies_at l2 (j := 0) (by simp)
    obtain ⟨b5, off5, rfl, y0, y1⟩ := slies_at l5 (j := 0) (by simp)
    obtain ⟨_, _, e3, z0', z1'⟩ := slies_at l5 (j := 1) (by simp)
    injection e3 with e3
    injection e3 with e3 e3'
    subst e3 e3'
    have f0 := gw_cell (show w5.cell? ⟨b, off, none⟩ = some (.int .i64 1) from x0)
    have f1 := gw_cell (show w5.cell? ⟨b, off + 1, none⟩ = some (.int .i64 n) from x1)
    have f2 := gw_cell (show w5.cell? ⟨b5, off5, none⟩ = some (.int .i64 1) from y0)
    have f3 := gw_cell (show w5.cell? ⟨b5, off5 + 1, none⟩ = some (.int .i64 m) from y1)
    have f4 := gw_cell (show w5.cell? ⟨b5, off5 + 2, none⟩ = some (.int .i64 1) from z0')
    have f5 := gw_cell (show w5.cell? ⟨b5, off5 + 2 + 1, none⟩ = some (.int .i64 n) from z1')
    have f6 := gw_cell (show w5.cell? ⟨b5, off5 + 3, none⟩ = some (.int .i64 n) from z1')
    have WK := Lib.hid (wk_gw (mks_grw G5.out HT.out) (tab_grw G5.out HTT.out))
    clear h5 l2 l5 x0 x1 y0 y1 z0' z1' L1 L2 L3 D1 D2
    go_wp2_with fail
    refine wp_region_grown (by kernel_rfl) (by kernel_rfl) ?_
    repeat (go_big_quiet_step (first | (go_at_call 8; with_reducible exact calls_grown (WK.out _))))
    refine wpQuiet_nil ?_
    rintro _ ⟨q, rfl⟩
    have GQ := Lib.hid (G5.out.trans q.h)
    clear f0 f1 f2 f3 f4 f5 f6
    go_wp2_with fail
    go_ret
    exact ⟨rfl, GQ.out⟩
end Go.Proofs.YtiocnagbcbhggaaDoor
