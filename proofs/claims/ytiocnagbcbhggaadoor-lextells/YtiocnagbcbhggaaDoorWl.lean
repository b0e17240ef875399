/- Lex at every text; the chapter's examples. -/
import Derived.Test.YtiocnagbcbhggaaDoorWg
namespace Go.Proofs.YtiocnagbcbhggaaDoor
open Go.RowKit SM
set_option linter.unusedSimpArgs false
set_option linter.unusedVariables false

set_option maxHeartbeats 1000000 in
set_option maxRecDepth 100000 in
theorem lex_long (s : ByteArray) (w : World) (hs : 60 < s.size) : Calls Tryd.prog 9 #[.string s] w (LexQ w s.data.toList) := by
  have HS : Hid (60 < s.data.toList.length) := Lib.hid (by rw [← size_len]; exact hs)
  have hs' : (60 : Int) < s.size := by omega
  go_enter Tryd.func9, Tryd.ntmps9
  go_wp2_with fail
  refine wp_scope_named 2 fun J hret hgo => ?_
  have R := Lib.hid hret
  clear hret hgo
  go_wp2_with fail
  refine R.out _ _ _ ?_
  go_ret2
  exact lexQ_long HS.out (Grw.rfl' _)
theorem lex_is (s : ByteArray) (w : World) (t : Mks w) : Calls Tryd.prog 9 #[.string s] w (LexQ w s.data.toList) := by
  by_cases h : s.size ≤ 60
  · exact lex_short s w t h
  · exact lex_long s w (by omega)
/-- what Lex hands back, at whatever answer. -/
def lq (l : List UInt8) : List Sg × Nat := if 60 < l.length then ([], 15) else lx l
theorem lexQ_at {w w' : World} {l : List UInt8} {e : Ending} {y : List Sg × Nat} (h : LexQ w l e w') (hy : lq l = y) :
    ∃ ao cap, e = .returned (.tuple #[.slice ao y.1.length cap, .int .i64 ((y.2 : Nat) : Int)]) ∧ w'.ownsRow w.heap.size 35 2 (.slice ao y.1.length cap) y.1.length (cz y.1) ∧ Lies w' ao (cs (y.1.map up)) ∧ Grw w w' := by
  obtain ⟨v, he, ho, hg⟩ := h
  have e1 : (if 60 < l.length then [] else (lx l).1) = y.1 := by rw [← hy]; unfold lq; split <;> rfl
  have e2 : (if 60 < l.length then 15 else (lx l).2) = y.2 := by rw [← hy]; unfold lq; split <;> rfl
  rw [e1] at ho
  rw [e2] at he
  obtain ⟨ao, cap, rfl, hl⟩ := ownsRow_lies ho
  exact ⟨ao, cap, he, ho, by rw [cs_up]; exact hl, hg⟩
theorem lq_good (l : List UInt8) : ∀ s ∈ (lq l).1, gs s = true := by
  unfold lq
  split
  · intro s h; cases h
  · exact lx_good l
theorem lx_len : ∀ l : List UInt8, (lx l).1.length ≤ l.length := fun l => by
  rcases e : nx l with _ | r | ⟨s, r⟩ | e
  · rw [lx_fin e]; simp
  · rw [lx_sp e]
    have h := nx_sp e
    have := lx_len r
    omega
  · rw [lx_sg e]
    have h := nx_sg e
    have := lx_len r
    split
    · simp only [List.length_cons]; omega
    · simp
  · rw [lx_bad e]; simp
  termination_by l => l.length
theorem lq_len (l : List UInt8) : (lq l).1.length ≤ 60 := by
  unfold lq
  split
  · simp
  · have := lx_len l; omega

/-! ### the chapter's examples -/
theorem ex1 : lq [97, 60, 61, 49, 50] = ([⟨2, 0⟩, ⟨7, 0⟩, ⟨1, 12⟩], 0) := by
  have h1 : nx [97, 60, 61, 49, 50] = .sg ⟨2, 0⟩ [60, 61, 49, 50] := by decide
  have h2 : nx [60, 61, 49, 50] = .sg ⟨7, 0⟩ [49, 50] := by decide
  have h3 : nx [49, 50] = .sg ⟨1, 12⟩ [] := by decide
  show lx _ = _
  rw [lx_sg h1, lx_sg h2, lx_sg h3, lx_nil]; rfl
theorem ex2 : lq [97, 61, 49] = ([], 2) := by
  have h1 : nx [97, 61, 49] = .sg ⟨2, 0⟩ [61, 49] := by decide
  have h2 : nx [61, 49] = .bad 2 := by decide
  show lx _ = _
  rw [lx_sg h1, lx_bad h2]; rfl
theorem ex3 : lq [48, 48, 55] = ([], 2) := by
  have h1 : nx [48, 48, 55] = .bad 2 := by decide
  show lx _ = _
  rw [lx_bad h1]
theorem ex4 : lq [51, 48, 48, 48, 48, 48, 48, 48, 48, 48] = ([], 3) := by
  have h1 : nx [51, 48, 48, 48, 48, 48, 48, 48, 48, 48] = .bad 3 := by decide +kernel
  show lx _ = _
  rw [lx_bad h1]

set_option maxHeartbeats 4000000 in
set_option maxRecDepth 100000 in
theorem wakes_any (w : World) (t : Mks w) (tt : Tab w) : Calls Tryd.prog 8 #[] w fun e w' => e = .returned (.bool true) ∧ Grw w w' := by
  have L1 := Lib.hid (fun w (t : Mks w) => (lex_is ⟨#[97, 60, 61, 49, 50]⟩ w t).mono fun e w' h => lexQ_at h ex1)
  have L2 := Lib.hid (fun w (t : Mks w) => (lex_is ⟨#[97, 61, 49]⟩ w t).mono fun e w' h => lexQ_at h ex2)
  have L3 := Lib.hid (fun w (t : Mks w) => (lex_is ⟨#[48, 48, 55]⟩ w t).mono fun e w' h => lexQ_at h ex3)
  have L4 := Lib.hid (fun w (t : Mks w) => (lex_is ⟨#[51, 48, 48, 48, 48, 48, 48, 48, 48, 48]⟩ w t).mono fun e w' h => lexQ_at h ex4)
  have P := Lib.hid (fun ao ca w (t : Mks w) (tt : Tab w) h => print_is ([⟨2, 0⟩, ⟨7, 0⟩, ⟨1, 12⟩] : List Zs) ao ca 3 ⟨#[97, 32, 60, 61, 32, 49, 50]⟩ true w t tt rfl (by omega) h (by decide) (by
    show _ = pr _
    have : Lib.decDigits 12 = [49, 50] := by rw [Lib.decDigits, dif_neg (by omega), Lib.decDigits_one (by omega)]; rfl
    simp [pr, dn, tx, this]))
  have HT := Lib.hid t
  have HTT := Lib.hid tt
  clear t tt
  go_enter Tryd.func8, Tryd.ntmps8
  go_wp2_with fail
  refine (L1.out _ HT.out).mono ?_
  rintro _ w1 ⟨ao, cap, rfl, _, hl, hg1⟩
  have HL := Lib.hid hl
  have G1 := Lib.hid hg1
  clear hl hg1
  simp only [List.length_cons, List.length_nil]
  go_wp2_with fail
  refine (L2.out _ (mks_grw G1.out HT.out)).mono ?_
  rintro _ w2 ⟨a2, c2, rfl, _, _, hg2⟩
  have G2 := Lib.hid (G1.out.trans hg2)
  replace HL := Lib.hid (HL.out.later hg2)
  clear hg2
  go_wp2_with fail
  refine (L3.out _ (mks_grw G2.out HT.out)).mono ?_
  rintro _ w3 ⟨a3, c3, rfl, _, _, hg3⟩
  have G3 := Lib.hid (G2.out.trans hg3)
  replace HL := Lib.hid (HL.out.later hg3)
  clear hg3
  go_wp2_with fail
  refine (L4.out _ (mks_grw G3.out HT.out)).mono ?_
  rintro _ w4 ⟨a4, c4, rfl, _, _, hg4⟩
  have G4 := Lib.hid (G3.out.trans hg4)
  replace HL := Lib.hid (HL.out.later hg4)
  clear hg4
  go_wp2_with fail
  refine (P.out _ _ _ (mks_grw G4.out HT.out) (tab_grw G4.out HTT.out) HL.out).mono ?_
  rintro _ w5 ⟨rfl, hg5⟩
  have G5 := Lib.hid (G4.out.trans hg5)
  replace HL := HL.out.later hg5
  obtain ⟨b, off, rfl, x0, x1⟩ := slies_at HL (j := 0) (by decide)
  obtain ⟨_, _, e2, y0, y1⟩ := slies_at HL (j := 1) (by decide)
  obtain ⟨_, _, e3, z0, z1⟩ := slies_at HL (j := 2) (by decide)
  injection e2 with e2
  injection e2 with e2 e2'
  injection e3 with e3
  injection e3 with e3 e3'
  subst e2 e2' e3 e3'
  have f0 : w5.cell? ⟨b, off, none⟩ = some (.int .i64 2) := x0
  have f1 : w5.cell? ⟨b, off + 1, none⟩ = some (.int .i64 0) := x1
  have f2 : w5.cell? ⟨b, off + 2, none⟩ = some (.int .i64 7) := y0
  have f3 : w5.cell? ⟨b, off + 2 + 1, none⟩ = some (.int .i64 0) := y1
  have f4 : w5.cell? ⟨b, off + 4, none⟩ = some (.int .i64 1) := z0
  have f5 : w5.cell? ⟨b, off + 4 + 1, none⟩ = some (.int .i64 12) := z1
  have f6 : w5.cell? ⟨b, off + 3, none⟩ = some (.int .i64 0) := y1
  have f7 : w5.cell? ⟨b, off + 5, none⟩ = some (.int .i64 12) := z1
  clear hg5 HL x0 x1 y0 y1 z0 z1 L1 L2 L3 L4 P
  go_wp2_with fail
  go_ret
  exact ⟨rfl, G5.out⟩
end Go.Proofs.YtiocnagbcbhggaaDoor
