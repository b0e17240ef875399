/- The law RingNone at this program. -/
import Derived.Test.YtlihcljjpalapaaDoorTb
namespace Go.Proofs.YtlihcljjpalapaaDoor
open Go.RowKit MK
open RG (Du La listR putB putR dropR dropO takeR hasId)
set_option linter.unusedSimpArgs false

theorem list_is (b : Nat) (A : Array Value) (R : List La) (i : Int) (l : List Du) (w : World) (h : RingR w b A R) (h1 : listR R i = l) :
    Calls Tryd.prog 15 #[.pointer (some ⟨b, 0, none⟩), .int .i64 i] w (CloneQ l w) := by rw [← h1]; exact list_R b A R i w h
theorem none_ways (i : Int) (d : Du) : (0 ≤ i ∧ i < 64 ∧ putB [] i d = true ∧ putR [] i d = [⟨i, d⟩] ∧ listR [⟨i, d⟩] i = [d]) ∨ (¬ (0 ≤ i ∧ i < 64) ∧ putB [] i d = false ∧ putR [] i d = [] ∧ listR [] i = []) := by
  by_cases h : 0 ≤ i ∧ i < 64
  · left
    have hb : putB [] i d = true := by unfold RG.putB RG.slotB RG.hasId; simp [h]
    refine ⟨h.1, h.2, hb, by unfold RG.putR; rw [if_pos hb]; rfl, ?_⟩
    unfold RG.listR RG.inSlot
    simp
    rfl
  · right
    have hb : putB [] i d = false := by unfold RG.putB RG.slotB; simp [h]
    exact ⟨h, hb, by unfold RG.putR; rw [if_neg (by rw [hb]; decide)], rfl⟩
set_option maxHeartbeats 4000000 in
set_option maxRecDepth 100000 in
theorem none_holds (i : Int) (d : Du) (w : World) (t : Tab w) : Calls Tryd.prog 5 #[.int .i64 i, dv d] w fun e w' => e = .returned (.bool true) ∧ Grw w w' := by
  obtain ⟨di, dt⟩ := d
  have g1 : Grw w (w.alloc (.cells #[.int .i64 di, .int .u64 dt] 31)) := (Grw.rfl' w).alloc _
  have DN := Lib.hid (fun u => drop_nil di u)
  have FN := Lib.hid (first_nil i _ (tab_grw g1 t))
  have PN := fun u => put_nil i ⟨di, dt⟩ u
  have TN := Lib.hid (fun u => take_nil i u)
  have LN := Lib.hid (fun u => list_nil i u)
  have MN := Lib.hid (fun u => mask_nil u)
  have EN := Lib.hid (fun u => len_nil u)
  have NW := Lib.hid (fun u => newR u)
  have WK := Lib.hid (fun u => wakes_any u)
  unfold dv at PN
  simp only at PN
  have PN := Lib.hid PN
  clear t g1
  rcases none_ways i ⟨di, dt⟩ with ⟨h0, h1, hb, hp, hl⟩ | ⟨h0, hb, hp, hl⟩
  · have P1 := fun b A u (h : RingR u b A []) => put_is b A [] _ i ⟨di, dt⟩ true u h (by decide) hb hp
    have L1 := Lib.hid (fun b A u (h : RingR u b A [⟨i, ⟨di, dt⟩⟩]) => list_is b A _ i _ u h hl)
    have E1 := Lib.hid (fun b A u (h : RingR u b A [⟨i, ⟨di, dt⟩⟩]) => len_is b A _ 1 u h rfl)
    unfold dv at P1
    simp only at P1
    have P1 := Lib.hid P1
    have d1 : decide (0 ≤ i) = true := by simp [h0]
    have d2 : decide (i < 64) = true := by simp [h1]
    clear hb hp hl
    unfold dv
    simp only
    go_enter Tryd.func5, Tryd.ntmps5
    go_wp2_with fail
    refine (DN.out _).mono ?_
    rintro _ w1 ⟨rfl, rfl⟩
    go_wp2_with fail
    refine FN.out.mono ?_
    rintro _ w1 ⟨rfl, rfl⟩
    go_wp2_with fail
    refine (PN.out _).mono ?_
    rintro _ w1 ⟨rfl, hw1⟩
    have K1 := Kp.grown hw1
    have G1 := Lib.hid (hw1.two)
    clear hw1
    go_wp2_with fail
    refine (TN.out _).mono ?_
    rintro _ w2 ⟨rfl, rfl⟩
    go_wp2_with fail
    refine (LN.out _).mono ?_
    rintro _ w2 ⟨rfl, rfl⟩
    go_wp2_with fail
    refine (MN.out _).mono ?_
    rintro _ w2 ⟨rfl, rfl⟩
    go_wp2_with fail
    refine (EN.out _).mono ?_
    rintro _ w2 ⟨rfl, rfl⟩
    go_wp2_with fail
    refine (NW.out _).mono ?_
    rintro _ w2 ⟨rfl, hr, hg2, _⟩
    have K2 := K1.later hg2
    have c0 := K2.t.c0
    have c1 := K2.t.c1
    obtain ⟨b, hb⟩ : ∃ b, w1.heap.size = b := ⟨_, rfl⟩
    obtain ⟨A, hA⟩ : ∃ A, Array.replicate 64 (Value.slice none 0 0) = A := ⟨_, rfl⟩
    have H1' : Hid (RingR w2 b A [] ∧ Mine w1 b A ∧ Grw w1 w2) := (by have := mine_new w1; rw [hA, hb] at this hr; exact ⟨hr, this, hg2⟩ : RingR w2 b A [] ∧ Mine w1 b A ∧ Grw w1 w2)
    rw [hb]
    clear hr hA hb hg2 K1 K2
    go_wp2_with fail
    refine (P1.out b A _ H1'.out.1).mono ?_
    rintro _ w3 ⟨rfl, hq⟩
    obtain ⟨A2, h2⟩ := hq.out H1'.out.2.1 H1'.out.2.2
    have H2 := Lib.hid h2
    clear hq h2 c0 c1
    go_wp2_with fail
    refine (E1.out b A2 _ H2.out.1).mono ?_
    rintro _ w4 ⟨rfl, rfl⟩
    go_wp2_with fail
    refine (L1.out b A2 _ H2.out.1).mono ?_
    rintro _ w4 ⟨v, rfl, hown, hg4⟩
    obtain ⟨ao, cap, rfl, _⟩ := ownsRow_lies hown
    have H3 := Lib.hid (And.intro (H2.out.1.later hg4) (H2.out.2.2.trans hg4))
    clear hown hg4
    go_wp2_with fail
    refine (E1.out b A2 _ H3.out.1).mono ?_
    rintro _ w5 ⟨rfl, rfl⟩
    go_wp2_with fail
    refine (WK.out _).mono ?_
    rintro _ w6 ⟨rfl, hg6⟩
    have GF := Lib.hid (G1.out.trans (H3.out.2.trans hg6))
    clear hg6
    go_wp2_with fail
    go_ret
    exact ⟨rfl, GF.out⟩
  · have P1 := fun b A u (h : RingR u b A []) => put_is b A [] _ i ⟨di, dt⟩ false u h (by decide) hb hp
    have L1 := Lib.hid (fun b A u (h : RingR u b A []) => list_is b A [] i [] u h hl)
    have E1 := Lib.hid (fun b A u (h : RingR u b A []) => len_is b A [] 0 u h rfl)
    unfold dv at P1
    simp only at P1
    have P1 := Lib.hid P1
    by_cases hneg : 0 ≤ i
    · have d1 : decide (0 ≤ i) = true := by simp [hneg]
      have d2 : decide (i < 64) = false := by simp; omega
      clear hb hp hl h0
      unfold dv
      simp only
      go_enter Tryd.func5, Tryd.ntmps5
      go_wp2_with fail
      refine (DN.out _).mono ?_
      rintro _ w1 ⟨rfl, rfl⟩
      go_wp2_with fail
      refine FN.out.mono ?_
      rintro _ w1 ⟨rfl, rfl⟩
      go_wp2_with fail
      refine (PN.out _).mono ?_
      rintro _ w1 ⟨rfl, hw1⟩
      have K1 := Kp.grown hw1
      have G1 := Lib.hid (hw1.two)
      clear hw1
      go_wp2_with fail
      refine (TN.out _).mono ?_
      rintro _ w2 ⟨rfl, rfl⟩
      go_wp2_with fail
      refine (LN.out _).mono ?_
      rintro _ w2 ⟨rfl, rfl⟩
      go_wp2_with fail
      refine (MN.out _).mono ?_
      rintro _ w2 ⟨rfl, rfl⟩
      go_wp2_with fail
      refine (EN.out _).mono ?_
      rintro _ w2 ⟨rfl, rfl⟩
      go_wp2_with fail
      refine (NW.out _).mono ?_
      rintro _ w2 ⟨rfl, hr, hg2, _⟩
      have K2 := K1.later hg2
      have c0 := K2.t.c0
      have c1 := K2.t.c1
      obtain ⟨b, hb⟩ : ∃ b, w1.heap.size = b := ⟨_, rfl⟩
      obtain ⟨A, hA⟩ : ∃ A, Array.replicate 64 (Value.slice none 0 0) = A := ⟨_, rfl⟩
      have H1' : Hid (RingR w2 b A [] ∧ Mine w1 b A ∧ Grw w1 w2) := (by have := mine_new w1; rw [hA, hb] at this hr; exact ⟨hr, this, hg2⟩ : RingR w2 b A [] ∧ Mine w1 b A ∧ Grw w1 w2)
      rw [hb]
      clear hr hA hb hg2 K1 K2
      go_wp2_with fail
      refine (P1.out b A _ H1'.out.1).mono ?_
      rintro _ w3 ⟨rfl, hq⟩
      obtain ⟨A2, h2⟩ := hq.out H1'.out.2.1 H1'.out.2.2
      have H2 := Lib.hid h2
      clear hq h2 c0 c1
      go_wp2_with fail
      refine (E1.out b A2 _ H2.out.1).mono ?_
      rintro _ w4 ⟨rfl, rfl⟩
      go_wp2_with fail
      refine (L1.out b A2 _ H2.out.1).mono ?_
      rintro _ w4 ⟨v, rfl, hown, hg4⟩
      obtain ⟨ao, cap, rfl, _⟩ := ownsRow_lies hown
      have H3 := Lib.hid (And.intro (H2.out.1.later hg4) (H2.out.2.2.trans hg4))
      clear hown hg4
      go_wp2_with fail
      refine (E1.out b A2 _ H3.out.1).mono ?_
      rintro _ w5 ⟨rfl, rfl⟩
      go_wp2_with fail
      refine (WK.out _).mono ?_
      rintro _ w6 ⟨rfl, hg6⟩
      have GF := Lib.hid (G1.out.trans (H3.out.2.trans hg6))
      clear hg6
      go_wp2_with fail
      go_ret
      exact ⟨rfl, GF.out⟩
    · have d1 : decide (0 ≤ i) = false := by simp; omega
      clear hb hp hl h0
      unfold dv
      simp only
      go_enter Tryd.func5, Tryd.ntmps5
      go_wp2_with fail
      refine (DN.out _).mono ?_
      rintro _ w1 ⟨rfl, rfl⟩
      go_wp2_with fail
      refine FN.out.mono ?_
      rintro _ w1 ⟨rfl, rfl⟩
      go_wp2_with fail
      refine (PN.out _).mono ?_
      rintro _ w1 ⟨rfl, hw1⟩
      have K1 := Kp.grown hw1
      have G1 := Lib.hid (hw1.two)
      clear hw1
      go_wp2_with fail
      refine (TN.out _).mono ?_
      rintro _ w2 ⟨rfl, rfl⟩
      go_wp2_with fail
      refine (LN.out _).mono ?_
      rintro _ w2 ⟨rfl, rfl⟩
      go_wp2_with fail
      refine (MN.out _).mono ?_
      rintro _ w2 ⟨rfl, rfl⟩
      go_wp2_with fail
      refine (EN.out _).mono ?_
      rintro _ w2 ⟨rfl, rfl⟩
      go_wp2_with fail
      refine (NW.out _).mono ?_
      rintro _ w2 ⟨rfl, hr, hg2, _⟩
      have K2 := K1.later hg2
      have c0 := K2.t.c0
      have c1 := K2.t.c1
      obtain ⟨b, hb⟩ : ∃ b, w1.heap.size = b := ⟨_, rfl⟩
      obtain ⟨A, hA⟩ : ∃ A, Array.replicate 64 (Value.slice none 0 0) = A := ⟨_, rfl⟩
      have H1' : Hid (RingR w2 b A [] ∧ Mine w1 b A ∧ Grw w1 w2) := (by have := mine_new w1; rw [hA, hb] at this hr; exact ⟨hr, this, hg2⟩ : RingR w2 b A [] ∧ Mine w1 b A ∧ Grw w1 w2)
      rw [hb]
      clear hr hA hb hg2 K1 K2
      go_wp2_with fail
      refine (P1.out b A _ H1'.out.1).mono ?_
      rintro _ w3 ⟨rfl, hq⟩
      obtain ⟨A2, h2⟩ := hq.out H1'.out.2.1 H1'.out.2.2
      have H2 := Lib.hid h2
      clear hq h2 c0 c1
      go_wp2_with fail
      refine (E1.out b A2 _ H2.out.1).mono ?_
      rintro _ w4 ⟨rfl, rfl⟩
      go_wp2_with fail
      refine (L1.out b A2 _ H2.out.1).mono ?_
      rintro _ w4 ⟨v, rfl, hown, hg4⟩
      obtain ⟨ao, cap, rfl, _⟩ := ownsRow_lies hown
      have H3 := Lib.hid (And.intro (H2.out.1.later hg4) (H2.out.2.2.trans hg4))
      clear hown hg4
      go_wp2_with fail
      refine (E1.out b A2 _ H3.out.1).mono ?_
      rintro _ w5 ⟨rfl, rfl⟩
      go_wp2_with fail
      refine (WK.out _).mono ?_
      rintro _ w6 ⟨rfl, hg6⟩
      have GF := Lib.hid (G1.out.trans (H3.out.2.trans hg6))
      clear hg6
      go_wp2_with fail
      go_ret
      exact ⟨rfl, GF.out⟩
end Go.Proofs.YtlihcljjpalapaaDoor
