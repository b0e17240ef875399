/- The contract of the laws' own wakes at this program. -/
import Derived.Test.YtlihcljjpalapaaDoorTa
namespace Go.Proofs.YtlihcljjpalapaaDoor
open Go.RowKit MK
open RG (Du La listR putB putR dropR dropO takeR hasId)
set_option linter.unusedSimpArgs false

theorem put_is (b : Nat) (A : Array Value) (R R' : List La) (i : Int) (d : Du) (o : Bool) (w : World) (h : RingR w b A R) (hf : R.length < 1000) (h1 : putB R i d = o) (h2 : putR R i d = R') :
    Calls Tryd.prog 8 #[.pointer (some ⟨b, 0, none⟩), .int .i64 i, dv d] w fun e w' => e = .returned (.bool o) ∧ RQ b A w R' w' := by rw [← h1, ← h2]; exact put_R b A R i d w h hf
theorem take_is (b : Nat) (A : Array Value) (R R' : List La) (i : Int) (l : List Du) (w : World) (h : RingR w b A R) (h1 : listR R i = l) (h2 : takeR R i = R') :
    Calls Tryd.prog 13 #[.pointer (some ⟨b, 0, none⟩), .int .i64 i] w fun e w' => ∃ v, e = .returned v ∧ RowD w' v l ∧ RQ b A w R' w' := by rw [← h1, ← h2]; exact take_R b A R i w h
theorem len_is (b : Nat) (A : Array Value) (R : List La) (n : Nat) (w : World) (h : RingR w b A R) (h1 : R.length = n) :
    Calls Tryd.prog 18 #[.pointer (some ⟨b, 0, none⟩)] w fun e w' => e = .returned (.int .i64 (n : Nat)) ∧ w = w' := by rw [← h1]; exact len_R b A R w h
set_option maxHeartbeats 4000000 in
set_option maxRecDepth 100000 in
theorem wakes_any (w : World) : Calls Tryd.prog 17 #[] w fun e w' => e = .returned (.bool true) ∧ Grw w w' := by
  have N := Lib.hid (newR w)
  have P1 := Lib.hid (fun b A u (h : RingR u b A []) => put_is b A [] [⟨3, ⟨2, 67⟩⟩] 3 ⟨2, 67⟩ true u h (by decide) (by decide) (by decide))
  have P2 := Lib.hid (fun b A u (h : RingR u b A [⟨3, ⟨2, 67⟩⟩]) => put_is b A [⟨3, ⟨2, 67⟩⟩] [⟨3, ⟨2, 67⟩⟩, ⟨3, ⟨1, 67⟩⟩] 3 ⟨1, 67⟩ true u h (by decide) (by decide) (by decide))
  have P3 := Lib.hid (fun b A u (h : RingR u b A [⟨3, ⟨2, 67⟩⟩, ⟨3, ⟨1, 67⟩⟩]) => put_is b A [⟨3, ⟨2, 67⟩⟩, ⟨3, ⟨1, 67⟩⟩] [⟨3, ⟨2, 67⟩⟩, ⟨3, ⟨1, 67⟩⟩] 4 ⟨1, 5⟩ false u h (by decide) (by decide) (by decide))
  have T := Lib.hid (fun b A u (h : RingR u b A [⟨3, ⟨2, 67⟩⟩, ⟨3, ⟨1, 67⟩⟩]) => take_is b A [⟨3, ⟨2, 67⟩⟩, ⟨3, ⟨1, 67⟩⟩] [] 3 [⟨1, 67⟩, ⟨2, 67⟩] u h (by decide) (by decide))
  have LN := Lib.hid (fun b A u (h : RingR u b A []) => len_is b A [] 0 u h rfl)
  unfold dv at P1 P2 P3
  simp only at P1 P2 P3
  go_enter Tryd.func17, Tryd.ntmps17
  go_wp2_with fail
  refine N.out.mono ?_
  rintro _ w1 ⟨rfl, hr, hg, _⟩
  have H1 := Lib.hid (And.intro hr (And.intro (mine_new w) hg))
  obtain ⟨b, hb⟩ : ∃ b, w.heap.size = b := ⟨_, rfl⟩
  obtain ⟨A, hA⟩ : ∃ A, Array.replicate 64 (Value.slice none 0 0) = A := ⟨_, rfl⟩
  rw [hA] at H1
  have H1' : Hid (RingR w1 b A [] ∧ Mine w b A ∧ Grw w w1) := (by have := H1.out; rw [hb] at this; exact this : RingR w1 b A [] ∧ Mine w b A ∧ Grw w w1)
  rw [hb]
  clear hr hg hA H1 hb
  go_wp2_with fail
  refine (P1.out b A _ H1'.out.1).mono ?_
  rintro _ w2 ⟨rfl, hq⟩
  obtain ⟨A2, h2⟩ := hq.out H1'.out.2.1 H1'.out.2.2
  have H2 := Lib.hid h2
  clear hq h2
  go_wp2_with fail
  refine (P2.out b A2 _ H2.out.1).mono ?_
  rintro _ w3 ⟨rfl, hq⟩
  obtain ⟨A3, h3⟩ := hq.out H2.out.2.1 H2.out.2.2
  have H3 := Lib.hid h3
  clear hq h3
  go_wp2_with fail
  refine (P3.out b A3 _ H3.out.1).mono ?_
  rintro _ w4 ⟨rfl, hq⟩
  obtain ⟨A4, h4⟩ := hq.out H3.out.2.1 H3.out.2.2
  have H4 := Lib.hid h4
  clear hq h4
  go_wp2_with fail
  refine (T.out b A4 _ H4.out.1).mono ?_
  rintro _ w5 ⟨v, rfl, hrow, hq⟩
  obtain ⟨A5, h5⟩ := hq.out H4.out.2.1 H4.out.2.2
  have H5 := Lib.hid h5
  obtain ⟨ao, cap, rfl, hl⟩ := hrow
  obtain ⟨rb, off, rfl, c0, c1⟩ := lies_at hl (j := 0) (by decide)
  obtain ⟨rb', off', e, c2, c3⟩ := lies_at hl (j := 1) (by decide)
  injection e with e
  injection e with e1 e2
  subst e1; subst e2
  simp only [Nat.zero_mul, Nat.add_zero, List.getElem_cons_zero, List.getElem_cons_succ, Nat.one_mul] at c0 c1 c2 c3
  have LN5 := Lib.hid (LN.out b A5 _ H5.out.1)
  clear hq h5 hl
  go_wp2_with fail
  refine LN5.out.mono ?_
  rintro _ w6 ⟨rfl, rfl⟩
  go_wp2_with fail
  go_ret
  exact ⟨rfl, H5.out.2.2⟩
end Go.Proofs.YtlihcljjpalapaaDoor
