/- The contract of the laws' own same at this program. -/
import Derived.Test.YtlihcljjpalapaaDoorSd
import Derived.Test.YtlihcljjpalapaaDoorLa
namespace Go.Proofs.YtlihcljjpalapaaDoor
open Go.RowKit MK
open RG (Du La listR putB putR dropR dropO takeR hasId inSlot)
set_option linter.unusedSimpArgs false

theorem dues_is (u v : Value) (l : List Du) (w : World) (hb : l.length ≤ 1000000) (ha : RowD w u l) (hv : RowD w v l) :
    Calls Tryd.prog 12 #[u, v] w fun e w' => e = .returned (.bool true) ∧ Grw w w' := dues_same u v l w hb ha hv
theorem rround_is (m : Nat) (i : Int) (v : Int) (o : Bool) (w : World) (h1 : ov (rnd m i) = v) (h2 : (rnd m i).isSome = o) :
    Calls Tryd.prog 32 #[.int .u64 m, .int .i64 i] w fun e w' => e = .returned (.agg #[.int .i64 v, .bool o]) ∧ Grw w w' := by rw [← h1, ← h2]; exact rround_any m i w
theorem rmask_is (q : Nat) (v : Value) (R : List La) (m : Nat) (w : World) (h : RefL w q v R) (h1 : mR R = m) : Calls Tryd.prog 31 #[.pointer (some ⟨q, 0, none⟩)] w fun e w' => e = .returned (.int .u64 (m : Nat)) ∧ Grw w w' := by rw [← h1]; exact rmask_R q v R w h
theorem mask_is (b : Nat) (A : Array Value) (R : List La) (m : Nat) (w : World) (h : RingR w b A R) (h1 : mR R = m) : Calls Tryd.prog 21 #[.pointer (some ⟨b, 0, none⟩)] w fun e w' => e = .returned (.int .u64 (m : Nat)) ∧ w = w' := by rw [← h1]; exact mask_R b A R w h
theorem first_is (b : Nat) (A : Array Value) (R : List La) (m : Nat) (f : Int) (v : Int) (o : Bool) (w : World) (h : RingR w b A R) (t : Tab w) (hm : mR R = m) (h1 : ov (rnd m f) = v) (h2 : (rnd m f).isSome = o) :
    Calls Tryd.prog 19 #[.pointer (some ⟨b, 0, none⟩), .int .i64 f] w fun e w' => e = .returned (.tuple #[.int .i64 v, .bool o]) ∧ w = w' := first_R b A R f v o w h t (by rw [hm]; exact h1) (by rw [hm]; exact h2)
set_option maxHeartbeats 4000000 in
set_option maxRecDepth 100000 in
theorem same_any (b : Nat) (A : Array Value) (q : Nat) (v : Value) (R : List La) (w : World) (h : RingR w b A R) (hr : RefL w q v R) (t : Tab w) :
    Calls Tryd.prog 16 #[.pointer (some ⟨b, 0, none⟩), .pointer (some ⟨q, 0, none⟩)] w fun e w' => e = .returned (.bool true) ∧ Grw w w' := by
  obtain ⟨m, hm⟩ : ∃ m, mR R = m := ⟨_, rfl⟩
  obtain ⟨n, hn⟩ : ∃ n, R.length = n := ⟨_, rfl⟩
  have RG' := Lib.hid h
  have RF := Lib.hid hr
  have TB := Lib.hid t
  have LN := Lib.hid (fun p : GW w => len_is b A R n p.x (h.later p.h) hn)
  have MA := Lib.hid (fun p : GW w => mask_is b A R m p.x (h.later p.h) hm)
  have RM := Lib.hid (fun p : GW w => rmask_is q v R m p.x (hr.later p.h) hm)
  have RM2 := Lib.hid (fun u (g : Grw w u) => rmask_is q v R m u (hr.later g) hm)
  have LI := Lib.hid (fun u (g : Grw w u) i => list_R b A R i u (h.later g))
  have RL := Lib.hid (fun u (g : Grw w u) i => rlist_R q v R i u (hr.later g))
  have FI := Lib.hid (fun u (g : Grw w u) i x o h1 h2 => first_is b A R m i x o u (h.later g) (tab_grw g t) hm h1 h2)
  have BL : Hid (∀ i, (listR R i).length ≤ 1000000) := (fun i => Nat.le_trans (listR_len R i) (by have := h.few; omega) : ∀ i, (listR R i).length ≤ 1000000)
  have hcq := gw_cell hr.cell
  obtain ⟨ao, cap, hv, _⟩ := hr.row
  rw [hn] at hv
  subst hv
  have hnn : ((n : Int) != (n : Int)) = false := by simp
  have hmm' : ((m : Int) != (m : Int)) = false := by simp
  clear h hr t hm hn
  go_enter Tryd.func16, Tryd.ntmps16
  go_wp2_with fail
  refine wp_region_grown (by kernel_rfl) (by kernel_rfl) ?_
  repeat (go_big_quiet_step (first | (go_at_call 18; exact calls_grown_same (LN.out _)) | (go_at_call 21; exact calls_grown_same (MA.out _)) | (go_at_call 31; exact calls_grown (RM.out _))))
  refine wpQuiet_nil ?_
  rintro _ ⟨q', rfl⟩
  have G0 := Lib.hid q'.h
  obtain ⟨w0, hw0⟩ : ∃ w0, q'.x = w0 := ⟨_, rfl⟩
  rw [hw0] at G0 ⊢
  clear hcq hw0
  go_wp2_with fail
  go_loopw [5] (fun u wr => ∃ i : Int, -1 ≤ i ∧ i ≤ 65 ∧ u = .int .i64 i ∧ Grw w wr) (fun u _ => (65 - intOf u).toNat)
  case atStart => exact ⟨-1, by omega, by omega, rfl, G0.out⟩
  case round =>
    obtain ⟨i, hi1, hi2, rfl, hg⟩ := hrel
    have G := Lib.hid hg
    clear hg
    by_cases hi : i ≤ 64
    · have L1 := Lib.hid (LI.out wr G.out i)
      obtain ⟨x, hx⟩ : ∃ x, ov (rnd m i) = x := ⟨_, rfl⟩
      obtain ⟨o, ho⟩ : ∃ o, (rnd m i).isSome = o := ⟨_, rfl⟩
      have RO := Lib.hid (fun u => rround_is m i x o u hx ho)
      have FX := Lib.hid (fun u (g : Grw w u) => FI.out u g i x o hx ho)
      have hxx : (x != x) = false := by simp
      have hoo : (o != o) = false := by simp
      clear hx ho
      go_wp2_with fail
      refine L1.out.mono ?_
      rintro _ w1 ⟨v1, rfl, ho1, hg1⟩
      have H1 : Hid (RowD w1 v1 (listR R i) ∧ Grw w w1) := (⟨ownsRow_lies ho1, G.out.trans hg1⟩ : RowD w1 v1 (listR R i) ∧ Grw w w1)
      clear ho1 hg1
      go_wp2_with fail
      refine (RL.out w1 H1.out.2 i).mono ?_
      rintro _ w2 ⟨v2, rfl, hr2, hg2⟩
      have H2 := Lib.hid (And.intro hr2 (And.intro (H1.out.1.later hg2) (H1.out.2.trans hg2)))
      have DU := Lib.hid (dues_is v1 v2 (listR R i) w2 (BL.out i) H2.out.2.1 H2.out.1)
      clear hr2 hg2
      go_wp2_with fail
      refine DU.out.mono ?_
      rintro _ w3 ⟨rfl, hg3⟩
      have H3 := Lib.hid (H2.out.2.2.trans hg3)
      clear hg3
      go_wp2_with fail
      refine (FX.out w3 H3.out).mono ?_
      rintro _ w4 ⟨rfl, rfl⟩
      go_wp2_with fail
      refine (RM2.out _ H3.out).mono ?_
      rintro _ w4 ⟨rfl, hg4⟩
      have H4 := Lib.hid (H3.out.trans hg4)
      clear hg4
      go_wp2_with fail
      refine (RO.out _).mono ?_
      rintro _ w5 ⟨rfl, hg5⟩
      have H5 := Lib.hid (H4.out.trans hg5)
      clear hg5
      go_wp2_with fail
      go_roundw
      case rel => exact ⟨i + 1, by omega, by omega, by go_num, H5.out⟩
      case measure => simp [intOf]; omega
    · go_wp2_with fail
      go_ret
      exact ⟨rfl, G.out⟩
end Go.Proofs.YtlihcljjpalapaaDoor
