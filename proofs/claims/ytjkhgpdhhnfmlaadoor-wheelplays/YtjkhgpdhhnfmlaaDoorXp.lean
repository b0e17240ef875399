/- The contract of wheel.Load at this program. -/
import Derived.Test.YtjkhgpdhhnfmlaaDoorXo
namespace Go.Proofs.YtjkhgpdhhnfmlaaDoor
open Go.RowKit TM MK
open RG (Du La listR putB putR dropR dropO takeR hasId Srt)
open VM (RK BK lvl idsD)
set_option linter.unusedSimpArgs false

/-- how many on a level. -/
def ld (now : Nat) (L : List Du) (k : Nat) : Nat := (L.filter (fun d => decide (lvl now d.t = k))).length
theorem ld_ring (now : Nat) (L : List Du) (k : Nat) : (RK now L k).length = ld now L k := by unfold VM.RK ld; rw [List.length_map]
theorem ld_beyond (now : Nat) (L : List Du) : (BK now L).length = ld now L 6 := rfl
theorem ld_le (now : Nat) (L : List Du) (k : Nat) : ld now L k ≤ L.length := List.length_filter_le _ _
/-- seven numbers, the first k of them told by f. -/
def c7 (f : Nat → Int) (k : Nat) : Array Value := ((List.range 7).map fun i => Value.int .i64 (if i < k then f i else 0)).toArray
theorem c7_get (f : Nat → Int) (k i : Nat) (h : i < 7) : (c7 f k)[i]? = some (.int .i64 (if i < k then f i else 0)) := by unfold c7; simp [h]
theorem c7_set (f : Nat → Int) (k : Nat) (h : k < 7) : (c7 f k).setIfInBounds k (.int .i64 (f k)) = c7 f (k + 1) := by
  apply Array.ext_getElem?
  intro i
  rw [Array.getElem?_setIfInBounds]
  by_cases hi : i < 7
  · rw [c7_get f (k+1) i hi]
    by_cases e : k = i
    · subst e; simp [c7, h]
    · rw [if_neg e, c7_get f k i hi]
      by_cases hh : i < k
      · rw [if_pos hh, if_pos (by omega)]
      · rw [if_neg hh, if_neg (by omega)]
  · have h1 : (c7 f (k+1))[i]? = none := by simp [c7]; omega
    have h2 : (c7 f k)[i]? = none := by simp [c7]; omega
    rw [h1, h2, if_neg (by omega)]
theorem c7_zero (f : Nat → Int) : c7 f 0 = #[.int .i64 0, .int .i64 0, .int .i64 0, .int .i64 0, .int .i64 0, .int .i64 0, .int .i64 0] := by
  simp [c7, List.range, List.range.loop]
theorem c7_six (f : Nat → Int) : c7 f 6 = #[.int .i64 (f 0), .int .i64 (f 1), .int .i64 (f 2), .int .i64 (f 3), .int .i64 (f 4), .int .i64 (f 5), .int .i64 0] := by
  simp [c7, List.range, List.range.loop]
def ldv (now : Nat) (L : List Du) : Value := .agg #[.int .i64 (ld now L 0 : Nat), .int .i64 (ld now L 1 : Nat), .int .i64 (ld now L 2 : Nat), .int .i64 (ld now L 3 : Nat), .int .i64 (ld now L 4 : Nat), .int .i64 (ld now L 5 : Nat), .int .i64 (ld now L 6 : Nat)]
def LoadQ (now : Nat) (L : List Du) (w : World) (e : Ending) (w' : World) : Prop := e = .returned (ldv now L) ∧ Grw w w'
set_option maxHeartbeats 4000000 in
set_option maxRecDepth 100000 in
theorem load_W (S : Sh) (now : Nat) (L : List Du) (w : World) (h : WR w S now L) : Calls Tryd.prog 43 #[.pointer (some ⟨S.p, 0, none⟩)] w (LoadQ now L w) := by
  obtain ⟨D, hwg, _⟩ := h.wg
  obtain ⟨f, hf⟩ : ∃ f : Nat → Nat, f = ld now L := ⟨_, rfl⟩
  have LN : Hid (∀ u (_ : Grw w u) k, k < 6 → Calls Tryd.prog 65 #[.pointer (some ⟨S.rb k, 0, none⟩)] u fun e w' => e = .returned (.int .i64 (f k : Nat)) ∧ u = w') := (fun u g k hk => by
      have := len_R (S.rb k) (S.A k) (RK now L k) u ((hwg.later g).ring k hk)
      rw [ld_ring, ← hf] at this
      exact this : ∀ u (_ : Grw w u) k, k < 6 → Calls Tryd.prog 65 #[.pointer (some ⟨S.rb k, 0, none⟩)] u fun e w' => e = .returned (.int .i64 (f k : Nat)) ∧ u = w')
  have IX := Lib.hid (run_index6 S.rb)
  obtain ⟨ao, cap, hbv, _⟩ := ownsRow_lies hwg.own
  rw [ld_beyond, ← hf] at hbv
  have C := Lib.hid (fun u (g : Grw w u) => (hwg.later g).cells)
  have hpw : ¬ S.p = w.heap.size := by have := hwg.part_lt (i := 0) (g := S.p) rfl; omega
  have hpw1 : ¬ S.p = w.heap.size + 1 := by have := hwg.part_lt (i := 0) (g := S.p) rfl; omega
  have QQ : Hid (ldv now L = .agg #[.int .i64 (f 0 : Nat), .int .i64 (f 1 : Nat), .int .i64 (f 2 : Nat), .int .i64 (f 3 : Nat), .int .i64 (f 4 : Nat), .int .i64 (f 5 : Nat), .int .i64 (f 6 : Nat)]) := (by unfold ldv; rw [hf] : ldv now L = .agg #[.int .i64 (f 0 : Nat), .int .i64 (f 1 : Nat), .int .i64 (f 2 : Nat), .int .i64 (f 3 : Nat), .int .i64 (f 4 : Nat), .int .i64 (f 5 : Nat), .int .i64 (f 6 : Nat)])
  obtain ⟨Q, hQ⟩ : ∃ Q : Ending → World → Prop, Q = LoadQ now L w := ⟨_, rfl⟩
  rw [← hQ]
  have Q1 := Lib.hid hQ
  have K0 := C.out ((w.alloc (.cells #[.int .i64 0, .int .i64 0, .int .i64 0, .int .i64 0, .int .i64 0, .int .i64 0, .int .i64 0] 87)).alloc (.cells #[.int .i64 0, .int .i64 0, .int .i64 0, .int .i64 0, .int .i64 0, .int .i64 0, .int .i64 0] 87)) (((Grw.rfl' w).alloc _).alloc _)
  have k2 := K0.c2
  have k3 := K0.c3
  have k4 := K0.c4
  have k5 := K0.c5
  have k6 := K0.c6
  have k7 := K0.c7
  clear h hwg hQ K0 hf
  go_enter Tryd.func43, Tryd.ntmps43
  go_wp2_with fail
  go_loopw [13] (fun u wr => ∃ k : Nat, k ≤ 6 ∧ u = .int .i64 k ∧ wr = (w.alloc (.cells #[.int .i64 0, .int .i64 0, .int .i64 0, .int .i64 0, .int .i64 0, .int .i64 0, .int .i64 0] 87)).alloc (.cells (c7 (fun i => (f i : Int)) k) 87)) (fun u _ => 6 - (intOf u).toNat)
  case atStart => exact ⟨0, Nat.zero_le _, rfl, by rw [c7_zero]⟩
  case round =>
    obtain ⟨k, hk, rfl, rfl⟩ := hrel
    clear k2 k3 k4 k5 k6 k7
    by_cases hk6 : k < 6
    · have hki : (k : Int) < 6 := by omega
      have IK := Lib.hid (IX.out k hk6)
      have g2 := c7_get (fun i => (f i : Int)) k k (by omega)
      rw [if_neg (by omega)] at g2
      have hset := Lib.hid (c7_set (fun i => (f i : Int)) k (by omega))
      obtain ⟨A, hA⟩ : ∃ A, c7 (fun i => (f i : Int)) k = A := ⟨_, rfl⟩
      rw [hA] at g2 hset ⊢
      have LK := Lib.hid (LN.out ((w.alloc (.cells #[.int .i64 0, .int .i64 0, .int .i64 0, .int .i64 0, .int .i64 0, .int .i64 0, .int .i64 0] 87)).alloc (.cells A 87)) (((Grw.rfl' w).alloc _).alloc _) k hk6)
      clear hA
      go_wp2_with (simp only [IK.out])
      refine LK.out.mono ?_
      rintro _ w1 ⟨rfl, rfl⟩
      go_wp2_with fail
      go_roundw
      case rel => exact ⟨k + 1, by omega, by go_num, by rw [← hset.out]⟩
      case measure => simp [intOf]; omega
    · obtain rfl : k = 6 := by omega
      rw [c7_six]
      have CW := C.out ((w.alloc (.cells #[.int .i64 0, .int .i64 0, .int .i64 0, .int .i64 0, .int .i64 0, .int .i64 0, .int .i64 0] 87)).alloc (.cells #[.int .i64 (f 0), .int .i64 (f 1), .int .i64 (f 2), .int .i64 (f 3), .int .i64 (f 4), .int .i64 (f 5), .int .i64 0] 87)) (((Grw.rfl' w).alloc _).alloc _)
      have c8 := CW.c8
      rw [hbv] at c8
      clear CW
      go_wp2_with fail
      refine bodyPost_ret (v := .agg #[.int .i64 (f 0 : Nat), .int .i64 (f 1 : Nat), .int .i64 (f 2 : Nat), .int .i64 (f 3 : Nat), .int .i64 (f 4 : Nat), .int .i64 (f 5 : Nat), .int .i64 (f 6 : Nat)]) (by simp [results, Tryd.results43, go_sem]) rfl ?_
      rw [Q1.out]
      exact ⟨by rw [QQ.out], ((Grw.rfl' _).alloc _).alloc _⟩
theorem load_nil (w : World) : Calls Tryd.prog 43 #[.pointer none] w fun e w' => e = .returned (.agg #[.int .i64 0, .int .i64 0, .int .i64 0, .int .i64 0, .int .i64 0, .int .i64 0, .int .i64 0]) ∧ Grw w w' := by
  go_enter Tryd.func43, Tryd.ntmps43
  go_wp2_with fail
  refine bodyPost_ret (v := .agg #[.int .i64 0, .int .i64 0, .int .i64 0, .int .i64 0, .int .i64 0, .int .i64 0, .int .i64 0]) (by simp [results, Tryd.results43, go_sem]) rfl ?_
  exact ⟨rfl, ((Grw.rfl' _).alloc _).alloc _⟩
end Go.Proofs.YtjkhgpdhhnfmlaaDoor
