/- The contracts of ring.New, has, Len, Mask, First at this program. -/
import Derived.Test.YtlihcljjpalapaaDoorWg
import Derived.Test.YtlihcljjpalapaaDoorRl
import Derived.Deep.MidRow
namespace Go.Proofs.YtlihcljjpalapaaDoor
open Go.RowKit MK
open RG (Du)
set_option linter.unusedSimpArgs false

theorem nil64 (k : Nat) (v : Value) (h : (Array.replicate 64 (Value.slice none 0 0))[k]? = some v) : v = .slice none 0 0 := by
  rw [Array.getElem?_replicate] at h
  split at h
  · exact (Option.some.inj h).symm
  · cases h
theorem ring_new (w : World) : RingL (w.alloc (.cells (Array.replicate 64 (Value.slice none 0 0)) 53)) w.heap.size (Array.replicate 64 (Value.slice none 0 0)) (fun _ => []) := by
  refine ⟨heap_alloc_new w _, by simp, fun k v h => ?_, fun k v h => ?_, fun j k u v g hu hv eu _ => ?_⟩
  · rw [nil64 k v h]; exact World.ownsRow_nil _ _ _ _
  · rw [nil64 k v h]; intro e; cases e
  · rw [nil64 j u hu] at eu; cases eu
set_option maxRecDepth 100000 in
theorem new_any (w : World) : Calls Tryd.prog 6 #[] w fun e w' => e = .returned (.pointer (some ⟨w.heap.size, 0, none⟩)) ∧ RingL w' w.heap.size (Array.replicate 64 (Value.slice none 0 0)) (fun _ => []) ∧ Grw w w' ∧ w'.heap.size = w.heap.size + 1 := by
  have R := Lib.hid (ring_new w)
  go_enter Tryd.func6, Tryd.ntmps6
  go_wp2_with fail
  go_ret
  exact ⟨rfl, R.out, (Grw.rfl' _).alloc _, size_new _ _⟩
theorem has_yes (a : Addr) (n : Nat) (w : World) (h : n < 64) :
    Calls Tryd.prog 22 #[.pointer (some a), .int .i64 n] w fun e w' => e = .returned (.bool true) ∧ w = w' := by
  have hi : (n : Int) < 64 := by omega
  go_enter Tryd.func22, Tryd.ntmps22
  go_wp2
  go_ret
  exact ⟨rfl, rfl⟩
theorem has_no (a : Addr) (i : Int) (w : World) (h : ¬ (0 ≤ i ∧ i < 64)) :
    Calls Tryd.prog 22 #[.pointer (some a), .int .i64 i] w fun e w' => e = .returned (.bool false) ∧ w = w' := by
  by_cases h0 : 0 ≤ i
  · have h1 : ¬ i < 64 := fun g => h ⟨h0, g⟩
    clear h
    go_enter Tryd.func22, Tryd.ntmps22
    go_wp2
    go_ret
    exact ⟨rfl, rfl⟩
  · clear h
    go_enter Tryd.func22, Tryd.ntmps22
    go_wp2
    go_ret
    exact ⟨rfl, rfl⟩
theorem has_nil (i : Int) (w : World) :
    Calls Tryd.prog 22 #[.pointer none, .int .i64 i] w fun e w' => e = .returned (.bool false) ∧ w = w' := by
  go_enter Tryd.func22, Tryd.ntmps22
  go_wp2
  go_ret
  exact ⟨rfl, rfl⟩
theorem Tryd.size51 : (Tryd.prog.info? 51).map (·.size) = some 64 := by kernel_rfl
theorem ring_range {w : World} {b : Nat} {A : Array Value} {L : Nat → List Du} (h : RingL w b A L) : w.rangeAt b 0 A.toList := by
  intro j v hv
  rw [Nat.zero_add]
  exact h.cells j v (by simpa using hv)
theorem run_index64 (l : List Value) (k : Nat) (v : Value) (hk : k < 64) (h : l.toArray[k]? = some v) (w : World) :
    (Instr.index 51 (.agg l.toArray) (.int .i64 (k : Int))).run Tryd.prog w = .ok v w := by
  have h1 : 0 ≤ (k : Int) ∧ (k : Int) < 64 := by omega
  have hl : l[k]? = some v := by simpa using h
  simp [Instr.index, asIntOf, run_underlying Tryd.underlying51, Tryd.sizeOf42, part, Tryd.isAgg42, hl, hk]
theorem tot_step (L : Nat → List Du) (k : Nat) : tot L (k + 1) = tot L k + (L k).length := rfl
set_option maxHeartbeats 1000000 in
set_option maxRecDepth 100000 in
theorem len_any (b : Nat) (A : Array Value) (L : Nat → List Du) (w : World) (h : RingL w b A L) (ht : tot L 64 ≤ 1000000) :
    Calls Tryd.prog 18 #[.pointer (some ⟨b, 0, none⟩)] w fun e w' => e = .returned (.int .i64 (tot L 64 : Nat)) ∧ w = w' := by
  have R := Lib.hid h
  have hr := Lib.hid (ring_range h)
  have hz : (Tryd.prog.info? 51).map (·.size) = some A.toList.length := by rw [Tryd.size51, Array.length_toList, h.size]
  have HZ := Lib.hid hz
  have hs := h.size
  obtain ⟨l, hl⟩ : ∃ l, A.toList = l := ⟨_, rfl⟩
  rw [hl] at hr HZ
  have hA : A = l.toArray := by rw [← hl]
  have HA := Lib.hid hA
  have TM := Lib.hid (fun j k (h : j ≤ k) => tot_mono L h)
  have TS := Lib.hid (fun k => tot_step L k)
  clear h hz hl hA hs
  go_enter Tryd.func18, Tryd.ntmps18
  go_wp2_with (refine wpList_load_mid rfl 51 _ rfl b 0 rfl l _ hr.out Tryd.underlying51 rfl HZ.out ?_)
  go_loopw [3, 12] (fun v i wr => ∃ k : Nat, k ≤ 64 ∧ i = .int .i64 k ∧ v = .int .i64 (tot L k : Nat) ∧ w = wr) (fun _ i _ => 64 - (intOf i).toNat)
  case atStart => exact ⟨0, Nat.zero_le _, rfl, rfl, rfl⟩
  case round =>
    obtain ⟨k, hk, rfl, rfl, rfl⟩ := hrel
    by_cases hk' : k < 64
    · have hki : (k : Int) < 64 := by omega
      obtain ⟨ao, cap, hcell, _⟩ := R.out.row hk'
      have ht1 := TM.out (k + 1) 64 (by omega)
      have hst := TS.out k
      rw [HA.out] at hcell
      obtain ⟨n, hn⟩ : ∃ n, (L k).length = n := ⟨_, rfl⟩
      obtain ⟨t, htt⟩ : ∃ t, tot L k = t := ⟨_, rfl⟩
      obtain ⟨u, hu⟩ : ∃ u, tot L (k + 1) = u := ⟨_, rfl⟩
      rw [hn] at hcell hst
      rw [htt] at hst ⊢
      rw [hu] at hst ht1
      have hb : t + n ≤ 1000000 := by omega
      have HU := Lib.hid hu
      have S := Lib.hid hst
      have hix := run_index64 l k _ hk' hcell
      clear hn htt hu hst hcell
      go_wp2_with fail
      go_roundw
      case rel => exact ⟨k + 1, by omega, by go_num, by rw [HU.out, S.out]; go_num, trivial⟩
      case measure => simp [intOf]; omega
    · have hki : ¬ (k : Int) < 64 := by omega
      have hke : k = 64 := by omega
      go_wp2_with fail
      go_ret
      exact ⟨by subst hke; rfl, rfl⟩
/-- the set of the slots that are not empty, of the first k. -/
def msk (L : Nat → List Du) : Nat → Nat
  | 0 => 0
  | k + 1 => if 0 < (L k).length then wth (msk L k) (k : Int) else msk L k
theorem msk_lt (L : Nat → List Du) (k : Nat) : msk L k < 18446744073709551616 := by
  induction k with
  | zero => exact Nat.zero_lt_succ _
  | succ k ih =>
    unfold msk
    split
    · exact wth_lt ih _
    · exact ih
theorem msk_yes {L : Nat → List Du} {k : Nat} (h : 0 < (L k).length) : msk L (k + 1) = wth (msk L k) (k : Int) := if_pos h
theorem msk_no {L : Nat → List Du} {k : Nat} (h : ¬ 0 < (L k).length) : msk L (k + 1) = msk L k := if_neg h
set_option maxHeartbeats 1000000 in
set_option maxRecDepth 100000 in
theorem mask_any (b : Nat) (A : Array Value) (L : Nat → List Du) (w : World) (h : RingL w b A L) :
    Calls Tryd.prog 21 #[.pointer (some ⟨b, 0, none⟩)] w fun e w' => e = .returned (.int .u64 (msk L 64 : Nat)) ∧ w = w' := by
  have R := Lib.hid h
  have hr := Lib.hid (ring_range h)
  have hz : (Tryd.prog.info? 51).map (·.size) = some A.toList.length := by rw [Tryd.size51, Array.length_toList, h.size]
  have HZ := Lib.hid hz
  obtain ⟨l, hl⟩ : ∃ l, A.toList = l := ⟨_, rfl⟩
  rw [hl] at hr HZ
  have hA : A = l.toArray := by rw [← hl]
  have HA := Lib.hid hA
  have ML := Lib.hid (fun k => msk_lt L k)
  clear h hz hl hA
  go_enter Tryd.func21, Tryd.ntmps21
  go_wp2_with (refine wpList_load_mid rfl 51 _ rfl b 0 rfl l _ hr.out Tryd.underlying51 rfl HZ.out ?_)
  go_loopw [3, 12] (fun v i wr => ∃ k : Nat, k ≤ 64 ∧ i = .int .i64 k ∧ v = .int .u64 (msk L k : Nat) ∧ w = wr) (fun _ i _ => 64 - (intOf i).toNat)
  case atStart => exact ⟨0, Nat.zero_le _, rfl, rfl, rfl⟩
  case round =>
    obtain ⟨k, hk, rfl, rfl, rfl⟩ := hrel
    by_cases hk' : k < 64
    · have hki : (k : Int) < 64 := by omega
      obtain ⟨ao, cap, hcell, _⟩ := R.out.row hk'
      rw [HA.out] at hcell
      have hix := run_index64 l k _ hk' hcell
      have hml := ML.out k
      by_cases hp : 0 < (L k).length
      · have hst := msk_yes hp
        obtain ⟨n, hn⟩ : ∃ n, (L k).length = n := ⟨_, rfl⟩
        obtain ⟨m, hm⟩ : ∃ m, msk L k = m := ⟨_, rfl⟩
        obtain ⟨y, hy⟩ : ∃ y, wth m (k : Int) = y := ⟨_, rfl⟩
        rw [hn] at hix hp
        rw [hm, hy] at hst
        rw [hm] at hml ⊢
        have C := Lib.hid (with_is m y (k : Int) w hml hy)
        have S := Lib.hid hst
        have hp' : decide (0 < (n : Int)) = true := by simp; omega
        clear hn hm hy hst hcell
        go_wp2_with fail
        refine C.out.mono ?_
        rintro _ w1 ⟨rfl, rfl⟩
        go_wp2_with fail
        go_roundw
        case rel => exact ⟨k + 1, by omega, by go_num, by rw [S.out], trivial⟩
        case measure => simp [intOf]; omega
      · have hst := msk_no hp
        obtain ⟨n, hn⟩ : ∃ n, (L k).length = n := ⟨_, rfl⟩
        rw [hn] at hix hp
        have hn0 : n = 0 := by omega
        subst hn0
        have S := Lib.hid hst
        clear hn hst hcell hp
        go_wp2_with fail
        go_roundw
        case rel => exact ⟨k + 1, by omega, by go_num, by rw [S.out], trivial⟩
        case measure => simp [intOf]; omega
    · have hki : ¬ (k : Int) < 64 := by omega
      have hke : k = 64 := by omega
      go_wp2_with fail
      go_ret
      exact ⟨by subst hke; rfl, rfl⟩
theorem first_any (b : Nat) (A : Array Value) (L : Nat → List Du) (f : Int) (v : Int) (o : Bool) (w : World) (h : RingL w b A L) (t : Tab w) (h1 : ov (rnd (msk L 64) f) = v) (h2 : (rnd (msk L 64) f).isSome = o) :
    Calls Tryd.prog 19 #[.pointer (some ⟨b, 0, none⟩), .int .i64 f] w fun e w' => e = .returned (.tuple #[.int .i64 v, .bool o]) ∧ w = w' := by
  have M := mask_any b A L w h
  have hm := msk_lt L 64
  obtain ⟨m, hmm⟩ : ∃ m, msk L 64 = m := ⟨_, rfl⟩
  rw [hmm] at M hm h1 h2
  have C := Lib.hid (round_is m f v o w hm t h1 h2)
  have M := Lib.hid M
  clear h t h1 h2 hmm
  go_enter Tryd.func19, Tryd.ntmps19
  go_wp2_with fail
  refine M.out.mono ?_
  rintro _ w1 ⟨rfl, rfl⟩
  go_wp2_with fail
  refine C.out.mono ?_
  rintro _ w1 ⟨rfl, rfl⟩
  go_wp2_with fail
  go_ret2
  exact ⟨rfl, rfl⟩
theorem len_nil (w : World) : Calls Tryd.prog 18 #[.pointer none] w fun e w' => e = .returned (.int .i64 0) ∧ w = w' := by
  go_enter Tryd.func18, Tryd.ntmps18
  go_wp2_with fail
  go_ret
  exact ⟨rfl, rfl⟩
theorem mask_nil (w : World) : Calls Tryd.prog 21 #[.pointer none] w fun e w' => e = .returned (.int .u64 0) ∧ w = w' := by
  go_enter Tryd.func21, Tryd.ntmps21
  go_wp2_with fail
  go_ret
  exact ⟨rfl, rfl⟩
theorem rnd_zero (f : Int) : rnd 0 f = none := by
  unfold rnd
  split
  · rename_i h
    obtain ⟨n, rfl⟩ := Int.eq_ofNat_of_zero_le h.1
    have := rnd_none (m := 0) (f := n) rfl
    unfold rnd at this
    rwa [if_pos h] at this
  · rfl
theorem first_nil (f : Int) (w : World) (t : Tab w) :
    Calls Tryd.prog 19 #[.pointer none, .int .i64 f] w fun e w' => e = .returned (.tuple #[.int .i64 0, .bool false]) ∧ w = w' := by
  have M := Lib.hid (mask_nil w)
  have C := round_is 0 f 0 false w (by decide) t (by rw [rnd_zero]; rfl) (by rw [rnd_zero]; rfl)
  have C := Lib.hid C
  clear t
  go_enter Tryd.func19, Tryd.ntmps19
  go_wp2_with fail
  refine M.out.mono ?_
  rintro _ w1 ⟨rfl, rfl⟩
  go_wp2_with fail
  refine C.out.mono ?_
  rintro _ w1 ⟨rfl, rfl⟩
  go_wp2_with fail
  go_ret2
  exact ⟨rfl, rfl⟩
end Go.Proofs.YtlihcljjpalapaaDoor
