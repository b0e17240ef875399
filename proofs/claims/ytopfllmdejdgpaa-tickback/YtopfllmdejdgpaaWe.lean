/- The walk of TickTops. -/
import Derived.Test.YtopfllmdejdgpaaWc
import Derived.Deep.CutRange
import Derived.Deep.QuietTactic
import Derived.BigQuiet
import Derived.Test.YtopfllmdejdgpaaGrow
namespace Go.Proofs.Ytopfllmdejdgpaa
open Go.RowKit TM

/-- What a law keeps of the world behind its two arrays of digits, in the blocks B and B + 1. -/
def TInv (a b : Int) (B : Nat) (w wr : World) : Prop :=
  Grw w wr ∧ (∀ j, j < 11 → wr.cell? ⟨B, j, none⟩ = some (.int .i64 (dig a j))) ∧ (∀ j, j < 11 → wr.cell? ⟨B + 1, j, none⟩ = some (.int .i64 (dig b j)))
theorem TInv.drewN {a b : Int} {B : Nat} {w wr : World} (h : TInv a b B w wr) (n : Nat) : TInv a b B w (wr.drewN n) := ⟨h.1.drewN n, h.2⟩

theorem tinv_start (a b : Int) (w : World) (c1 c2 c3 c4 : Array Value) : TInv a b (w.heap.size + 1 + 1 + 1 + 1) w
    ((((((w.alloc (.cells c1 23)).alloc (.cells c2 23)).alloc (.cells c3 23)).alloc (.cells c4 23)).alloc (.cells #[.int .i64 (dig a 0), .int .i64 (dig a 1), .int .i64 (dig a 2), .int .i64 (dig a 3), .int .i64 (dig a 4), .int .i64 (dig a 5), .int .i64 (dig a 6), .int .i64 (dig a 7), .int .i64 (dig a 8), .int .i64 (dig a 9), .int .i64 (dig a 10)] 23)).alloc (.cells #[.int .i64 (dig b 0), .int .i64 (dig b 1), .int .i64 (dig b 2), .int .i64 (dig b 3), .int .i64 (dig b 4), .int .i64 (dig b 5), .int .i64 (dig b 6), .int .i64 (dig b 7), .int .i64 (dig b 8), .int .i64 (dig b 9), .int .i64 (dig b 10)] 23)) := by
  rw [← dcells_all a, ← dcells_all b]
  refine ⟨((((((Grw.rfl' _).alloc _).alloc _).alloc _).alloc _).alloc _).alloc _, ?_, ?_⟩
  · intro j hj
    have h := dcells_get a 11 j hj
    rw [if_pos hj] at h
    simp [go_sem, h]
  · intro j hj
    have h := dcells_get b 11 j hj
    rw [if_pos hj] at h
    simp [go_sem, h]

set_option maxHeartbeats 2000000 in
set_option maxRecDepth 100000 in
theorem tops_walk (a b : Int) (w : World) (ha : Wd a) (hb : Wd b) :
    Calls Try.prog 6 #[.int .u64 a, .int .u64 b] w fun e w' => e = .returned (.bool true) ∧ Grw w w' := by
  have T1 := Lib.hid (fun w => top_any a b w ha hb)
  have T2 := Lib.hid (fun w => top_any b a w hb ha)
  have T3 := Lib.hid (fun w => top_any a a w ha ha)
  have D1 := Lib.hid (fun w => digits_any a w ha)
  have D2 := Lib.hid (fun w => digits_any b w hb)
  rw [topV_comm b a] at T2
  rw [topV_self] at T3
  obtain ⟨k0, k1⟩ := topV_range ha hb
  have K := Lib.hid (topV_neg ha hb)
  have KA := Lib.hid (fun i => top_dig_above ha hb i)
  have KB := Lib.hid (fun k => top_dig_at ha hb k)
  clear ha hb
  generalize topV a b = k at *
  go_enter Try.func6, Try.ntmps6
  go_wp2_with fail
  refine (T1.out _).mono ?_
  rintro _ _ ⟨rfl, rfl⟩
  go_wp2_with fail
  refine (D1.out _).mono ?_
  rintro _ _ ⟨rfl, c1, c2, rfl⟩
  go_wp2_with fail
  refine (D2.out _).mono ?_
  rintro _ _ ⟨rfl, c3, c4, rfl⟩
  go_upto_region 3 with (fail)
  go_cut [42] from 9 (fun v wx => v = .bool false ∧ TInv a b (w.heap.size + 1 + 1 + 1 + 1) w wx)
  case first =>
    have hcase : k = -1 ∧ a = b ∨ k ≠ -1 ∧ a ≠ b := by
      have := K.out
      by_cases h : k = -1
      · exact Or.inl ⟨h, this.1 h⟩
      · exact Or.inr ⟨h, fun e => h (this.2 e)⟩
    clear K KA KB T1 D1 D2
    rcases hcase with ⟨rfl, rfl⟩ | ⟨h1, h2⟩
    · go_wp2_with (go_at_call 18; refine (T2.out _).mono ?_; rintro _ _ ⟨rfl, rfl⟩)
      go_meet
      case rel => exact ⟨rfl, tinv_start _ _ _ _ _ _ _⟩
    · have h3 : (k == -1) = false := by simpa using h1
      have h4 : (a == b) = false := by simpa using h2
      have h5 : decide (k < -1) = false := decide_eq_false (by omega)
      have h6 : decide (11 ≤ k) = false := decide_eq_false (by omega)
      clear h1 h2
      go_wp2_with (go_at_call 18; first | ((with_reducible refine (T2.out _).mono ?_); rintro _ _ ⟨rfl, rfl⟩) | ((with_reducible refine (T3.out _).mono ?_); rintro _ _ ⟨rfl, rfl⟩))
      go_meet
      case rel => exact ⟨rfl, tinv_start _ _ _ _ _ _ _⟩
  case rest =>
    obtain ⟨rfl, hinv⟩ := hcut
    generalize w.heap.size + 1 + 1 + 1 + 1 = B at *
    clear T1 T2 T3 D1 D2
    go_wp2_with fail
    go_loopw [8] (fun v wr => ∃ i : Nat, i ≤ 11 ∧ k < i ∧ v = .int .i64 i ∧ TInv a b B w wr) (fun v _ => 11 - (intOf v).toNat)
    case atStart => exact ⟨(k + 1).toNat, by omega, by omega, by go_num, hinv⟩
    case round =>
      obtain ⟨i, hi, hki, rfl, hinv⟩ := hrel
      by_cases hlt : i < 11
      · have c1 := hinv.2.1 i hlt
        have c2 := hinv.2.2 i hlt
        have he := KA.out i hki
        rw [he] at c1
        have i1 : (i : Int) < 11 := by omega
        clear he K KA KB
        go_wp2_with fail
        go_quiet (fail)
        go_wp2_with fail
        go_roundw
        case rel => exact ⟨i + 1, by omega, by omega, by go_num, hinv.drewN _⟩
        case measure => simp [intOf]; omega
      · by_cases hk : k = -1
        · have e5 : (k == -1) = true := by simpa using hk
          have g := hinv.1
          clear K KA KB hk hinv
          go_wp2_with fail
          refine wp_region_grown (by kernel_rfl) (by kernel_rfl) ?_
          repeat (go_big_quiet_step ((go_at_call 20; exact calls_grown (wakes_grw _))))
          refine wpQuiet_nil ?_
          rintro _ ⟨q, rfl⟩
          go_wp2
          go_ret
          exact ⟨rfl, g.trans q.h⟩
        · obtain ⟨n, rfl⟩ := Int.eq_ofNat_of_zero_le (show 0 ≤ k by omega)
          have n1 : n < 11 := by omega
          have c1 := hinv.2.1 n n1
          have c2 := hinv.2.2 n n1
          obtain ⟨e1, e2⟩ := KB.out n rfl
          have e3 : (dig a n != dig b n) = true := by simpa using e1
          have e4 : (decide (dig a n < dig b n) == decide (a < b)) = true := by rw [decide_eq_decide.2 e2]; exact beq_self_eq_true _
          have i1 : (n : Int) < 11 := by omega
          have e5 : ((n : Int) == -1) = false := by simp
          have g := hinv.1
          have c1 := gw_cell c1
          have c2 := gw_cell c2
          clear K KA KB e1 e2 hk hinv
          go_wp2_with fail
          refine wp_region_grown (by kernel_rfl) (by kernel_rfl) ?_
          repeat (go_big_quiet_step ((go_at_call 20; exact calls_grown (wakes_grw _))))
          refine wpQuiet_nil ?_
          rintro _ ⟨q, rfl⟩
          go_wp2
          go_ret
          exact ⟨rfl, g.trans q.h⟩
end Go.Proofs.Ytopfllmdejdgpaa
