/- The contracts of mask.List and of the document's List at this program. -/
import Derived.Test.YtlihcljjpalapaaDoorWb
import Derived.Test.YtlihcljjpalapaaDoorRw
namespace Go.Proofs.YtlihcljjpalapaaDoor
open Go.RowKit MK
set_option linter.unusedSimpArgs false

theorem Tryd.info3 : (Tryd.prog.info? 3).map (fun i => (i.zero, i.size, i.bytes)) = some (some (.int .i64 0), 1, 8) := by kernel_rfl
theorem pre_yes {m k : Nat} (h : m.testBit k = true) : pre m (k + 1) = pre m k ++ [(k : Int)] := by rw [pre_succ, if_pos h]
theorem pre_no {m k : Nat} (h : m.testBit k = false) : pre m (k + 1) = pre m k := by rw [pre_succ, if_neg (by rw [h]; decide)]

theorem bit_yes {m k q : Nat} (e : m / 2 ^ k = q) (h : m.testBit k = true) : ((q : Int) % 2 == 1) = true := by
  rw [Nat.testBit_eq_decide_div_mod_eq, e, decide_eq_true_eq] at h
  simp; omega
theorem bit_no {m k q : Nat} (e : m / 2 ^ k = q) (h : m.testBit k = false) : ((q : Int) % 2 == 1) = false := by
  rw [Nat.testBit_eq_decide_div_mod_eq, e, decide_eq_false_iff_not] at h
  simp; omega
set_option maxHeartbeats 1000000 in
set_option maxRecDepth 100000 in
theorem rlist_any (m : Nat) (w : World) :
    Calls Tryd.prog 50 #[.int .u64 m] w fun e w' => ∃ v, e = .returned v ∧ Own w' w.heap.size v (els m) ∧ Grw w w' := by
  obtain ⟨i0, hi, hz0, hz1, hz2⟩ := info_parts Tryd.info3
  go_enter Tryd.func50, Tryd.ntmps50
  go_wp2_with fail
  go_loopw [3, 4] (fun v i wr => ∃ k : Nat, k ≤ 64 ∧ i = .int .i64 k ∧ Own wr w.heap.size v (pre m k) ∧ Grw w wr) (fun _ i _ => 64 - (intOf i).toNat)
  case atStart => exact ⟨0, Nat.zero_le _, rfl, Own.nil _ _, Grw.rfl' _⟩
  case round =>
    obtain ⟨k, hk, rfl, hown, hg⟩ := hrel
    by_cases hk' : k < 64
    · have hki : (k : Int) < 64 := by omega
      have hl := pre_len m k
      have hsz := Below.size hg
      rcases hb : m.testBit k with _ | _
      · have hq := shr_nat m k
        obtain ⟨q, hqe⟩ : ∃ q, m / 2 ^ k = q := ⟨_, rfl⟩
        rw [hqe] at hq
        have hq2 : ((q : Int) % 2 == 1) = false := bit_no hqe hb
        have R := Lib.hid (And.intro hown hg)
        clear hown hg hqe
        go_wp2_with fail
        go_roundw
        case rel => exact ⟨k + 1, by omega, by go_num, by rw [pre_no hb]; exact R.out.1, R.out.2⟩
        case measure => simp [intOf]; omega
      · have hq := shr_nat m k
        obtain ⟨q, hqe⟩ : ∃ q, m / 2 ^ k = q := ⟨_, rfl⟩
        rw [hqe] at hq
        have hq2 : ((q : Int) % 2 == 1) = true := bit_yes hqe hb
        have R := Lib.hid (And.intro hown hg)
        clear hown hg
        clear hqe
        go_wp2_with (at_builtin; refine wpList_append_own _ rfl _ _ 72 rfl w.heap.size 3 i0 (.int .i64 0) 1 8 Tryd.underlying72 hi hz0 hz1 hz2 rfl (by decide) _ _ _ rfl (World.ownsRow.alloc R.out.1 _) ⟨wr.heap.size, 0, none⟩ 1 1 [.int .i64 (k : Int)] rfl rfl (one_cell _ _) (int_cells [(k : Int)]) (by unfold maxLen; omega) (by omega) (by simp; omega) ?_)
        intro v' w1 hown' hgrow _
        have S := Lib.hid (own_append (news := [(k : Int)]) R.out.2 R.out.1 hown' hgrow)
        clear hown' hgrow
        go_wp2_with fail
        go_roundw
        case rel => exact ⟨k + 1, by omega, by go_num, by rw [pre_yes hb]; exact S.out.2, S.out.1⟩
        case measure => simp [intOf]; omega
    · have hki : ¬ (k : Int) < 64 := by omega
      have hke : k = 64 := by omega
      have R := Lib.hid (And.intro hown hg)
      clear hown hg
      go_wp2_with fail
      go_ret
      exact ⟨_, rfl, by subst hke; exact R.out.1, R.out.2⟩
end Go.Proofs.YtlihcljjpalapaaDoor
