/- The contract of lex.markOf at this program. -/
import Derived.Test.YtiocnagbcbhggaaDoorWb
namespace Go.Proofs.YtiocnagbcbhggaaDoor
open Go.RowKit SM
set_option linter.unusedSimpArgs false

set_option maxHeartbeats 1000000 in
set_option maxRecDepth 100000 in
theorem markOf_is (s : ByteArray) (r : Nat) (w : World) (t : Mks w) (h : op s.data.toList = r) :
    Calls Tryd.prog 21 #[.string s] w fun e w' => e = .returned (.int .i64 r) ∧ Grw w w' := by
  obtain ⟨L, hL⟩ : ∃ L : List Value, marksV = L := ⟨_, rfl⟩
  have hr := mks_range t
  have hz : (Tryd.prog.info? 51).map (·.size) = some marksV.length := by kernel_rfl
  have HI := Lib.hid (fun k hk w => index_marks k hk w)
  rw [hL] at hr hz HI
  have HZ := Lib.hid hz
  have HR := Lib.hid hr
  have HT := Lib.hid t
  have HF := Lib.hid (show ∀ n, n = 19 → fm s.data.toList n = r from fun n e => by subst e; exact (fm_is s.data.toList).trans h)
  have HP := Lib.hid (fun k b w (h : Lib.hasPrefix s.data.toList (mk k) = b) => pre_is s k b w h)
  clear hz hr hL t h
  go_enter Tryd.func21, Tryd.ntmps21
  go_wp2_with (refine wpList_load_mid rfl 51 _ rfl 0 0 rfl L _ HR.out Tryd.underlying51 rfl HZ.out ?_)
  go_loopw [3, 7] (fun v i wr => ∃ k : Nat, k ≤ 19 ∧ i = .int .i64 k ∧ v = .int .i64 (fm s.data.toList k) ∧ Grw w wr) (fun _ i _ => 19 - (intOf i).toNat)
  case atStart => exact ⟨0, by omega, rfl, rfl, Grw.rfl' _⟩
  case round =>
    obtain ⟨k, hk, rfl, rfl, hg⟩ := hrel
    by_cases hlt : k < 19
    · have I := HI.out k hlt
      have hf : fm s.data.toList k < 19 := (fm_lt s.data.toList k).resolve_right (by omega)
      have cf := mks_cell (mks_grw hg HT.out) hf
      have S : fm s.data.toList (k + 1) = if (mk (fm s.data.toList k)).length < (mk k).length ∧ Lib.hasPrefix s.data.toList (mk k) = true then k else fm s.data.toList k := rfl
      obtain ⟨f, ef⟩ : ∃ f, fm s.data.toList k = f := ⟨_, rfl⟩
      rw [ef] at cf hf S
      rw [ef]
      by_cases c1 : (mk f).length < (mk k).length
      · have d1 : (mb f).size < (mb k).size := by rw [mb_size, mb_size]; exact c1
        have d2 : decide (((mb f).size : Int) < ((mb k).size : Int)) = true := decide_eq_true (by omega)
        rcases hp : Lib.hasPrefix s.data.toList (mk k) with _ | _
        · have P := fun w => HP.out k false w hp
          rw [if_neg (by rw [hp]; simp)] at S
          have SS := Lib.hid S
          generalize mb k = bk at *
          generalize mb f = bf at *
          replace I := Lib.hid I
          replace P := Lib.hid P
          clear S hp c1 HP HI HR HZ
          go_wp2_with (first | (simp only [I.out]) | (go_at_call 30; refine (P.out _).mono ?_; rintro _ _ ⟨rfl, rfl⟩))
          go_roundw
          case rel => exact ⟨k + 1, by omega, by go_num, by rw [SS.out], by first | exact hg | exact hg.drew | exact hg.drewN _⟩
          case measure => simp [intOf]; omega
        · have P := fun w => HP.out k true w hp
          rw [if_pos ⟨c1, hp⟩] at S
          have SS := Lib.hid S
          generalize mb k = bk at *
          generalize mb f = bf at *
          replace I := Lib.hid I
          replace P := Lib.hid P
          clear S hp c1 HP HI HR HZ
          go_wp2_with (first | (simp only [I.out]) | (go_at_call 30; refine (P.out _).mono ?_; rintro _ _ ⟨rfl, rfl⟩))
          go_roundw
          case rel => exact ⟨k + 1, by omega, by go_num, by rw [SS.out], by first | exact hg | exact hg.drew | exact hg.drewN _⟩
          case measure => simp [intOf]; omega
      · have d1 : ¬ (mb f).size < (mb k).size := by rw [mb_size, mb_size]; exact c1
        have d2 : decide (((mb f).size : Int) < ((mb k).size : Int)) = false := decide_eq_false (by omega)
        rw [if_neg (fun e => c1 e.1)] at S
        have SS := Lib.hid S
        generalize mb k = bk at *
        generalize mb f = bf at *
        replace I := Lib.hid I
        clear S c1 HP HI HR HZ
        go_wp2_with (simp only [I.out])
        go_roundw
        case rel => exact ⟨k + 1, by omega, by go_num, by rw [SS.out], by first | exact hg | exact hg.drew | exact hg.drewN _⟩
        case measure => simp [intOf]; omega
    · have e : k = 19 := by omega
      rw [HF.out k e]
      subst e
      clear HF HP HI HR HZ
      go_wp2_with fail
      go_ret
      exact ⟨rfl, hg⟩
end Go.Proofs.YtiocnagbcbhggaaDoor
