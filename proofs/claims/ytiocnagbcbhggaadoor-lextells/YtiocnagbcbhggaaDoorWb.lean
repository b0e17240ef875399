/- The contracts of lex.beginsWithDigit and markOf and of the trimming at this program. -/
import Derived.Test.YtiocnagbcbhggaaDoorWa
namespace Go.Proofs.YtiocnagbcbhggaaDoor
open Go.RowKit SM
set_option linter.unusedSimpArgs false

/-- does a digit stand first? -/
def bd : List UInt8 → Bool
  | [] => false
  | c :: _ => isD c
theorem bd_cons {s : ByteArray} {c : UInt8} {t : List UInt8} (h : s.data.toList = c :: t) : bd s.data.toList = isD c := by rw [h]; rfl
theorem at0 {s : ByteArray} {c : UInt8} {t : List UInt8} (h : s.data.toList = c :: t) : ∃ h0 : 0 < s.size, s[0] = c := by
  have h0 : 0 < s.size := by rw [size_len, h]; simp
  refine ⟨h0, ?_⟩
  have := head_at s h0
  rw [h] at this
  simpa using this.symm
theorem emp_yes {s : ByteArray} (h : s.data.toList = []) : s.toList.isEmpty = true ∧ s.toList = [] := by
  have : s.toList = [] := by rw [Lib.toList_data, h]
  exact ⟨by rw [this]; rfl, this⟩
theorem emp_no {s : ByteArray} (h : s.data.toList ≠ []) : s.toList.isEmpty = false ∧ ¬ s.toList = [] := by
  have : ¬ s.toList = [] := by rw [Lib.toList_data]; exact h
  exact ⟨by rw [List.isEmpty_eq_false_iff]; exact this, this⟩

set_option maxHeartbeats 1000000 in
set_option maxRecDepth 100000 in
theorem digit_is (s : ByteArray) (b : Bool) (w : World) (h : bd s.data.toList = b) :
    Calls Tryd.prog 20 #[.string s] w fun e w' => e = .returned (.bool b) ∧ Grw w w' := by
  subst h
  rcases hl : s.data.toList with _ | ⟨c, t⟩
  · obtain ⟨e1, e2⟩ := emp_yes hl
    show Calls _ _ _ _ fun e w' => e = .returned (.bool false) ∧ _
    clear hl
    go_enter Tryd.func20, Tryd.ntmps20
    go_wp2_with fail
    all_goals (go_ret; first | exact ⟨rfl, Grw.rfl' _⟩ | exact ⟨rfl, (Grw.rfl' _).drewN _⟩)
  · obtain ⟨e1, e2⟩ := emp_no (s := s) (by rw [hl]; simp)
    obtain ⟨h0, hc⟩ := at0 hl
    show Calls _ _ _ _ fun e w' => e = .returned (.bool (isD c)) ∧ _
    rcases hd : isD c with _ | _
    · have hd' : ¬ (48 ≤ c.toNat ∧ c.toNat ≤ 57) := fun e => by rw [(isD_iff c).2 e] at hd; cases hd
      by_cases h1 : 48 ≤ s[0].toNat
      · have h2 : ¬ s[0].toNat ≤ 57 := by rw [hc] at h1 ⊢; omega
        have k1 : decide ((48 : Int) ≤ (s[0].toNat : Int)) = true := decide_eq_true (by omega)
        have k2 : decide ((s[0].toNat : Int) ≤ 57) = false := decide_eq_false (by omega)
        clear hl hc hd hd'
        go_enter Tryd.func20, Tryd.ntmps20
        go_wp2_with fail
        all_goals (go_ret; first | exact ⟨rfl, Grw.rfl' _⟩ | exact ⟨rfl, (Grw.rfl' _).drewN _⟩)
      · have k1 : decide ((48 : Int) ≤ (s[0].toNat : Int)) = false := decide_eq_false (by omega)
        clear hl hc hd hd'
        go_enter Tryd.func20, Tryd.ntmps20
        go_wp2_with fail
        all_goals (go_ret; first | exact ⟨rfl, Grw.rfl' _⟩ | exact ⟨rfl, (Grw.rfl' _).drewN _⟩)
    · have hd' := (isD_iff c).1 hd
      have h1 : 48 ≤ s[0].toNat := by rw [hc]; exact hd'.1
      have h2 : s[0].toNat ≤ 57 := by rw [hc]; exact hd'.2
      have k1 : decide ((48 : Int) ≤ (s[0].toNat : Int)) = true := decide_eq_true (by omega)
      have k2 : decide ((s[0].toNat : Int) ≤ 57) = true := decide_eq_true (by omega)
      clear hl hc hd hd'
      go_enter Tryd.func20, Tryd.ntmps20
      go_wp2_with fail
      all_goals (go_ret; first | exact ⟨rfl, Grw.rfl' _⟩ | exact ⟨rfl, (Grw.rfl' _).drewN _⟩)

/-! ### blanks -/
def trm (l : List UInt8) : List UInt8 := Lib.trimLeftB l 32
theorem trm_nil : trm [] = [] := rfl
theorem trm_sp (l : List UInt8) : trm (32 :: l) = trm l := by simp [trm, Lib.trimLeftB]
theorem trm_cons {c : UInt8} (l : List UInt8) (h : c ≠ 32) : trm (c :: l) = c :: l := by
  simp [trm, Lib.trimLeftB, h]
theorem trm_len : ∀ l : List UInt8, (trm l).length ≤ l.length
  | [] => Nat.le_refl _
  | c :: l => by
    by_cases h : c = 32
    · subst h; rw [trm_sp]; have := trm_len l; simp; omega
    · rw [trm_cons l h]; exact Nat.le_refl _
theorem trm_head : ∀ l : List UInt8, (trm l).head? ≠ some 32
  | [] => by simp [trm_nil]
  | c :: l => by
    by_cases h : c = 32
    · subst h; rw [trm_sp]; exact trm_head l
    · rw [trm_cons l h]; simpa using h
theorem lx_trm : ∀ l : List UInt8, lx (trm l) = lx l
  | [] => rfl
  | c :: l => by
    by_cases h : c = 32
    · subst h; rw [trm_sp, lx_blank]; exact lx_trm l
    · rw [trm_cons l h]
theorem trim_is (s b : ByteArray) (w : World) (h : b.data.toList = trm s.data.toList) :
    Calls Tryd.prog 19 #[.string s, .string ⟨#[32]⟩] w fun e w' => e = .returned (.string b) ∧ w = w' := by
  have g := Tryd.strings_TrimLeft_one s 32 (by decide) w
  have e : (⟨(Lib.trimLeftB s.data.toList 32).toArray⟩ : ByteArray) = b := ba_ext (by rw [h]; simp [trm])
  rw [e] at g
  exact g.mono fun _ _ ⟨he, hw⟩ => ⟨he, hw.symm⟩

/-! ### marks -/
theorem pre_is (s : ByteArray) (k : Nat) (b : Bool) (w : World) (h : Lib.hasPrefix s.data.toList (mk k) = b) :
    Calls Tryd.prog 30 #[.string s, .string (mb k)] w fun e w' => e = .returned (.bool b) ∧ w = w' := by
  have g := Tryd.strings_HasPrefix s (mb k) w
  rw [mb_list, h] at g
  exact g.mono fun _ _ ⟨he, hw⟩ => ⟨he, hw.symm⟩
/-- the longest mark among the kinds below k. -/
def fm (l : List UInt8) : Nat → Nat
  | 0 => 0
  | k + 1 => if (mk (fm l k)).length < (mk k).length ∧ Lib.hasPrefix l (mk k) = true then k else fm l k
theorem fm_lt (l : List UInt8) : ∀ k, fm l k < 19 ∨ 19 ≤ k
  | 0 => Or.inl (by simp [fm])
  | k + 1 => by
    have := fm_lt l k
    unfold fm
    split
    · omega
    · omega
theorem fs_in (l : List UInt8) : ∀ m, m ≤ 16 → fs l m = 0 ∨ (3 ≤ fs l m ∧ fs l m ≤ 18)
  | 0, _ => Or.inl rfl
  | m + 1, h => by
    have := fs_in l m (by omega)
    unfold fs f1
    split
    · right; omega
    · exact this
theorem fm_fs (l : List UInt8) : ∀ m, m ≤ 16 → fm l (m + 3) = fs l m
  | 0, _ => by simp [fm, mk, fs]
  | m + 1, h => by
    have ih := fm_fs l m (by omega)
    have hin := fs_in l m (by omega)
    rw [show m + 1 + 3 = (m + 3) + 1 by omega, fm, ih, fs]
    have hk : mk (m + 3) = tx ⟨m + 3, 0⟩ := mk_in (by omega)
    have hp : Lib.hasPrefix l (mk (m + 3)) = pk l (m + 3) := by rw [hk]; rfl
    have hf : (mk (fs l m)).length < (mk (m + 3)).length ↔ (fs l m == 0 || decide ((tx ⟨fs l m, 0⟩).length < (tx ⟨m + 3, 0⟩).length)) = true := by
      rcases hin with e | e
      · rw [e]
        have h1 := (mk_len (m + 3)).2
        have h2 : (mk 0).length = 0 := rfl
        simp only [h2]
        constructor
        · intro _; rfl
        · intro _
          rcases Nat.eq_zero_or_pos (mk (m + 3)).length with e0 | e0
          · exact absurd (by omega) (h1.1 e0)
          · exact e0
      · rw [mk_in e, hk]
        have : (fs l m == 0) = false := by simp; omega
        rw [this]; simp
    unfold f1
    rw [hp]
    by_cases c1 : pk l (m + 3) = true
    · by_cases c2 : (mk (fs l m)).length < (mk (m + 3)).length
      · rw [if_pos ⟨c2, c1⟩, if_pos (by rw [c1, hf.1 c2]; rfl)]
      · rw [if_neg (fun e => c2 e.1), if_neg (fun e => c2 (hf.2 (by rw [c1] at e; simpa using e)))]
    · rw [if_neg (fun e => c1 e.2), if_neg (fun e => c1 (by simp only [Bool.and_eq_true] at e; exact e.1))]
theorem fm_is (l : List UInt8) : fm l 19 = op l := by rw [← fs_is]; exact fm_fs l 16 (by omega)
def intOf : Value → Int | .int _ q => q | _ => 0
theorem index_marks (k : Nat) (h : k < 19) (w : World) : (Instr.index 51 (.agg marksV.toArray) (.int .i64 k)).run Tryd.prog w = .ok (.string (mb k)) w := by
  have hg := marksV_at h
  have hl : marksV.length = 19 := by simp [marksV]
  simp [Instr.index, run_underlying Tryd.underlying51, asIntOf, go_sem, h, hg, hl]
  exact (List.getElem?_eq_some_iff.1 hg).2
end Go.Proofs.YtiocnagbcbhggaaDoor
