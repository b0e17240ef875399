/- The contract of the document's own Print at this program; span.Print whole. -/
import Derived.Test.YtcdfjheklggfhaaDoorWg
namespace Go.Proofs.YtcdfjheklggfhaaDoor
open Go.RowKit SM

theorem print_yes (x : Nat) (b : ByteArray) (w : World) (h : x ≤ top) (t : Tab w) (hb : b.data.toList = printS x) :
    Calls Tryd.prog 26 #[.int .u64 x] w fun e w' => e = .returned (.tuple #[.string b, .bool true]) ∧ Grw w w' := by
  by_cases h0 : x = 0
  · subst h0
    have e : b = ⟨#[80, 84, 48, 83]⟩ := ba_ext (by rw [hb]; rfl)
    subst e; exact print_zero w
  · by_cases hw : x % 604800 = 0
    · exact print_weeks x b w h (by omega) hw (Or.inr t) hb
    · exact print_days x b w h (by omega) hw (Or.inr t) hb

set_option maxHeartbeats 2000000 in
theorem rprint_no (x : Nat) (w : World) (h : top < x) :
    Calls Tryd.prog 31 #[.int .u64 x] w fun e w' => e = .returned (.string ⟨#[]⟩) ∧ Grw w w' := by
  unfold top at h
  go_enter Tryd.func31, Tryd.ntmps31
  go_wp2_with fail
  go_ret
  exact ⟨rfl, Grw.rfl' _⟩

set_option maxHeartbeats 2000000 in
theorem rprint_zero (w : World) : Calls Tryd.prog 31 #[.int .u64 0] w fun e w' => e = .returned (.string ⟨#[80, 84, 48, 83]⟩) ∧ Grw w w' := by
  go_enter Tryd.func31, Tryd.ntmps31
  go_wp2_with fail
  go_ret
  exact ⟨rfl, Grw.rfl' _⟩

set_option maxHeartbeats 2000000 in
theorem rprint_weeks (x : Nat) (b : ByteArray) (w : World) (h : x ≤ top) (h0 : 0 < x) (hw : x % 604800 = 0) (hb : b.data.toList = printS x) :
    Calls Tryd.prog 31 #[.int .u64 x] w fun e w' => e = .returned (.string b) ∧ Grw w w' := by
  unfold top at h
  obtain ⟨d, hd⟩ := ba_of (Lib.decDigits (x / 604800))
  have hz : (d.size : Int) ≤ 20 := by have := dec_len (x / 604800) (by omega); rw [← hd, ← size_len] at this; omega
  have C := Lib.hid (fun w => digits_ba (x / 604800) d w (by omega) hd)
  have e : b = ⟨#[80]⟩ ++ d ++ ⟨#[87]⟩ := ba_ext (by rw [hb, ba_app, ba_app, hd, printS, if_neg (by omega), if_pos hw, cnt, if_neg (by omega)]; rfl)
  have EB := Lib.hid e
  have g1 : ((x : Int) % 604800 == 0) = true := by simp; omega
  have g2 : ((x : Int) == 0) = false := by simp; omega
  clear hb e hd
  go_enter Tryd.func31, Tryd.ntmps31
  go_wp2_with fail
  refine (C.out _).mono ?_
  rintro _ w1 ⟨rfl, hw1⟩
  go_wp2_with fail
  rw [EB.out]
  go_ret
  exact ⟨rfl, hw1⟩

theorem clk_day (x : Nat) : clk x = [] ↔ x % 86400 = 0 := by
  have h : ∀ (n : Nat) (c : UInt8), cnt n c = [] ↔ n = 0 := fun n c => by unfold cnt; split <;> simp_all
  unfold clk
  simp only [List.append_eq_nil_iff, h]
  omega

set_option maxHeartbeats 4000000 in
theorem rprint_days (x : Nat) (b : ByteArray) (w : World) (h : x ≤ top) (h0 : 0 < x) (hw : x % 604800 ≠ 0) (hb : b.data.toList = printS x) :
    Calls Tryd.prog 31 #[.int .u64 x] w fun e w' => e = .returned (.string b) ∧ Grw w w' := by
  unfold top at h
  obtain ⟨d, hd⟩ := ba_of (cnt (x / 86400) 68)
  obtain ⟨hh, hhh⟩ := ba_of (cnt (x % 86400 / 3600) 72)
  obtain ⟨mm, hmm⟩ := ba_of (cnt (x % 3600 / 60) 77)
  obtain ⟨ss, hss⟩ := ba_of (cnt (x % 60) 83)
  have zd : (d.size : Int) ≤ 21 := by have := cnt_len (x / 86400) 68 (by omega); rw [← hd, ← size_len] at this; omega
  have zh : (hh.size : Int) ≤ 21 := by have := cnt_len (x % 86400 / 3600) 72 (by omega); rw [← hhh, ← size_len] at this; omega
  have zm : (mm.size : Int) ≤ 21 := by have := cnt_len (x % 3600 / 60) 77 (by omega); rw [← hmm, ← size_len] at this; omega
  have zs : (ss.size : Int) ≤ 21 := by have := cnt_len (x % 60) 83 (by omega); rw [← hss, ← size_len] at this; omega
  have CD := Lib.hid (fun w => part_any (x / 86400) 68 d w (by omega) hd)
  have CH := Lib.hid (fun w => part_any (x % 86400 / 3600) 72 hh w (by omega) hhh)
  have CM := Lib.hid (fun w => part_any (x % 3600 / 60) 77 mm w (by omega) hmm)
  have CS := Lib.hid (fun w => part_any (x % 60) 83 ss w (by omega) hss)
  have hcl : hh.data.toList ++ mm.data.toList ++ ss.data.toList = clk x := by rw [hhh, hmm, hss]; rfl
  have g1 : ((x : Int) % 604800 == 0) = false := by simp; omega
  have g2 : ((x : Int) == 0) = false := by simp; omega
  by_cases hc : x % 86400 = 0
  · have g3 : ((x : Int) % 86400 != 0) = false := by simp; omega
    have e : b = ⟨#[80]⟩ ++ d := ba_ext (by rw [hb, ba_app, hd, printS, if_neg (by omega), if_neg hw, if_pos ((clk_day x).2 hc)]; simp)
    have EB := Lib.hid e
    clear hb e hd hhh hmm hss hcl hc
    go_enter Tryd.func31, Tryd.ntmps31
    go_wp2_with fail
    refine (CD.out _).mono ?_
    rintro _ w1 ⟨rfl, hw1⟩
    go_wp2_with fail
    rw [EB.out]
    go_ret
    exact ⟨rfl, hw1⟩
  · have g3 : ((x : Int) % 86400 != 0) = true := by simp; omega
    have e : b = ⟨#[80]⟩ ++ d ++ (⟨#[84]⟩ ++ hh ++ mm ++ ss) := ba_ext (by rw [hb, ba_app, ba_app, ba_app, ba_app, ba_app, hd, printS, if_neg (by omega), if_neg hw, if_neg (fun e => hc ((clk_day x).1 e)), ← hcl]; simp)
    have EB := Lib.hid e
    clear hb e hd hhh hmm hss hcl hc
    go_enter Tryd.func31, Tryd.ntmps31
    go_wp2_with fail
    refine (CD.out _).mono ?_
    rintro _ w1 ⟨rfl, hw1⟩
    go_wp2_with fail
    refine (CH.out _).mono ?_
    rintro _ w2 ⟨rfl, hw2⟩
    go_wp2_with fail
    refine (CM.out _).mono ?_
    rintro _ w3 ⟨rfl, hw3⟩
    go_wp2_with fail
    refine (CS.out _).mono ?_
    rintro _ w4 ⟨rfl, hw4⟩
    have G : Grw w w4 := ((Grw.trans hw1 hw2).trans hw3).trans hw4
    clear hw1 hw2 hw3 hw4
    go_wp2_with fail
    rw [EB.out]
    go_ret
    exact ⟨rfl, G⟩
theorem rprint_yes (x : Nat) (b : ByteArray) (w : World) (h : x ≤ top) (hb : b.data.toList = printS x) :
    Calls Tryd.prog 31 #[.int .u64 x] w fun e w' => e = .returned (.string b) ∧ Grw w w' := by
  by_cases h0 : x = 0
  · subst h0
    have e : b = ⟨#[80, 84, 48, 83]⟩ := ba_ext (by rw [hb]; rfl)
    subst e; exact rprint_zero w
  · by_cases hw : x % 604800 = 0
    · exact rprint_weeks x b w h (by omega) hw hb
    · exact rprint_days x b w h (by omega) hw hb
end Go.Proofs.YtcdfjheklggfhaaDoor
