/- The contracts of the document's own Digits, part and Print at this program. -/
import Derived.Test.YtcdfjheklggfhaaDoorWe
import Derived.RegionTactic
import Derived.Deep.RegionWith
namespace Go.Proofs.YtcdfjheklggfhaaDoor
open Go.RowKit SM

theorem conv_one (w : World) (blk : Nat) (c : UInt8) (h : w.cell? ⟨blk, 0, none⟩ = some (.int .u8 (c.toNat : Int))) : (convert 61 9 (.slice (some ⟨blk, 0, none⟩) 1 1)).run Tryd.prog w = .ok (.string ⟨#[c]⟩) w := by
  have g := run_convert_bytes_back (P := Tryd.prog) w 61 9 5 ⟨blk, 0, none⟩ 1 [c] Tryd.underlying61 Tryd.underlying5 Tryd.underlying9 (fun j hj => by
    have : j = 0 := by simpa using hj
    subst this
    exact h)
  exact g

set_option maxHeartbeats 1000000 in
set_option maxRecDepth 100000 in
theorem digits_lt (x : Nat) (w : World) (h : x < 10) :
    Calls Tryd.prog 19 #[.int .u64 x] w fun e w' => e = .returned (.string ⟨(Lib.decDigits x).toArray⟩) ∧ Grw w w' := by
  rw [Lib.decDigits_one h]
  have hc : ((UInt8.ofNat (48 + x)).toNat : Int) = 48 + x := by
    have : (UInt8.ofNat (48 + x)).toNat = 48 + x := by simp; omega
    omega
  generalize UInt8.ofNat (48 + x) = c at *
  have cv := conv_one (w.alloc (.cells #[.int .u8 (48 + (x : Int))] 5)) w.heap.size c (by rw [hc]; simp [go_sem])
  go_enter Tryd.func19, Tryd.ntmps19
  go_wp2_with fail
  go_ret
  exact ⟨rfl, (Grw.rfl' _).alloc _⟩

theorem bcell {W w1 : World} (hb : Grw W w1) : ∀ b o, b < W.heap.size → w1.cell? ⟨b, o, none⟩ = W.cell? ⟨b, o, none⟩ := fun b o h => Below.cell hb (p := ⟨b, o, none⟩) h

set_option maxHeartbeats 1000000 in
set_option maxRecDepth 100000 in
theorem digits_step (x : Nat) (r : ByteArray) (c : UInt8) (w : World) (h : 10 ≤ x) (hx : x < 18446744073709551616) (hr : (r.size : Int) ≤ 8388608) (hc : (c.toNat : Int) = 48 + (x : Int) % 10)
    (IH : ∀ w, Calls Tryd.prog 19 #[.int .u64 ((x / 10 : Nat) : Int)] w fun e w' => e = .returned (.string r) ∧ Grw w w') :
    Calls Tryd.prog 19 #[.int .u64 x] w fun e w' => e = .returned (.string (r ++ ⟨#[c]⟩)) ∧ Grw w w' := by
  have h10 : ¬ (x : Int) < 10 := by omega
  have q1 : (((⟨#[c]⟩ : ByteArray).size : Nat) : Int) ≤ 8388608 := by rw [size_len]; simp
  obtain ⟨m, hm⟩ : ∃ m : Int, (x : Int) % 10 = m := ⟨_, rfl⟩
  have m0 : 0 ≤ m := by omega
  have m1 : m < 10 := by omega
  have e0 : ((x / 10 : Nat) : Int) = (x : Int) / 10 := by omega
  rw [hm] at hc
  rw [e0] at IH
  have I := Lib.hid IH
  have cv := fun (w : World) (blk : Nat) (hh : w.cell? ⟨blk, 0, none⟩ = some (.int .u8 (48 + m))) => conv_one w blk c (by rw [hc]; exact hh)
  have f1 : IntKind.u64.wrap ((x : Int) / 10) = (x : Int) / 10 := by rw [IntKind.wrap_u64]; omega
  have f2 : (x : Int).tmod 10 = m := by rw [Int.tmod_eq_emod_of_nonneg (by omega)]; exact hm
  have f3 : IntKind.u64.wrap (48 + m) = 48 + m := by rw [IntKind.wrap_u64]; omega
  have f4 : IntKind.u8.wrap (48 + m) = 48 + m := by rw [IntKind.wrap_u8]; omega
  clear IH hc hm e0
  generalize (⟨#[c]⟩ : ByteArray) = q at *
  go_enter Tryd.func19, Tryd.ntmps19
  go_wp2_with fail
  go_region_with (go_at_call 19; (with_reducible refine (I.out _).mono ?_); rintro _ w1 ⟨rfl, hw1⟩; have hcc := bcell hw1)
  all_goals
    go_wp2_with fail
    go_ret
    first
    | exact ⟨rfl, (((Grw.rfl' _).drew).trans hw1).alloc _⟩
    | exact ⟨rfl, (((Grw.rfl' _).alloc _).drew).trans hw1⟩

theorem digits_any : ∀ (x : Nat) (w : World), x < 18446744073709551616 →
    Calls Tryd.prog 19 #[.int .u64 x] w fun e w' => e = .returned (.string ⟨(Lib.decDigits x).toArray⟩) ∧ Grw w w' := by
  intro x
  induction x using Nat.strongRecOn with
  | _ x ih =>
    intro w hx
    by_cases h : x < 10
    · exact digits_lt x w h
    · have g := digits_step x ⟨(Lib.decDigits (x / 10)).toArray⟩ (UInt8.ofNat (48 + x % 10)) w (by omega) hx ?_ ?_ (fun w => ih (x / 10) (by omega) w (by omega))
      · have e : (⟨(Lib.decDigits x).toArray⟩ : ByteArray) = ⟨(Lib.decDigits (x / 10)).toArray⟩ ++ ⟨#[UInt8.ofNat (48 + x % 10)]⟩ := by
          rw [Lib.decDigits, dif_neg h]
          exact (ByteArray.mk_append_mk _ [UInt8.ofNat (48 + x % 10)]).symm
        rw [e]; exact g
      · have := dec_len (x / 10) (by omega)
        rw [size_len]; simp; omega
      · have : (UInt8.ofNat (48 + x % 10)).toNat = 48 + x % 10 := by simp; omega
        omega

theorem digits_ba (x : Nat) (b : ByteArray) (w : World) (hx : x < 18446744073709551616) (hb : b.data.toList = Lib.decDigits x) :
    Calls Tryd.prog 19 #[.int .u64 x] w fun e w' => e = .returned (.string b) ∧ Grw w w' := by
  have e : (⟨(Lib.decDigits x).toArray⟩ : ByteArray) = b := ba_ext (by rw [hb])
  have := digits_any x w hx
  rw [e] at this; exact this

set_option maxHeartbeats 1000000 in
set_option maxRecDepth 100000 in
theorem part_any (n : Nat) (c : UInt8) (b : ByteArray) (w : World) (hn : n < 18446744073709551616) (hb : b.data.toList = cnt n c) :
    Calls Tryd.prog 45 #[.int .u64 n, .string ⟨#[c]⟩] w fun e w' => e = .returned (.string b) ∧ Grw w w' := by
  by_cases h : n = 0
  · subst h
    have e : b = ⟨#[]⟩ := ba_ext (by rw [hb]; rfl)
    subst e
    clear hb
    go_enter Tryd.func45, Tryd.ntmps45
    go_wp2_with fail
    go_ret
    exact ⟨rfl, Grw.rfl' _⟩
  · obtain ⟨r, hr⟩ := ba_of (Lib.decDigits n)
    have F := Lib.hid (digits_ba n r w hn hr)
    have hz : (r.size : Int) ≤ 8388608 := by
      have := dec_len n hn
      rw [size_len, hr]; omega
    have e : b = r ++ ⟨#[c]⟩ := ba_ext (by rw [hb, ba_app, hr]; simp [cnt, h])
    have h0 : ((n : Int) == 0) = false := by simp; omega
    have h1 : (((⟨#[c]⟩ : ByteArray).size : Nat) : Int) ≤ 8388608 := by rw [size_len]; simp
    have EB := Lib.hid e
    clear hr hb e h
    generalize (⟨#[c]⟩ : ByteArray) = q at *
    go_enter Tryd.func45, Tryd.ntmps45
    go_wp2_with fail
    refine F.out.mono ?_
    rintro _ w1 ⟨rfl, hw1⟩
    go_wp2_with fail
    rw [EB.out]
    go_ret
    exact ⟨rfl, hw1⟩
end Go.Proofs.YtcdfjheklggfhaaDoor
