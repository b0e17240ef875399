/- The contract of slices.BinarySearchFunc at this program, over rows of timers in order. -/
import Derived.Test.YtlihcljjpalapaaDoorRc
namespace Go.Proofs.YtlihcljjpalapaaDoor
open Go.RowKit MK
open RG (Du)
set_option linter.unusedSimpArgs false

theorem order_is (a b : Du) (r : Int) (h : ord a b = r) (w : World) :
    Calls Tryd.prog 25 #[dv a, dv b] w fun e w' => e = .returned (.int .i64 r) ∧ Grw w w' := by rw [← h]; exact order_any a b w
/-- the place of d: all ahead of it are less, none behind. -/
def Plc (d : Du) (l : List Du) (p : Nat) : Prop := p ≤ l.length ∧ (∀ j (h : j < l.length), j < p → RG.less l[j] d = true) ∧ (∀ j (h : j < l.length), p ≤ j → RG.less l[j] d = false)
def SearchQ (d : Du) (l : List Du) (w : World) (e : Ending) (w' : World) : Prop := ∃ p o, e = .returned (.tuple #[.int .i64 (p : Nat), .bool o]) ∧ Plc d l p ∧ Grw w w'
theorem srt_less {l : List Du} (hs : RG.Srt l) {d : Du} {j k : Nat} (hk : k < l.length) (hj : j ≤ k) (h : RG.less l[k] d = true) : RG.less (l[j]'(by omega)) d = true := by
  rcases (by omega : j < k ∨ j = k) with g | g
  · have h1 := List.pairwise_iff_getElem.1 hs j k (by omega) hk g
    rw [RG.le_iff] at h1
    rw [RG.less_iff] at h ⊢
    omega
  · subst g; exact h
theorem srt_not {l : List Du} (hs : RG.Srt l) {d : Du} {j k : Nat} (hk : k < l.length) (hj : j ≤ k) (h : RG.less (l[j]'(by omega)) d = false) : RG.less l[k] d = false := by
  rcases e : RG.less l[k] d with _ | _
  · rfl
  · rw [srt_less hs hk hj e] at h; cases h
set_option maxHeartbeats 2000000 in
set_option maxRecDepth 100000 in
theorem search_any (ao : Option Addr) (cap : Nat) (l : List Du) (d : Du) (w : World) (hr : Lies w ao (cd l)) (hs : RG.Srt l) (hb : l.length ≤ 1000000) :
    Calls Tryd.prog 24 #[.slice ao l.length cap, dv d, .func (.func 25) #[] #[]] w (SearchQ d l w) := by
  obtain ⟨di, dt⟩ := d
  have S := Lib.hid hs
  have LI := Lib.hid hr
  have EX : ∀ q, ∀ h : q < l.length, RG.less l[q] ⟨di, dt⟩ = decide (ord l[q] ⟨di, dt⟩ < 0) := fun q h => (ord_neg _ _).symm
  have E := Lib.hid EX
  obtain ⟨n, hn⟩ : ∃ n, l.length = n := ⟨_, rfl⟩
  rw [hn] at hb ⊢
  have N := Lib.hid hn
  clear hs hr EX hn
  unfold dv
  simp only
  go_enter Tryd.func24, Tryd.ntmps24
  go_wp2_with fail
  go_loopw [9, 10] (fun u v wr => ∃ i j : Nat, i ≤ j ∧ j ≤ n ∧ u = .int .i64 i ∧ v = .int .i64 j ∧ Grw (w.alloc (.cells #[.int .i64 di, .int .u64 dt] 31)) wr ∧
      (∀ q (h : q < l.length), q < i → RG.less l[q] ⟨di, dt⟩ = true) ∧ (∀ q (h : q < l.length), j ≤ q → RG.less l[q] ⟨di, dt⟩ = false)) (fun u v _ => (intOf v).toNat - (intOf u).toNat)
  case atStart => exact ⟨0, n, Nat.zero_le _, Nat.le_refl _, rfl, rfl, Grw.rfl' _, fun q _ h => by omega, fun q h1 h2 => by rw [N.out] at h1; omega⟩
  case round =>
    obtain ⟨i, j, hij, hjn, rfl, rfl, hg, hlo, hhi⟩ := hrel
    have LO := Lib.hid hlo
    have HI := Lib.hid hhi
    have G := Lib.hid hg
    have K := Kp.grown hg
    have k0 := gw_cell K.t.c0
    have k1 := gw_cell K.t.c1
    clear hlo hhi hg K
    by_cases hlt : i < j
    · have hlti : (i : Int) < (j : Int) := by omega
      obtain ⟨h, hh⟩ : ∃ h, (i + j) / 2 = h := ⟨_, rfl⟩
      have hh1 : ((i : Int) + (j : Int)) / 2 = (h : Int) := by omega
      have hhn : h < n := by omega
      have hhi : i ≤ h := by omega
      have hhj : h < j := by omega
      have hhl : h < l.length := by rw [N.out]; exact hhn
      obtain ⟨b, off, rfl, c0, c1⟩ := lies_at ((LI.out.later ((Grw.rfl' _).alloc _)).later G.out) hhl
      have m0 := gw_cell c0
      have m1 := gw_cell c1
      obtain ⟨x, hx⟩ : ∃ x, l[h] = x := ⟨_, rfl⟩
      obtain ⟨r, hr⟩ : ∃ r, ord x ⟨di, dt⟩ = r := ⟨_, rfl⟩
      have hL := E.out h hhl
      rw [hx, hr] at hL
      rw [hx] at m0 m1
      have C := Lib.hid (fun w => order_is x ⟨di, dt⟩ r hr w)
      obtain ⟨xi, xt⟩ := x
      unfold dv at C
      simp only at C m0 m1
      have HL := Lib.hid (And.intro hx hL)
      have HH := Lib.hid hh
      clear c0 c1 hx hr hL hh
      by_cases hneg : r < 0
      · have hd : decide (r < 0) = true := by simp [hneg]
        go_wp2_with fail
        refine wp_region_grown (by kernel_rfl) (by kernel_rfl) ?_
        repeat (go_big_quiet_step (first | (go_at_call 25; exact calls_grown (C.out _))))
        refine wpQuiet_nil ?_
        rintro _ ⟨q', rfl⟩
        have GQ := Lib.hid (G.out.trans q'.h)
        clear k0 k1 m0 m1
        go_wp2_with fail
        go_roundw
        case rel => exact ⟨h + 1, j, by omega, by omega, by go_num, rfl, GQ.out, fun q h1 h2 => srt_less S.out hhl (by omega : q ≤ h) (by rw [HL.out.1, HL.out.2]; exact hd), HI.out⟩
        case measure => simp [intOf]; omega
      · have hd : decide (r < 0) = false := by simp; omega
        go_wp2_with fail
        refine wp_region_grown (by kernel_rfl) (by kernel_rfl) ?_
        repeat (go_big_quiet_step (first | (go_at_call 25; exact calls_grown (C.out _))))
        refine wpQuiet_nil ?_
        rintro _ ⟨q', rfl⟩
        have GQ := Lib.hid (G.out.trans q'.h)
        clear k0 k1 m0 m1
        go_wp2_with fail
        go_roundw
        case rel => exact ⟨i, h, by omega, by omega, rfl, rfl, GQ.out, LO.out, fun q h1 h2 => srt_not S.out h1 h2 (by rw [HL.out.1, HL.out.2]; exact hd)⟩
        case measure => simp [intOf]; omega
    · have hlti : ¬ (i : Int) < (j : Int) := by omega
      obtain rfl : i = j := by omega
      by_cases hin : i < n
      · have hini : decide ((i : Int) < (n : Int)) = true := by simp; omega
        have hil : i < l.length := by rw [N.out]; exact hin
        obtain ⟨b, off, rfl, c0, c1⟩ := lies_at ((LI.out.later ((Grw.rfl' _).alloc _)).later G.out) hil
        have m0 := gw_cell c0
        have m1 := gw_cell c1
        obtain ⟨x, hx⟩ : ∃ x, l[i] = x := ⟨_, rfl⟩
        obtain ⟨r, hr⟩ : ∃ r, ord x ⟨di, dt⟩ = r := ⟨_, rfl⟩
        rw [hx] at m0 m1
        have C := Lib.hid (fun w => order_is x ⟨di, dt⟩ r hr w)
        obtain ⟨xi, xt⟩ := x
        unfold dv at C
        simp only at C m0 m1
        clear c0 c1 hx hr
        go_wp2_with fail
        refine wp_region_grown (by kernel_rfl) (by kernel_rfl) ?_
        repeat (go_big_quiet_step (first | (go_at_call 25; exact calls_grown (C.out _))))
        refine wpQuiet_nil ?_
        rintro _ ⟨q', rfl⟩
        have GQ := Lib.hid (G.out.trans q'.h)
        clear k0 k1 m0 m1
        go_wp2_with fail
        refine bodyPost_ret (v := .tuple #[.int .i64 i, .bool (r == 0)]) (by simp [results, Tryd.results24, go_sem]) rfl ?_
        exact ⟨i, _, rfl, ⟨by rw [N.out]; exact hjn, LO.out, HI.out⟩, GQ.out.two⟩
      · have hini : decide ((i : Int) < (n : Int)) = false := by simp; omega
        go_wp2_with fail
        refine wp_region_grown (by kernel_rfl) (by kernel_rfl) ?_
        repeat (go_big_quiet_step (fail))
        refine wpQuiet_nil ?_
        rintro _ ⟨q', rfl⟩
        have GQ := Lib.hid (G.out.trans q'.h)
        clear k0 k1
        go_wp2_with fail
        refine bodyPost_ret (v := .tuple #[.int .i64 i, .bool false]) (by simp [results, Tryd.results24, go_sem]) rfl ?_
        exact ⟨i, _, rfl, ⟨by rw [N.out]; exact hjn, LO.out, HI.out⟩, GQ.out.two⟩
end Go.Proofs.YtlihcljjpalapaaDoor
