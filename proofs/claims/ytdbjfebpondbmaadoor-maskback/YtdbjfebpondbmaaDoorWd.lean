/- The contracts of mask.Of, of the document's Has and Of, and of the laws' own Ints at this program. -/
import Derived.Test.YtdbjfebpondbmaaDoorWc
namespace Go.Proofs.YtdbjfebpondbmaaDoor
open Go.RowKit MK
set_option linter.unusedSimpArgs false

theorem with_is (m v : Nat) (i : Int) (w : World) (hm : m < 18446744073709551616) (h : wth m i = v) :
    Calls Tryd.prog 11 #[.int .u64 m, .int .i64 i] w fun e w' => e = .returned (.int .u64 (v : Nat)) ∧ w = w' := by rw [← h]; exact with_any m i w hm

set_option maxHeartbeats 1000000 in
set_option maxRecDepth 100000 in
theorem of_any (ao : Option Addr) (n cap : Nat) (f : Nat → Int) (w : World) (hn : n ≤ 9223372036854775807) (hrow : RowF w ao n f) :
    Calls Tryd.prog 22 #[.slice ao n cap] w fun e w' => e = .returned (.int .u64 (ofL (fl n f) : Nat)) ∧ w = w' := by
  have R := Lib.hid hrow
  clear hrow
  go_enter Tryd.func22, Tryd.ntmps22
  go_wp2_with fail
  go_loopw [3, 8] (fun v i wr => ∃ k : Nat, k ≤ n ∧ i = .int .i64 k ∧ v = .int .u64 (ofL (fl k f) : Nat) ∧ w = wr) (fun _ i _ => n - (intOf i).toNat)
  case atStart => exact ⟨0, Nat.zero_le _, rfl, rfl, rfl⟩
  case round =>
    obtain ⟨k, hk, rfl, rfl, rfl⟩ := hrel
    by_cases hk' : k < n
    · have hki : (k : Int) < (n : Int) := by omega
      obtain ⟨b, off, rfl, hc⟩ := R.out.at (by omega : 0 < n)
      have hcx := hc k hk'
      have hl : ofL (fl k f) < 18446744073709551616 := ofL_lt _
      have hs := ofL_fl_succ k f
      obtain ⟨x, hx⟩ : ∃ x, ofL (fl k f) = x := ⟨_, rfl⟩
      obtain ⟨z, hz⟩ : ∃ z, f k = z := ⟨_, rfl⟩
      obtain ⟨y, hy⟩ : ∃ y, wth x z = y := ⟨_, rfl⟩
      rw [hx, hz, hy] at hs
      rw [hx] at hl ⊢
      rw [hz] at hcx
      have A := Lib.hid (with_is x y z w hl hy)
      have S := Lib.hid hs
      clear hc hs hx hz hy hl
      go_wp2_with fail
      refine A.out.mono ?_
      rintro _ w1 ⟨rfl, rfl⟩
      go_wp2_with fail
      go_roundw
      case rel => exact ⟨k + 1, by omega, by go_num, by rw [S.out], trivial⟩
      case measure => simp [intOf]; omega
    · have hki : ¬ (k : Int) < (n : Int) := by omega
      have hke : k = n := by omega
      go_wp2_with fail
      go_ret
      exact ⟨by subst hke; rfl, rfl⟩

/-- is it among the first k? -/
def inF (k : Nat) (f : Nat → Int) (i : Int) : Prop := ∃ j, j < k ∧ f j = i

set_option maxHeartbeats 1000000 in
set_option maxRecDepth 100000 in
theorem ints_same (ao bo : Option Addr) (n ca cb : Nat) (f : Nat → Int) (w : World) (hn : n ≤ 9223372036854775807) (ha : RowF w ao n f) (hb : RowF w bo n f) :
    Calls Tryd.prog 19 #[.slice ao n ca, .slice bo n cb] w fun e w' => e = .returned (.bool true) ∧ Grw w w' := by
  have RA := Lib.hid ha
  have RB := Lib.hid hb
  clear ha hb
  go_enter Tryd.func19, Tryd.ntmps19
  go_wp2_with fail
  go_loopw [5] (fun i wr => ∃ k : Nat, k ≤ n ∧ i = .int .i64 k ∧ Grw w wr) (fun i _ => n - (intOf i).toNat)
  case atStart => exact ⟨0, Nat.zero_le _, rfl, Grw.rfl' _⟩
  case round =>
    obtain ⟨k, hk, rfl, hg⟩ := hrel
    by_cases hk' : k < n
    · have hki : (k : Int) < (n : Int) := by omega
      obtain ⟨b, off, rfl, hc⟩ := (RA.out.later hg).at (by omega : 0 < n)
      obtain ⟨b2, off2, rfl, hc2⟩ := (RB.out.later hg).at (by omega : 0 < n)
      have hcx := hc k hk'
      have hcy := hc2 k hk'
      obtain ⟨z, hz⟩ : ∃ z, f k = z := ⟨_, rfl⟩
      rw [hz] at hcx hcy
      have G := Lib.hid hg
      clear hc hc2 hz hg
      go_wp2_with fail
      go_quiet (fail)
      go_wp2_with fail
      go_roundw
      case rel => exact ⟨k + 1, by omega, by go_num, G.out.drewN _⟩
      case measure => simp [intOf]; omega
    · have hki : ¬ (k : Int) < (n : Int) := by omega
      go_wp2_with fail
      go_ret
      exact ⟨rfl, hg⟩

set_option maxHeartbeats 1000000 in
set_option maxRecDepth 100000 in
theorem rhas_any (m : Nat) (i : Int) (w : World) :
    Calls Tryd.prog 16 #[.int .u64 m, .int .i64 i] w fun e w' => e = .returned (.bool (has m i)) ∧ Grw w w' := by
  have A := Lib.hid (rlist_any m w)
  go_enter Tryd.func16, Tryd.ntmps16
  go_wp2_with fail
  refine A.out.mono ?_
  rintro _ w1 ⟨v, rfl, hown, hg1⟩
  have hl := els_len m
  have hmem : (∃ j, j < (els m).length ∧ (els m).getD j 0 = i) ↔ has m i = true := by
    rw [← mem_els, List.mem_iff_getElem]
    constructor
    · rintro ⟨j, hj, e⟩; exact ⟨j, hj, by simpa [hj] using e⟩
    · rintro ⟨j, hj, e⟩; exact ⟨j, hj, by simpa [hj] using e⟩
  obtain ⟨ao, cap, rfl, hrow⟩ := hown.row
  obtain ⟨n, hn⟩ : ∃ n, (els m).length = n := ⟨_, rfl⟩
  obtain ⟨f, hf⟩ : ∃ f : Nat → Int, (fun j => (els m).getD j 0) = f := ⟨_, rfl⟩
  have hff : ∀ j, (els m).getD j 0 = f j := fun j => by rw [← hf]
  simp only [hff] at hmem
  rw [hf, hn] at hrow
  rw [hn] at hl hmem
  rw [hn]
  have R := Lib.hid hrow
  have G := Lib.hid hg1
  have M := Lib.hid hmem
  clear hrow hg1 hmem hff hf hown hn
  go_wp2_with fail
  go_loopw [6] (fun c wr => ∃ k : Nat, k ≤ n ∧ c = .int .i64 k ∧ w1 = wr ∧ ∀ j, j < k → f j ≠ i) (fun c _ => n - (intOf c).toNat)
  case atStart => exact ⟨0, Nat.zero_le _, rfl, rfl, fun j hj => by omega⟩
  case round =>
    obtain ⟨k, hk, rfl, rfl, hno⟩ := hrel
    have NO := Lib.hid hno
    clear hno
    by_cases hk' : k < n
    · have hki : (k : Int) < (n : Int) := by omega
      obtain ⟨b, off, rfl, hc⟩ := R.out.at (by omega : 0 < n)
      have hcx := hc k hk'
      obtain ⟨z, hz⟩ : ∃ z, f k = z := ⟨_, rfl⟩
      rw [hz] at hcx
      have HZ := Lib.hid hz
      clear hc hz
      by_cases hzi : z = i
      · have ht : (z == i) = true := by simp [hzi]
        have HI := Lib.hid hzi
        clear hzi
        go_wp2_with fail
        go_ret
        exact ⟨by rw [M.out.1 ⟨k, hk', HZ.out.trans HI.out⟩]; rfl, G.out⟩
      · have ht : (z == i) = false := by simp [hzi]
        have HI := Lib.hid hzi
        clear hzi
        go_wp2_with fail
        go_roundw
        case rel => exact ⟨k + 1, by omega, by go_num, trivial, fun j hj => by
          rcases (by omega : j < k ∨ j = k) with h | h
          · exact NO.out j h
          · subst h; rw [HZ.out]; exact HI.out⟩
        case measure => simp [intOf]; omega
    · have hki : ¬ (k : Int) < (n : Int) := by omega
      have hh : has m i = false := by
        rcases e : has m i with _ | _
        · rfl
        · obtain ⟨j, h1, h2⟩ := M.out.2 e
          exact absurd h2 (NO.out j (by omega))
      have HH := Lib.hid hh
      clear hh
      go_wp2_with fail
      go_ret
      exact ⟨by rw [HH.out]; rfl, G.out⟩
end Go.Proofs.YtdbjfebpondbmaaDoor
