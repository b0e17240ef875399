/- The contracts of mask.Of, of the document's Has and Of, and of the laws' own Ints at this program. -/
import Derived.Test.YtlihcljjpalapaaDoorWc
namespace Go.Proofs.YtlihcljjpalapaaDoor
open Go.RowKit MK
set_option linter.unusedSimpArgs false

theorem with_is (m v : Nat) (i : Int) (w : World) (hm : m < 18446744073709551616) (h : wth m i = v) :
    Calls Tryd.prog 34 #[.int .u64 m, .int .i64 i] w fun e w' => e = .returned (.int .u64 (v : Nat)) ∧ w = w' := by rw [← h]; exact with_any m i w hm

/-- is it among the first k? -/
def inF (k : Nat) (f : Nat → Int) (i : Int) : Prop := ∃ j, j < k ∧ f j = i

set_option maxHeartbeats 1000000 in
set_option maxRecDepth 100000 in
theorem rhas_any (m : Nat) (i : Int) (w : World) :
    Calls Tryd.prog 49 #[.int .u64 m, .int .i64 i] w fun e w' => e = .returned (.bool (has m i)) ∧ Grw w w' := by
  have A := Lib.hid (rlist_any m w)
  go_enter Tryd.func49, Tryd.ntmps49
  go_wp2_with fail
  refine A.out.mono ?_
  rintro _ w1 ⟨v, rfl, hown, hg1⟩
  have hl := els_len m
  have hmem : (∃ j, j < (els m).length ∧ (els m).getD j 0 = i) ↔ has m i = true := by
    rw [← mem_els, List.mem_iff_getElem]
    constructor
    · rintro ⟨j, hj, e⟩; exact ⟨j, hj, by simpa [hj] using e⟩
    · rintro ⟨j, hj, e⟩; exact ⟨j, hj, by simpa [hj] using e⟩
  obtain ⟨ao, cap, rfl, hrow⟩ := hown.row
  obtain ⟨n, hn⟩ : ∃ n, (els m).length = n := ⟨_, rfl⟩
  obtain ⟨f, hf⟩ : ∃ f : Nat → Int, (fun j => (els m).getD j 0) = f := ⟨_, rfl⟩
  have hff : ∀ j, (els m).getD j 0 = f j := fun j => by rw [← hf]
  simp only [hff] at hmem
  rw [hf, hn] at hrow
  rw [hn] at hl hmem
  rw [hn]
  have R := Lib.hid hrow
  have G := Lib.hid hg1
  have M := Lib.hid hmem
  clear hrow hg1 hmem hff hf hown hn
  go_wp2_with fail
  go_loopw [6] (fun c wr => ∃ k : Nat, k ≤ n ∧ c = .int .i64 k ∧ w1 = wr ∧ ∀ j, j < k → f j ≠ i) (fun c _ => n - (intOf c).toNat)
  case atStart => exact ⟨0, Nat.zero_le _, rfl, rfl, fun j hj => by omega⟩
  case round =>
    obtain ⟨k, hk, rfl, rfl, hno⟩ := hrel
    have NO := Lib.hid hno
    clear hno
    by_cases hk' : k < n
    · have hki : (k : Int) < (n : Int) := by omega
      obtain ⟨b, off, rfl, hc⟩ := R.out.at (by omega : 0 < n)
      have hcx := hc k hk'
      obtain ⟨z, hz⟩ : ∃ z, f k = z := ⟨_, rfl⟩
      rw [hz] at hcx
      have HZ := Lib.hid hz
      clear hc hz
      by_cases hzi : z = i
      · have ht : (z == i) = true := by simp [hzi]
        have HI := Lib.hid hzi
        clear hzi
        go_wp2_with fail
        go_ret
        exact ⟨by rw [M.out.1 ⟨k, hk', HZ.out.trans HI.out⟩]; rfl, G.out⟩
      · have ht : (z == i) = false := by simp [hzi]
        have HI := Lib.hid hzi
        clear hzi
        go_wp2_with fail
        go_roundw
        case rel => exact ⟨k + 1, by omega, by go_num, trivial, fun j hj => by
          rcases (by omega : j < k ∨ j = k) with h | h
          · exact NO.out j h
          · subst h; rw [HZ.out]; exact HI.out⟩
        case measure => simp [intOf]; omega
    · have hki : ¬ (k : Int) < (n : Int) := by omega
      have hh : has m i = false := by
        rcases e : has m i with _ | _
        · rfl
        · obtain ⟨j, h1, h2⟩ := M.out.2 e
          exact absurd h2 (NO.out j (by omega))
      have HH := Lib.hid hh
      clear hh
      go_wp2_with fail
      go_ret
      exact ⟨by rw [HH.out]; rfl, G.out⟩
end Go.Proofs.YtlihcljjpalapaaDoor
