/- The document's find. -/
import Derived.Test.YtjkhgpdhhnfmlaaRa
namespace Go.Proofs.Ytjkhgpdhhnfmlaa
open Go.RowKit
open RG (Du)
open PM
set_option linter.unusedSimpArgs false

set_option maxHeartbeats 2000000 in
set_option maxRecDepth 100000 in
theorem rfind_is (ao : Option Addr) (cap : Nat) (l : List Du) (n : Nat) (id r : Int) (w : World) (hl : Lies w ao (cd l)) (hb : l.length ≤ 1000000) (hn : l.length = n) (hr : fx l id = r) :
    Calls Try.prog 25 #[.slice ao n cap, .int .i64 id] w fun e w' => e = .returned (.int .i64 r) ∧ Grw w w' := by
  have LI := Lib.hid hl
  have HN := Lib.hid (And.intro hn hr)
  rw [hn] at hb
  clear hl hn hr
  go_enter Try.func25, Try.ntmps25
  go_wp2_with fail
  go_loopw [5] (fun s4 wr => ∃ k : Nat, s4 = .int .i64 k ∧ k ≤ n ∧ Grw w wr ∧ ∀ j (h : j < l.length), j < k → l[j].id ≠ id) (fun s4 _ => n - (intOf s4).toNat)
  case atStart => exact ⟨0, rfl, Nat.zero_le _, Grw.rfl' _, fun j h hj => by omega⟩
  case round =>
    obtain ⟨k, rfl, hk, hg, hno⟩ := hrel
    have G := Lib.hid hg
    have NO := Lib.hid hno
    clear hno
    by_cases ck : k < n
    · have d1 : decide (k < n) = true := by simp [ck]
      have hkl : k < l.length := by rw [HN.out.1]; exact ck
      obtain ⟨b, off, rfl, c0, _⟩ := lies_at (LI.out.later hg) hkl
      obtain ⟨zi, hz⟩ : ∃ z, (l[k]'hkl).id = z := ⟨_, rfl⟩
      have HZ := Lib.hid hz
      rw [hz] at c0
      have q7 : IntKind.i64.wrap ((k : Int) + 1) = ((k + 1 : Nat) : Int) := by simp [IntKind.wrap_i64]; omega
      have u0 := gw_cell c0
      obtain ⟨t, ht⟩ : ∃ t, (zi == id) = t := ⟨_, rfl⟩
      have HT := Lib.hid ht
      clear hz hg
      cases t with
      | true =>
        go_wp2_with fail
        go_ret
        have e : (l[k]'hkl).id = id := by rw [HZ.out]; have := HT.out; simpa using this
        exact ⟨by rw [← HN.out.2, fx_at hkl e (fun j g => NO.out j (by omega) g)]; rfl, G.out⟩
      | false =>
        go_wp2_with fail
        refine ⟨⟨k + 1, by first | rfl | go_num, by omega, G.out, fun j h hj => ?_⟩, by simp [intOf]; omega⟩
        by_cases cjk : j = k
        · subst cjk; rw [HZ.out]; have := HT.out; simpa using this
        · exact NO.out j h (by omega)
    · have d1 : decide (k < n) = false := by simp; omega
      obtain rfl : n = k := by omega
      clear hg
      go_wp2_with fail
      go_ret
      exact ⟨by rw [← HN.out.2, fx_no (fun j g => NO.out j g (by have := HN.out.1; omega))]; rfl, G.out⟩
end Go.Proofs.Ytjkhgpdhhnfmlaa
