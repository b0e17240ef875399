/- The contracts of tick.Of and of the document's own answers (remontoirref01) at this program. -/
import Derived.Test.YtopfllmdejdgpaaWc
import Derived.Test.YtopfllmdejdgpaaMo
namespace Go.Proofs.Ytopfllmdejdgpaa
open Go.RowKit TM

def arr (d : Nat → Int) : Array Value := ((List.range 11).map fun i => Value.int .i64 (d i)).toArray
theorem arr_get (d : Nat → Int) (i : Nat) (h : i < 11) : (arr d)[i]? = some (.int .i64 (d i)) := by
  unfold arr; simp [h]
theorem arr_lit (d : Nat → Int) : arr d = #[.int .i64 (d 0), .int .i64 (d 1), .int .i64 (d 2), .int .i64 (d 3), .int .i64 (d 4), .int .i64 (d 5), .int .i64 (d 6), .int .i64 (d 7), .int .i64 (d 8), .int .i64 (d 9), .int .i64 (d 10)] := by
  simp [arr, List.range, List.range.loop]
theorem arr_of (cs : Array Value) (f : Nat → Int) (h : cs.size = 11) (hc : ∀ i, i < 11 → cs[i]? = some (.int .i64 (f i))) : cs = arr f := by
  apply Array.ext_getElem?
  intro i
  by_cases hi : i < 11
  · rw [hc i hi, arr_get f i hi]
  · have h1 : cs[i]? = none := Array.getElem?_eq_none (by omega)
    have h2 : (arr f)[i]? = none := Array.getElem?_eq_none (by unfold arr; simp; omega)
    rw [h1, h2]
theorem index_arr (d : Nat → Int) (k : Nat) (h : k < 11) (w : World) : (Instr.index 23 (.agg (arr d)) (.int .i64 k)).run Try.prog w = .ok (.int .i64 (d k)) w := by
  have hg := arr_get d k h
  simp [Instr.index, run_underlying Try.underlying23, asIntOf, go_sem, h, hg]

set_option maxHeartbeats 1000000 in
theorem of_yes (d : Nat → Int) (w : World) (h : ofB d = true) :
    Calls Try.prog 10 #[.agg #[.int .i64 (d 0), .int .i64 (d 1), .int .i64 (d 2), .int .i64 (d 3), .int .i64 (d 4), .int .i64 (d 5), .int .i64 (d 6), .int .i64 (d 7), .int .i64 (d 8), .int .i64 (d 9), .int .i64 (d 10)]] w fun e w' => e = .returned (.tuple #[.int .u64 (val d 11), .bool true]) ∧ Grw w w' := by
  obtain ⟨h10, hd⟩ := (ofB_iff d).1 h
  have HD := Lib.hid hd
  clear hd h
  go_enter Try.func10, Try.ntmps10
  go_wp2
  rw [← arr_lit d]
  go_loop [4, 11] (fun v i => ∃ k : Nat, k ≤ 11 ∧ i = .int .i64 k ∧ v = .int .u64 (val d k)) (fun _ i => 11 - (intOf i).toNat)
  case atStart => exact ⟨0, by omega, rfl, rfl⟩
  case round =>
    obtain ⟨k, hk, rfl, rfl⟩ := hrel
    by_cases hlt : k < 11
    · have E := Lib.hid (index_arr d k hlt)
      obtain ⟨b0, b1⟩ := HD.out k hlt
      obtain ⟨r0, r1⟩ := val_range d k (fun i hi => HD.out i (by omega))
      have S := Lib.hid (or_step (val d k) (d k) k r0 r1 b0 b1 (by omega) (fun e => by subst e; exact h10))
      have U := Lib.hid (show val d (k + 1) = val d k + d k * 64 ^ k from rfl)
      clear r0 r1
      generalize val d k = n at *
      go_wp2_with (simp only [E.out])
      go_round
      case rel => exact ⟨k + 1, by omega, by go_num, by rw [S.out, U.out]⟩
      case measure => simp [intOf]; omega
    · have e : k = 11 := by omega
      subst e
      clear HD
      go_wp2
      go_ret2
      exact ⟨rfl, (Grw.rfl' _).alloc _⟩

set_option maxHeartbeats 1000000 in
theorem of_no (d : Nat → Int) (w : World) (h : ofB d = false) :
    Calls Try.prog 10 #[.agg #[.int .i64 (d 0), .int .i64 (d 1), .int .i64 (d 2), .int .i64 (d 3), .int .i64 (d 4), .int .i64 (d 5), .int .i64 (d 6), .int .i64 (d 7), .int .i64 (d 8), .int .i64 (d 9), .int .i64 (d 10)]] w fun e w' => e = .returned (.tuple #[.int .u64 0, .bool false]) ∧ Grw w w' := by
  by_cases h10 : d 10 ≤ 15
  · have hn : ¬ ∀ i, i < 11 → 0 ≤ d i ∧ d i ≤ 63 := fun g => by
      have := (ofB_iff d).2 ⟨h10, g⟩
      rw [h] at this
      cases this
    have HN := Lib.hid hn
    clear hn h
    go_enter Try.func10, Try.ntmps10
    go_wp2
    rw [← arr_lit d]
    go_loop [4, 11] (fun v i => ∃ k : Nat, k ≤ 11 ∧ i = .int .i64 k ∧ (∃ n, v = .int .u64 n) ∧ Hid (∀ i, i < k → 0 ≤ d i ∧ d i ≤ 63)) (fun _ i => 11 - (intOf i).toNat)
    case atStart => exact ⟨0, by omega, rfl, ⟨_, rfl⟩, Lib.hid fun i hi => by omega⟩
    case round =>
      obtain ⟨k, hk, rfl, ⟨n, rfl⟩, G⟩ := hrel
      by_cases hlt : k < 11
      · have E := Lib.hid (index_arr d k hlt)
        by_cases b0 : 0 ≤ d k
        · by_cases b1 : d k ≤ 63
          · have G2 : Hid (∀ i, i < k + 1 → 0 ≤ d i ∧ d i ≤ 63) := Lib.hid fun i hi => by
              by_cases e : i = k
              · subst e; exact ⟨b0, b1⟩
              · exact G.out i (by omega)
            clear G HN
            go_wp2_with (simp only [E.out])
            go_round
            case rel => exact ⟨k + 1, by omega, by go_num, ⟨_, rfl⟩, G2⟩
            case measure => simp [intOf]; omega
          · clear G HN
            go_wp2_with (simp only [E.out])
            go_ret2
            exact ⟨rfl, (Grw.rfl' _).alloc _⟩
        · clear G HN
          go_wp2_with (simp only [E.out])
          go_ret2
          exact ⟨rfl, (Grw.rfl' _).alloc _⟩
      · exact absurd (fun i hi => G.out i (by omega)) HN.out
  · clear h
    go_enter Try.func10, Try.ntmps10
    go_wp2
    go_ret2
    exact ⟨rfl, (Grw.rfl' _).alloc _⟩

theorem of_any (d : Nat → Int) (w : World) :
    Calls Try.prog 10 #[.agg #[.int .i64 (d 0), .int .i64 (d 1), .int .i64 (d 2), .int .i64 (d 3), .int .i64 (d 4), .int .i64 (d 5), .int .i64 (d 6), .int .i64 (d 7), .int .i64 (d 8), .int .i64 (d 9), .int .i64 (d 10)]] w fun e w' => e = .returned (.tuple #[.int .u64 (ofV d), .bool (ofB d)]) ∧ Grw w w' := by
  by_cases h : ofB d = true
  · have e : ofV d = val d 11 := by unfold ofV; rw [if_pos h]
    rw [e, h]; exact of_yes d w h
  · have e : ofV d = 0 := by unfold ofV; rw [if_neg h]
    have h' : ofB d = false := by simpa using h
    rw [e, h']; exact of_no d w h'
end Go.Proofs.Ytopfllmdejdgpaa
