/- The contract of the document's own Of (remontoirref01) at this program. -/
import Derived.Test.YtopfllmdejdgpaaWi
namespace Go.Proofs.Ytopfllmdejdgpaa
open Go.RowKit TM

/-- The array of digits lies in block B, and the result's block behind it is untouched. -/
theorem arr_cell (d : Nat → Int) (w : World) (o : Obj) (i : Nat) (h : i < 11) : ((w.alloc (.cells (arr d) 23)).alloc o).cell? ⟨w.heap.size, i, none⟩ = some (.int .i64 (d i)) := by
  have := arr_get d i h
  simp [go_sem, this]

set_option maxHeartbeats 1000000 in
theorem rof_yes (d : Nat → Int) (w : World) (h : ofB d = true) :
    Calls Try.prog 13 #[.agg #[.int .i64 (d 0), .int .i64 (d 1), .int .i64 (d 2), .int .i64 (d 3), .int .i64 (d 4), .int .i64 (d 5), .int .i64 (d 6), .int .i64 (d 7), .int .i64 (d 8), .int .i64 (d 9), .int .i64 (d 10)]] w fun e w' => e = .returned (.agg #[.int .u64 (val d 11), .bool true]) ∧ Grw w w' := by
  obtain ⟨h10, hd⟩ := (ofB_iff d).1 h
  obtain ⟨v0, v1⟩ := val_max d h
  have HD := Lib.hid hd
  have V1 := Lib.hid v1
  clear hd h v1
  go_enter Try.func13, Try.ntmps13
  go_wp2
  rw [← arr_lit d]
  go_loop [3, 4] (fun v i => ∃ m : Nat, ∃ x : Int, m ≤ 11 ∧ i = .int .i64 ((m : Int) - 1) ∧ v = .int .u64 x ∧ 0 ≤ x ∧ Hid (x * 64 ^ m + val d m = val d 11)) (fun _ i => (intOf i + 1).toNat)
  case atStart => exact ⟨11, 0, by omega, rfl, rfl, by omega, Lib.hid (by omega)⟩
  case round =>
    obtain ⟨m, x, hm, rfl, rfl, hx, G⟩ := hrel
    by_cases hz : m = 0
    · subst hz
      have e : x = val d 11 := by
        have := G.out
        simpa [val] using this
      subst e
      clear G HD V1
      go_wp2
      exact bodyPost_ret (v := .agg #[.int .u64 (val d 11), .bool true]) (by simp [results, Try.results13, go_sem]) rfl ⟨rfl, ((Grw.rfl' _).alloc _).alloc _⟩
    · obtain ⟨n, rfl⟩ : ∃ n, m = n + 1 := ⟨m - 1, by omega⟩
      have e0 : ((n + 1 : Nat) : Int) - 1 = (n : Int) := by omega
      rw [e0]
      have p1 := arr_cell d w (.cells #[.int .u64 0, .bool false] 28) n (by omega)
      obtain ⟨b0, b1⟩ := HD.out n (by omega)
      obtain ⟨r0, r1⟩ := val_range d n (fun i hi => HD.out i (by omega))
      have U : val d (n + 1) = val d n + d n * 64 ^ n := rfl
      have g := G.out
      have e2 : (x * 64 + d n) * 64 ^ n + val d n = val d 11 := by
        rw [← g, U, Int.pow_succ, Int.add_mul]
        have : x * 64 * 64 ^ n = x * (64 ^ n * 64) := by rw [Int.mul_assoc, Int.mul_comm 64]
        omega
      have y0 : 0 ≤ x * 64 + d n := by omega
      have y1 : x * 64 + d n < 18446744073709551616 := by
        have := V1.out
        have k1 := p64 n
        have k2 : (x * 64 + d n) * 1 ≤ (x * 64 + d n) * 64 ^ n := Int.mul_le_mul_of_nonneg_left (by omega) y0
        omega
      have E2 := Lib.hid e2
      have i1 : (n : Int) < 11 := by omega
      clear e0 hz G g U e2 r0 r1 HD V1
      by_cases h9 : n = 10
      · subst h9
        go_wp2
        go_round
        case rel => exact ⟨10, x * 64 + d 10, by omega, by go_num, by go_num, y0, E2⟩
        case measure => simp [intOf]
      · have h9' : ((n : Int) == 10) = false := by simp; omega
        clear h9
        go_wp2
        go_round
        case rel => exact ⟨n, x * 64 + d n, by omega, by go_num, by go_num, y0, E2⟩
        case measure => simp [intOf]

set_option maxHeartbeats 1000000 in
theorem rof_no (d : Nat → Int) (w : World) (h : ofB d = false) :
    Calls Try.prog 13 #[.agg #[.int .i64 (d 0), .int .i64 (d 1), .int .i64 (d 2), .int .i64 (d 3), .int .i64 (d 4), .int .i64 (d 5), .int .i64 (d 6), .int .i64 (d 7), .int .i64 (d 8), .int .i64 (d 9), .int .i64 (d 10)]] w fun e w' => e = .returned (.agg #[.int .u64 0, .bool false]) ∧ Grw w w' := by
  have hn : ¬ ((∀ i, 0 ≤ i → i < 11 → 0 ≤ d i ∧ d i ≤ 63) ∧ (0 ≤ 10 → d 10 ≤ 15)) := fun g => by
    have := (ofB_iff d).2 ⟨g.2 (by omega), fun i hi => g.1 i (by omega) hi⟩
    rw [h] at this
    cases this
  have HN := Lib.hid hn
  clear hn h
  go_enter Try.func13, Try.ntmps13
  go_wp2
  rw [← arr_lit d]
  go_loop [3, 4] (fun v i => ∃ m : Nat, m ≤ 11 ∧ i = .int .i64 ((m : Int) - 1) ∧ (∃ x, v = .int .u64 x) ∧ Hid ((∀ i, m ≤ i → i < 11 → 0 ≤ d i ∧ d i ≤ 63) ∧ (m ≤ 10 → d 10 ≤ 15))) (fun _ i => (intOf i + 1).toNat)
  case atStart => exact ⟨11, by omega, rfl, ⟨_, rfl⟩, Lib.hid ⟨fun i hi hi' => by omega, fun h => by omega⟩⟩
  case round =>
    obtain ⟨m, hm, rfl, ⟨x, rfl⟩, G⟩ := hrel
    by_cases hz : m = 0
    · subst hz
      exact absurd G.out HN.out
    · obtain ⟨n, rfl⟩ : ∃ n, m = n + 1 := ⟨m - 1, by omega⟩
      have e0 : ((n + 1 : Nat) : Int) - 1 = (n : Int) := by omega
      rw [e0]
      have p1 := arr_cell d w (.cells #[.int .u64 0, .bool false] 28) n (by omega)
      have i1 : (n : Int) < 11 := by omega
      clear e0 hz HN
      by_cases b0 : 0 ≤ d n
      · by_cases b1 : d n ≤ 63
        · by_cases h9 : n = 10
          · subst h9
            by_cases b2 : d 10 ≤ 15
            · have G2 : Hid ((∀ i, 10 ≤ i → i < 11 → 0 ≤ d i ∧ d i ≤ 63) ∧ (10 ≤ 10 → d 10 ≤ 15)) := Lib.hid ⟨fun i hi hi' => by
                have : i = 10 := by omega
                subst this; exact ⟨b0, b1⟩, fun _ => b2⟩
              clear G
              go_wp2
              go_round
              case rel => exact ⟨10, by omega, by go_num, ⟨_, rfl⟩, G2⟩
              case measure => simp [intOf]
            · clear G
              go_wp2
              exact bodyPost_ret (v := .agg #[.int .u64 0, .bool false]) (by simp [results, Try.results13, go_sem]) rfl ⟨rfl, ((Grw.rfl' _).alloc _).alloc _⟩
          · have h9' : ((n : Int) == 10) = false := by simp; omega
            have G2 : Hid ((∀ i, n ≤ i → i < 11 → 0 ≤ d i ∧ d i ≤ 63) ∧ (n ≤ 10 → d 10 ≤ 15)) := Lib.hid ⟨fun i hi hi' => by
              by_cases e : i = n
              · subst e; exact ⟨b0, b1⟩
              · exact G.out.1 i (by omega) hi', fun _ => G.out.2 (by omega)⟩
            clear G h9
            go_wp2
            go_round
            case rel => exact ⟨n, by omega, by go_num, ⟨_, rfl⟩, G2⟩
            case measure => simp [intOf]
        · clear G
          go_wp2
          exact bodyPost_ret (v := .agg #[.int .u64 0, .bool false]) (by simp [results, Try.results13, go_sem]) rfl ⟨rfl, ((Grw.rfl' _).alloc _).alloc _⟩
      · clear G
        go_wp2
        exact bodyPost_ret (v := .agg #[.int .u64 0, .bool false]) (by simp [results, Try.results13, go_sem]) rfl ⟨rfl, ((Grw.rfl' _).alloc _).alloc _⟩

theorem rof_any (d : Nat → Int) (w : World) :
    Calls Try.prog 13 #[.agg #[.int .i64 (d 0), .int .i64 (d 1), .int .i64 (d 2), .int .i64 (d 3), .int .i64 (d 4), .int .i64 (d 5), .int .i64 (d 6), .int .i64 (d 7), .int .i64 (d 8), .int .i64 (d 9), .int .i64 (d 10)]] w fun e w' => e = .returned (.agg #[.int .u64 (ofV d), .bool (ofB d)]) ∧ Grw w w' := by
  by_cases h : ofB d = true
  · have e : ofV d = val d 11 := by unfold ofV; rw [if_pos h]
    rw [e, h]; exact rof_yes d w h
  · have e : ofV d = 0 := by unfold ofV; rw [if_neg h]
    have h' : ofB d = false := by simpa using h
    rw [e, h']; exact rof_no d w h'
end Go.Proofs.Ytopfllmdejdgpaa
