/- Sums as the laws ask them; arrays of seven; fields. -/
import Derived.Test.YtjkhgpdhhnfmlaaDoorXq
import Derived.Test.YtjkhgpdhhnfmlaaDoorTr
namespace Go.Proofs.YtjkhgpdhhnfmlaaDoor
open Go.RowKit TM MK
open RG (Du La listR putB putR dropR dropO takeR hasId Srt)
open VM (RK BK lvl idsD)
set_option linter.unusedSimpArgs false

set_option maxHeartbeats 1000000 in
theorem eq7_same (d : Nat → Int) (w : World) : (Op.equalIn 10000 87 (.agg #[.int .i64 (d 0), .int .i64 (d 1), .int .i64 (d 2), .int .i64 (d 3), .int .i64 (d 4), .int .i64 (d 5), .int .i64 (d 6)]) (.agg #[.int .i64 (d 0), .int .i64 (d 1), .int .i64 (d 2), .int .i64 (d 3), .int .i64 (d 4), .int .i64 (d 5), .int .i64 (d 6)])).run Tryd.prog w = .ok true w := by
  have u3 := Tryd.underlying3
  have a3 := Tryd.isAgg3
  have z3 := Tryd.sizeOf3
  rw [show (10000 : Nat) = 9999 + 1 from rfl, Op.equalIn]
  simp only [Sem.run_bind, run_underlying Tryd.underlying87, Result.andThen_ok]
  simp only [Std.Legacy.Range.forIn_eq_forIn_range', Std.Legacy.Range.size, Nat.sub_zero, Nat.add_sub_cancel, Nat.div_one, List.range'_succ, List.range'_zero, List.forIn_cons, List.forIn_nil]
  go_simp
theorem field39_1 (a b : Value) (w : World) : (Instr.field 39 (.agg #[a, b]) 1).run Tryd.prog w = .ok b w := by kernel_rfl
theorem field39_0 (a b : Value) (w : World) : (Instr.field 39 (.agg #[a, b]) 0).run Tryd.prog w = .ok a w := by kernel_rfl
theorem rsum_is (a b : Nat) (v : Nat) (o : Bool) (w : World) (ha : a < 2 ^ 64) (hb : b < 2 ^ 64) (h1 : sumV (a : Int) (b : Int) = (v : Int)) (h2 : sumB (a : Int) (b : Int) = o) :
    Calls Tryd.prog 25 #[.int .u64 a, .int .u64 b] w fun e w' => e = .returned (.agg #[.int .u64 (v : Nat), .bool o]) ∧ Grw w w' := by rw [← h1, ← h2]; exact rsum_any a b w ⟨by omega, by omega⟩ ⟨by omega, by omega⟩
theorem sum_in {a b : Nat} (h : a + b < 2 ^ 64) : sumV (a : Int) (b : Int) = ((a + b : Nat) : Int) ∧ sumB (a : Int) (b : Int) = true := by
  unfold sumV sumB
  rw [if_pos (by omega)]
  exact ⟨by omega, decide_eq_true (by omega)⟩
theorem sum_out {a b : Nat} (h : ¬ a + b < 2 ^ 64) : sumV (a : Int) (b : Int) = ((0 : Nat) : Int) ∧ sumB (a : Int) (b : Int) = false := by
  unfold sumV sumB
  rw [if_neg (by omega)]
  exact ⟨rfl, decide_eq_false (by omega)⟩
end Go.Proofs.YtjkhgpdhhnfmlaaDoor
