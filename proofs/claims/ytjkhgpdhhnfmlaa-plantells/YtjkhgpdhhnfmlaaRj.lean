/- The document's Insert that does not. -/
import Derived.Test.YtjkhgpdhhnfmlaaRi
namespace Go.Proofs.Ytjkhgpdhhnfmlaa
open Go.RowKit
open RG (Du)
open PM
set_option linter.unusedSimpArgs false

set_option maxHeartbeats 4000000 in
set_option maxRecDepth 100000 in
theorem rinsert_no (ao : Option Addr) (cap : Nat) (L : List Du) (n : Nat) (d : Du) (w : World) (hl : Lies w ao (cd L)) (hb : L.length ≤ 100000) (hn : L.length = n) (h : gdB L = false ∨ 0 ≤ fx L d.id) :
    Calls Try.prog 11 #[.slice ao n cap, dv d] w fun e w' => e = .returned (.agg #[.slice none 0 0, .bool false]) ∧ Grw w w' := by
  obtain ⟨di, dt⟩ := d
  obtain ⟨f, hf⟩ : ∃ f, fx L di = f := ⟨_, rfl⟩
  obtain ⟨g, hg⟩ : ∃ g, gdB L = g := ⟨_, rfl⟩
  have LI := Lib.hid hl
  have A := Lib.hid (fun x (q : Grw w x) => rfind_is ao cap L n di f x (LI.out.later q) (by omega) hn hf)
  have B := Lib.hid (fun x (q : Grw w x) => rgood_is ao cap L n x (LI.out.later q) (by omega) hn)
  rw [hg] at B h
  simp only [hf] at h
  obtain ⟨wa, hwa⟩ : ∃ x, w.alloc (.cells #[.int .i64 di, .int .u64 (dt : Nat)] 25) = x := ⟨_, rfl⟩
  have Ga : Grw w wa := by rw [← hwa]; exact (Grw.rfl' w).alloc _
  have WA := Lib.hid (And.intro hwa Ga)
  have G0 := Lib.hid (Ga.alloc (.cells #[.slice none 0 0, .bool false] 33))
  have T0 : Hid (Two (wa.alloc (.cells #[.slice none 0 0, .bool false] 33)) (w.heap.size + 1) (.slice none 0 0) (.bool false)) := (by
    have e : w.heap.size + 1 = wa.heap.size := by rw [← hwa, size_new]
    rw [e]; exact Two.new wa _ _ 33 : Two (wa.alloc (.cells #[.slice none 0 0, .bool false] 33)) (w.heap.size + 1) (.slice none 0 0) (.bool false))
  have D0 : Hid (Two (wa.alloc (.cells #[.slice none 0 0, .bool false] 33)) w.heap.size (.int .i64 di) (.int .u64 (dt : Nat))) := ((by rw [← hwa]; exact (Two.new w (.int .i64 di) (.int .u64 (dt : Nat)) 25).later ((Grw.rfl' _).alloc _) (by rw [size_new]; omega)) : Two (wa.alloc (.cells #[.slice none 0 0, .bool false] 33)) w.heap.size (.int .i64 di) (.int .u64 (dt : Nat)))
  rw [← hwa] at G0 T0 D0
  clear hl hf hg hwa Ga WA
  unfold dv
  cases g with
  | false =>
    clear h
    go_enter Try.func11, Try.ntmps11
    go_wp2_with fail
    refine (B.out _ G0.out).mono ?_
    rintro _ w1 ⟨rfl, h1⟩
    have T1 := Lib.hid (T0.out.later h1 (by have := World.block_lt_of_cell? _ _ T0.out.c0; exact this))
    have G1 := Lib.hid (G0.out.trans h1)
    clear h1
    have TT := T1
    have GG := G1
    have c0 := TT.out.c0
    have c1 := TT.out.c1
    have f0 := TT.out.f0
    have f1 := TT.out.f1
    go_wp2_with fail
    exact bodyPost_ret (v := .agg #[.slice none 0 0, .bool false]) (by simp [results, Try.results11, go_sem, c0, c1]) rfl ⟨rfl, by repeat (first | exact GG.out | with_reducible refine Grw.set ?_ (Nat.le_succ _) _)⟩
  | true =>
    have d0 : decide (0 ≤ f) = true := by
      simp
      rcases h with h | h
      · cases h
      · exact h
    clear h
    go_enter Try.func11, Try.ntmps11
    go_wp2_with fail
    refine (B.out _ G0.out).mono ?_
    rintro _ w1 ⟨rfl, h1⟩
    have T1 := Lib.hid (T0.out.later h1 (by have := World.block_lt_of_cell? _ _ T0.out.c0; exact this))
    have G1 := Lib.hid (G0.out.trans h1)
    have D1 := D0.out.later h1 (by have := World.block_lt_of_cell? _ _ D0.out.c0; exact this)
    have e0 := D1.c0
    have e1 := D1.c1
    have x0 := D1.f0
    have x1 := D1.f1
    clear D1
    clear h1
    go_wp2_with fail
    refine (A.out _ G1.out).mono ?_
    rintro _ w2 ⟨rfl, h2⟩
    have TT := Lib.hid (T1.out.later h2 (by have := World.block_lt_of_cell? _ _ T1.out.c0; exact this))
    have GG := Lib.hid (G1.out.trans h2)
    clear h2
    have c0 := TT.out.c0
    have c1 := TT.out.c1
    have f0 := TT.out.f0
    have f1 := TT.out.f1
    go_wp2_with fail
    exact bodyPost_ret (v := .agg #[.slice none 0 0, .bool false]) (by simp [results, Try.results11, go_sem, c0, c1]) rfl ⟨rfl, by repeat (first | exact GG.out | with_reducible refine Grw.set ?_ (Nat.le_succ _) _)⟩
end Go.Proofs.Ytjkhgpdhhnfmlaa
