/- The document's Cancel. -/
import Derived.Test.YtjkhgpdhhnfmlaaRd
namespace Go.Proofs.Ytjkhgpdhhnfmlaa
open Go.RowKit
open RG (Du)
open PM
set_option linter.unusedSimpArgs false

set_option maxHeartbeats 4000000 in
set_option maxRecDepth 100000 in
theorem rcancel_no (ao : Option Addr) (cap : Nat) (L : List Du) (n : Nat) (id : Int) (w : World) (hl : Lies w ao (cd L)) (hb : L.length ≤ 100000) (hn : L.length = n) (h : gdB L = false ∨ fx L id < 0) :
    Calls Try.prog 12 #[.slice ao n cap, .int .i64 id] w fun e w' => e = .returned (.agg #[.slice none 0 0, .bool false]) ∧ Grw w w' := by
  obtain ⟨f, hf⟩ : ∃ f, fx L id = f := ⟨_, rfl⟩
  obtain ⟨g, hg⟩ : ∃ g, gdB L = g := ⟨_, rfl⟩
  have LI := Lib.hid hl
  have A := Lib.hid (fun x (q : Grw w x) => rfind_is ao cap L n id f x (LI.out.later q) (by omega) hn hf)
  have B := Lib.hid (fun x (q : Grw w x) => rgood_is ao cap L n x (LI.out.later q) (by omega) hn)
  rw [hg] at B h
  rw [hf] at h
  have G0 := Lib.hid ((Grw.rfl' w).alloc (.cells #[.slice none 0 0, .bool false] 33))
  have T0 := Lib.hid (Two.new w (.slice none 0 0) (.bool false) 33)
  clear hl hf hg
  cases g with
  | false =>
    clear h
    go_enter Try.func12, Try.ntmps12
    go_wp2_with fail
    refine (A.out _ G0.out).mono ?_
    rintro _ w1 ⟨rfl, h1⟩
    have G1 := Lib.hid (G0.out.trans h1)
    have T1 := Lib.hid (T0.out.later h1 (by rw [size_new]; omega))
    clear h1
    go_wp2_with fail
    refine (B.out _ G1.out).mono ?_
    rintro _ w2 ⟨rfl, h2⟩
    have T2 := T1.out.later h2 (by have := World.block_lt_of_cell? _ _ T1.out.c0; exact this)
    have G2 := Lib.hid (G1.out.trans h2)
    have c0 := T2.c0
    have c1 := T2.c1
    have f0 := T2.f0
    have f1 := T2.f1
    clear h2 T2
    go_wp2_with fail
    exact bodyPost_ret (v := .agg #[.slice none 0 0, .bool false]) (by simp [results, Try.results12, go_sem, c0, c1]) rfl ⟨rfl, by repeat (first | exact G2.out | with_reducible refine Grw.set ?_ (Nat.le_refl _) _)⟩
  | true =>
    have d : decide (f < 0) = true := by simp; rcases h with h | h; · cases h
                                         · exact h
    clear h
    go_enter Try.func12, Try.ntmps12
    go_wp2_with fail
    refine (A.out _ G0.out).mono ?_
    rintro _ w1 ⟨rfl, h1⟩
    have G1 := Lib.hid (G0.out.trans h1)
    have T1 := Lib.hid (T0.out.later h1 (by rw [size_new]; omega))
    clear h1
    go_wp2_with fail
    refine (B.out _ G1.out).mono ?_
    rintro _ w2 ⟨rfl, h2⟩
    have T2 := T1.out.later h2 (by have := World.block_lt_of_cell? _ _ T1.out.c0; exact this)
    have G2 := Lib.hid (G1.out.trans h2)
    have c0 := T2.c0
    have c1 := T2.c1
    have f0 := T2.f0
    have f1 := T2.f1
    clear h2 T2
    go_wp2_with fail
    exact bodyPost_ret (v := .agg #[.slice none 0 0, .bool false]) (by simp [results, Try.results12, go_sem, c0, c1]) rfl ⟨rfl, by repeat (first | exact G2.out | with_reducible refine Grw.set ?_ (Nat.le_refl _) _)⟩
end Go.Proofs.Ytjkhgpdhhnfmlaa
