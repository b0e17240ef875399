/- The contract of the laws' own wakes at this program. -/
import Derived.Test.YtcdfjheklggfhaaDoorXe
import Derived.Test.YtcdfjheklggfhaaDoorXf
namespace Go.Proofs.YtcdfjheklggfhaaDoor
open Go.RowKit SM
set_option linter.unusedSimpArgs false

/-- two cells that lie, and their block is there. -/
structure Kp (x : World) (b : Nat) (c0 c1 : Value) : Prop where
  t : Two x b c0 c1
  lt : b < x.heap.size
theorem Kp.new (w : World) (c0 c1 : Value) (T : TypeId) : Kp (w.alloc (.cells #[c0, c1] T)) w.heap.size c0 c1 := ⟨Two.new w c0 c1 T, by simp only [size_new]; omega⟩
theorem Kp.later {w x : World} {b : Nat} {c0 c1 : Value} (k : Kp w b c0 c1) (h : Grw w x) : Kp x b c0 c1 := ⟨k.t.later h k.lt, Nat.lt_of_lt_of_le k.lt (Below.size h)⟩
theorem Kp.grown {w x : World} {c0 c1 : Value} {T : TypeId} (h : Grw (w.alloc (.cells #[c0, c1] T)) x) : Kp x w.heap.size c0 c1 := (Kp.new w c0 c1 T).later h

theorem cparse_at (s : ByteArray) (n v e : Nat) (w : World) (hs : s.size ≤ 9223372036854775807) (h1 : cyN s.data.toList = n) (h2 : cyV s.data.toList = v) (h3 : cyE s.data.toList = e) :
    Calls Tryd.prog 9 #[.string s] w fun en w' => en = .returned (.tuple #[.agg #[.int .i64 n, .int .u64 v], .int .i64 e]) ∧ Grw w w' := by
  have := cparse_any s w hs
  rw [h1, h2, h3] at this; exact this

set_option maxHeartbeats 2000000 in
set_option maxRecDepth 100000 in
theorem wakes_any (w : World) : Calls Tryd.prog 8 #[] w fun e w' => e = .returned (.bool true) ∧ Grw w w' := by
  have A := Lib.hid (fun w => cparse_at ⟨#[82, 51, 47, 80, 84, 49, 48, 83]⟩ 3 10 0 w (by decide) (by decide) (by decide) (by decide))
  have B := Lib.hid (fun w => cparse_at ⟨#[82, 47, 80, 84, 49, 83]⟩ 0 0 5 w (by decide) (by decide) (by decide) (by decide))
  have C := Lib.hid (fun w => cparse_at ⟨#[82, 48, 47, 80, 84, 49, 83]⟩ 0 0 2 w (by decide) (by decide) (by decide) (by decide))
  have D := Lib.hid (fun w => cparse_at ⟨#[82, 50, 47, 80, 84, 48, 83]⟩ 0 0 6 w (by decide) (by decide) (by decide) (by decide))
  have hW : whenV 3 10 5 2 = 25 := by decide
  have hB : whenB 3 10 5 2 = true := by decide
  have hP : pastV 3 10 5 25 = 2 := by decide
  have E := fun w => when_any 3 10 5 2 w (by decide) (by decide) (by decide) (by decide)
  rw [hW, hB] at E
  have F := fun w => past_any 3 10 5 25 w (by decide) (by decide) (by decide) (by decide)
  rw [hP] at F
  replace E := Lib.hid E
  replace F := Lib.hid F
  clear hW hB hP
  go_enter Tryd.func8, Tryd.ntmps8
  go_wp2_with fail
  refine (A.out _).mono ?_
  rintro _ w1 ⟨rfl, hw1⟩
  go_wp2_with fail
  refine (B.out _).mono ?_
  rintro _ w2 ⟨rfl, hw2⟩
  have K := Kp.grown hw2
  have G := Grw.trans hw1 hw2.two
  clear hw1 hw2 A B
  go_wp2_with fail
  refine (C.out _).mono ?_
  rintro _ w3 ⟨rfl, hw3⟩
  replace K := K.later hw3.two
  replace G := Grw.trans G hw3.two
  clear hw3 C
  go_wp2_with fail
  refine (D.out _).mono ?_
  rintro _ w4 ⟨rfl, hw4⟩
  replace K := K.later hw4.two
  replace G := Grw.trans G hw4.two
  clear hw4 D
  have c0 := (K.later ((Grw.rfl' _).alloc (.cells #[.int .i64 0, .int .u64 0] 25))).t.c0
  have c1 := (K.later ((Grw.rfl' _).alloc (.cells #[.int .i64 0, .int .u64 0] 25))).t.c1
  go_wp2_with fail
  refine (E.out _).mono ?_
  rintro _ w5 ⟨rfl, hw5⟩
  replace K := K.later hw5.two
  replace G := Grw.trans G hw5.two
  clear hw5 E c0 c1
  have c0 := K.t.c0
  have c1 := K.t.c1
  go_wp2_with fail
  refine (F.out _).mono ?_
  rintro _ w6 ⟨rfl, hw6⟩
  go_wp2_with fail
  go_ret
  exact ⟨rfl, Grw.trans G hw6⟩
end Go.Proofs.YtcdfjheklggfhaaDoor
