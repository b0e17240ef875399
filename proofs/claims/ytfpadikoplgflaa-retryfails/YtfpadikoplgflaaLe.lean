/- The law RetryFails, walked. -/
import Derived.Test.YtfpadikoplgflaaWh
import Derived.OwnWalk
import Derived.Laws.OwnMore
namespace Go.Proofs.Ytfpadikoplgflaa
open Go.RowKit
set_option linter.unusedSimpArgs false

theorem info_int : (Try.prog.info? 3).map (fun i => (i.zero, i.size, i.bytes)) = some (some (.int .i64 0), 1, 8) := by kernel_rfl
theorem int_cells (l : List Int) : ∀ u ∈ ci l, u.oneCell' = true := by
  intro u hu
  unfold ci at hu
  rw [List.mem_map] at hu
  obtain ⟨z, _, rfl⟩ := hu
  rfl
theorem laid_at (w : World) (l : List Int) : ∀ (j : Nat) (u : Value), (ci l)[j]? = some u → (w.alloc (.cells (ci l).toArray 3)).cell? ((⟨w.heap.size, 0, none⟩ : Addr).add j) = some u := by
  intro j u hj
  rw [Addr.add_lit, Nat.zero_add]
  simp [go_sem, hj]
theorem own_rng {w : World} {B : Nat} {e : TypeId} {size : Nat} {v : Value} {n : Nat} {xs : List Value} (h : w.ownsRow B e size v n xs) : ∀ k, v.ownBlock = some k → B ≤ k ∧ k < w.heap.size := by
  intro k hk
  rcases h.2 with ⟨h1, _⟩ | ⟨g, cap, cur, h1, hb, hg, _⟩
  · rw [h1] at hk; cases hk
  · rw [h1] at hk
    have hk : some g = some k := hk
    injection hk with hk
    subst hk
    exact ⟨hb, (Array.getElem?_eq_some_iff.1 hg).1⟩
theorem Two.frm {F : Nat → Prop} {w x : World} {b : Nat} {c0 c1 : Value} (t : Two w b c0 c1) (h : Frm F w x) (hb : ¬ F b) : Two x b c0 c1 := by
  have hl := World.block_lt_of_cell? _ _ t.c0
  refine ⟨h.cell t.c0 hb, h.cell t.c1 hb, ?_, ?_⟩
  · rw [World.frozen?_of_block (h.block b hl hb)]; exact t.f0
  · rw [World.frozen?_of_block (h.block b hl hb)]; exact t.f1
theorem ci_app (l m : List Int) : ci (l ++ m) = ci l ++ ci m := by simp [ci]
/-- in whatever other world, w has grown into x but for the row's block. -/
theorem grow_row {a w x : World} {B : Nat} {v : Value} {n : Nat} {xs : List Value} (g : Grw a w) (h : w.grownBy x v.ownBlock) (o : w.ownsRow B 3 1 v n xs) (hB : a.heap.size ≤ B) : Grw a x :=
  Frm.grw g (grownBy_frm h) (fun k e => Nat.le_trans hB (own_rng o k e).1)

set_option maxHeartbeats 8000000 in
set_option maxRecDepth 100000 in
theorem fails_walk (t : Nat) (w : World) (ht : t < 256) : Calls Try.prog 7 #[.int .u8 (t : Nat)] w fun e w' => e = .returned (.bool true) ∧ Grw w w' := by
  have WK := Lib.hid wakes_any
  obtain ⟨i0, hi, hz0, hz1, hz2⟩ := info_parts info_int
  obtain ⟨n, hn⟩ : ∃ n : Nat, t % 10 = n := ⟨_, rfl⟩
  have hn' : (t : Int).tmod 10 = (n : Int) := by rw [Int.tmod_eq_emod_of_nonneg (by omega)]; omega
  have hn9 : n ≤ 9 := by omega
  have q1 : IntKind.i64.wrap (t : Int) = t := by simp [IntKind.wrap_i64]; omega
  obtain ⟨f, hf⟩ : ∃ f : Int, ((3 * n + 2 : Nat) : Int) = f := ⟨_, rfl⟩
  have LF := Lib.hid (fun w => left_is n 1 0 f w (by rw [lf_zero (by omega) (by omega)]; omega))
  have HN := Lib.hid (And.intro hn9 hf)
  obtain ⟨b, hb⟩ : ∃ b, w.heap.size = b := ⟨_, rfl⟩
  have T0 : Hid (Two (w.alloc (.cells #[.int .i64 1, .int .i64 0] 23)) b (.int .i64 1) (.int .i64 0)) := (by rw [← hb]; exact Two.new _ _ _ _ : Two (w.alloc (.cells #[.int .i64 1, .int .i64 0] 23)) b (.int .i64 1) (.int .i64 0))
  have BW : Hid (b + 1 = (w.alloc (.cells #[.int .i64 1, .int .i64 0] 23)).heap.size) := (by rw [size_new]; omega : b + 1 = (w.alloc (.cells #[.int .i64 1, .int .i64 0] 23)).heap.size)
  have HB := Lib.hid hb
  clear hn hn9 hf
  go_enter Try.func7, Try.ntmps7
  go_wp2_with fail
  refine (LF.out _).mono ?_
  rintro _ w1 ⟨rfl, hw⟩
  have T1 := Lib.hid (T0.out.later hw (by have := BW.out; omega))
  have G1 := Lib.hid (((Grw.rfl' w).alloc _).trans hw)
  have B1 := Lib.hid (show b + 1 ≤ w1.heap.size by have := Below.size hw; have := BW.out; omega)
  clear hw hn' hb
  go_wp2_with fail
  go_loopw [6, 7] (fun x y wr => ∃ (i : Nat), i ≤ n ∧ y = .int .i64 (i : Nat) ∧ wr.ownsRow (b + 1) 3 1 x (3 * i) (ci (fl i)) ∧ Two wr b (.int .i64 1) (.int .i64 (i : Nat)) ∧ b + 1 ≤ wr.heap.size ∧ Grw w wr) (fun _ y _ => n + 1 - (intOf y).toNat)
  case atStart => exact ⟨0, Nat.zero_le _, rfl, World.ownsRow_nil _ _ _ _, T1.out, B1.out, G1.out⟩
  case round =>
    obtain ⟨i, hin, rfl, hown, htw, hbl, hg⟩ := hrel
    have k1 : decide ((i : Int) ≤ (n : Int)) = true := by simp; omega
    obtain ⟨k, hk⟩ : ∃ k : Int, (i : Int) + 1 = k := ⟨_, rfl⟩
    have qk : IntKind.i64.wrap ((i : Int) + 1) = k := by rw [hk]; simp [IntKind.wrap_i64]; have := HN.out.1; omega
    have S1 := Lib.hid (fun w => step_is n 1 i 1 2 k true w (by rw [← hk]; exact st_fetch (by have := HN.out.1; omega) (by omega)))
    have O0 := Lib.hid hown
    have X0 := Lib.hid (And.intro htw (And.intro hbl hg))
    have RN := Lib.hid (own_rng hown)
    have HK := Lib.hid hk
    have c0 := htw.c0
    have c1 := htw.c1
    have L0 : Hid ((ci (fl i)).length = 3 * i) := (by simp [ci, fl_len] : (ci (fl i)).length = 3 * i)
    clear hown htw hbl hg
    obtain ⟨nk, hnk⟩ : ∃ nk : Int, (n : Int) + 1 = nk := ⟨_, rfl⟩
    have qn : IntKind.i64.wrap ((n : Int) + 1) = nk := by rw [hnk]; simp [IntKind.wrap_i64]; have := HN.out.1; omega
    have HNK := Lib.hid hnk
    clear hk hnk
    by_cases hil : i < n
    · have S2 := Lib.hid (fun w => step_is n 2 k 3 3 k true w (by rw [← HK.out]; exact st_fail (by have := HN.out.1; omega) (by omega)))
      have S3 := Lib.hid (fun w => step_is n 3 k 4 1 k true w (by rw [← HK.out]; exact st_rest (by have := HN.out.1; omega) (by omega)))
      have e1 : ((i : Int) == (n : Int)) = false := tst (by omega)
      go_wp2_with fail
      refine (S1.out _).mono ?_
      rintro _ w2 ⟨rfl, hw⟩
      have G2 := Lib.hid (X0.out.2.2.trans hw)
      have Z2 := Lib.hid (Below.size hw)
      have E2 := Lib.hid hw
      have O2 := Lib.hid (ownsRow_frm O0.out (hw.frm (fun _ => False)) (fun _ _ e => e))
      obtain ⟨d, hd⟩ : ∃ d, w2.heap.size = d := ⟨_, rfl⟩
      have T2 : Hid (Two (w2.alloc (.cells #[.int .i64 2, .int .i64 k] 23)) d (.int .i64 2) (.int .i64 k)) := (by rw [← hd]; exact Two.new _ _ _ _ : Two (w2.alloc (.cells #[.int .i64 2, .int .i64 k] 23)) d (.int .i64 2) (.int .i64 k))
      have D2 := Lib.hid hd
      clear hw c0 c1
      unfold tv
      go_wp2_with fail
      refine (S2.out _).mono ?_
      rintro _ w3 ⟨rfl, hw⟩
      have G3 := Lib.hid ((G2.out.alloc _).trans hw)
      have E3 := Lib.hid ((E2.out.alloc _).trans hw)
      have Z3 := Lib.hid (show d < w3.heap.size by have := Below.size hw; have := D2.out; simp [go_sem] at *; omega)
      have O3 := Lib.hid (ownsRow_frm (O2.out.alloc (.cells #[.int .i64 2, .int .i64 k] 23)) (hw.frm (fun _ => False)) (fun _ _ e => e))
      have T3 := Lib.hid (T2.out.later hw (by have := D2.out; simp [go_sem]; omega))
      have T3' := Lib.hid (fun o => T3.out.later ((Grw.rfl' w3).alloc o) Z3.out)
      obtain ⟨d', hd'⟩ : ∃ d', w3.heap.size = d' := ⟨_, rfl⟩
      obtain ⟨w4, hw4⟩ : ∃ w4, w3.alloc (.cells #[.int .i64 3, .int .i64 k] 23) = w4 := ⟨_, rfl⟩
      have T4 : Hid (Two w4 d' (.int .i64 3) (.int .i64 k)) := (by rw [← hd', ← hw4]; exact Two.new _ _ _ _ : Two w4 d' (.int .i64 3) (.int .i64 k))
      have Z4 : Hid (w4.heap.size = d' + 1) := (by rw [← hd', ← hw4, size_new] : w4.heap.size = d' + 1)
      have ZD : Hid (wr.heap.size ≤ d ∧ d < d') := (by have := Z2.out; have := D2.out; have := Z3.out; omega : wr.heap.size ≤ d ∧ d < d')
      have O4 : Hid (w4.ownsRow (b + 1) 3 1 u6 (3 * i) (ci (fl i))) := (by rw [← hw4]; exact O3.out.alloc _ : w4.ownsRow (b + 1) 3 1 u6 (3 * i) (ci (fl i)))
      have G4 : Hid (Grw w w4) := (by rw [← hw4]; exact G3.out.alloc _ : Grw w w4)
      have E4 : Hid (Grw wr w4) := (by rw [← hw4]; exact E3.out.alloc _ : Grw wr w4)
      have T4' : Hid (Two w4 d (.int .i64 2) (.int .i64 k)) := (by rw [← hw4]; exact T3'.out _ : Two w4 d (.int .i64 2) (.int .i64 k))
      have c0 := T4'.out.c0
      have c1 := T4'.out.c1
      have O5 := Lib.hid (O4.out.alloc (.cells #[.int .i64 1, .int .i64 3] 3))
      have G5 := Lib.hid (G4.out.alloc (.cells #[.int .i64 1, .int .i64 3] 3))
      have T5 := Lib.hid (T4.out.later ((Grw.rfl' w4).alloc (.cells #[.int .i64 1, .int .i64 3] 3)) (by have := Z4.out; omega))
      have N5 := Lib.hid (laid_at w4 [1, 3])
      have hb5 : b + 1 ≤ (w4.alloc (.cells #[.int .i64 1, .int .i64 3] 3)).heap.size := by have := X0.out.2.1; have := Z4.out; have := ZD.out; simp [go_sem]; omega
      have HB5 := Lib.hid hb5
      obtain ⟨M, hM⟩ : ∃ M, 3 * i + 2 = M := ⟨_, rfl⟩
      have HM := Lib.hid hM
      have IC := Lib.hid (int_cells [1, 3])
      have h9 := HN.out.1
      clear hw hd hb5 hM
      unfold tv
      go_wp2_with (at_builtin; refine wpList_append_own _ rfl _ _ 24 rfl (b + 1) 3 i0 (.int .i64 0) 1 8 Try.underlying24 hi hz0 hz1 hz2 rfl (by decide) _ _ _ rfl O5.out ⟨w4.heap.size, 0, none⟩ 2 2 (ci [1, 3]) rfl rfl N5.out IC.out (by unfold maxLen; omega) (by omega) HB5.out ?_)
      clear hd' hw4
      intro v5 w5 hrow hgb _
      have G6 := Lib.hid (grow_row G5.out hgb O5.out (by have := HB.out; omega))
      have T6 := Lib.hid (T5.out.frm (grownBy_frm hgb) (fun e => by have := RN.out d' e; have := ZD.out; omega))
      have Z6 : Hid (d' < w5.heap.size) := (World.block_lt_of_cell? _ _ T6.out.c0 : d' < w5.heap.size)
      rw [← ci_app, HM.out] at hrow
      have O6 := Lib.hid hrow
      have TB5 := Lib.hid ((X0.out.1.later (E4.out.alloc (.cells #[.int .i64 1, .int .i64 3] 3)) (by have := X0.out.2.1; omega)).frm (grownBy_frm hgb) (fun e => by have := RN.out b e; omega))
      clear hrow hgb c0 c1
      have c0 := T6.out.c0
      have c1 := T6.out.c1
      go_wp2_with fail
      refine (S3.out _).mono ?_
      rintro _ w6 ⟨rfl, hw⟩
      have G7 := Lib.hid (G6.out.trans hw)
      have O7 := Lib.hid (ownsRow_frm O6.out (hw.frm (fun _ => False)) (fun _ _ e => e))
      have T7 := T6.out.later hw Z6.out
      have Z7 := Lib.hid (Nat.lt_of_lt_of_le Z6.out (Below.size hw))
      have hbd := World.block_lt_of_cell? _ _ TB5.out.c0
      simp only at hbd
      have hbe := Nat.lt_of_lt_of_le hbd (Below.size hw)
      have TB6 := Lib.hid (TB5.out.later hw hbd)
      have T8 := Lib.hid (fun o => T7.later ((Grw.rfl' w6).alloc o) Z7.out)
      have c0 : ∀ o, (w6.alloc o).cell? ⟨d', 0, none⟩ = some (.int .i64 3) := fun o => (T8.out o).c0
      have c1 : ∀ o, (w6.alloc o).cell? ⟨d', 1, none⟩ = some (.int .i64 k) := fun o => (T8.out o).c1
      obtain ⟨e, he⟩ : ∃ e, w6.heap.size = e := ⟨_, rfl⟩
      obtain ⟨w7, hw7⟩ : ∃ w7, w6.alloc (.cells #[.int .i64 1, .int .i64 k] 23) = w7 := ⟨_, rfl⟩
      have TE : Hid (Two w7 e (.int .i64 1) (.int .i64 k)) := (by rw [← he, ← hw7]; exact Two.new _ _ _ _ : Two w7 e (.int .i64 1) (.int .i64 k))
      have ZE : Hid (w7.heap.size = e + 1) := (by rw [← he, ← hw7, size_new] : w7.heap.size = e + 1)
      have TB7 : Hid (Two w7 b (.int .i64 1) (.int .i64 (i : Nat))) := (by rw [← hw7]; exact TB6.out.later ((Grw.rfl' _).alloc _) hbe : Two w7 b (.int .i64 1) (.int .i64 (i : Nat)))
      have O8 : Hid (w7.ownsRow (b + 1) 3 1 v5 M (ci (fl i ++ [1, 3]))) := (by rw [← hw7]; exact O7.out.alloc _ : w7.ownsRow (b + 1) 3 1 v5 M (ci (fl i ++ [1, 3])))
      have G8 : Hid (Grw w w7) := (by rw [← hw7]; exact G7.out.alloc _ : Grw w w7)
      have RM : Hid (∀ q, v5.ownBlock = some q → b + 1 ≤ q ∧ q < e) := (fun q h => by
        have h1 := own_rng O7.out q h
        rw [he] at h1
        exact h1 : ∀ q, v5.ownBlock = some q → b + 1 ≤ q ∧ q < e)
      have O9 := Lib.hid (O8.out.alloc (.cells #[.int .i64 4] 3))
      have G9 := Lib.hid (G8.out.alloc (.cells #[.int .i64 4] 3))
      have N9 := Lib.hid (laid_at w7 [4])
      have IC4 := Lib.hid (int_cells [4])
      have hb9 : b + 1 ≤ (w7.alloc (.cells #[.int .i64 4] 3)).heap.size := by have := ZE.out; simp [go_sem]; omega
      have HB9 := Lib.hid hb9
      have x0 : w7.cell? ⟨d', 0, none⟩ = some (.int .i64 3) := by rw [← hw7]; exact c0 _
      have y0 := TE.out.c0
      have y1 := TE.out.c1
      have hM9 : M ≤ 40 := by have := HM.out; omega
      clear hw T7 hbd hb9 c0 c1 hbe
      unfold tv
      go_wp2_with (at_builtin; refine wpList_append_own _ rfl _ _ 24 rfl (b + 1) 3 i0 (.int .i64 0) 1 8 Try.underlying24 hi hz0 hz1 hz2 rfl (by decide) _ _ _ rfl O9.out ⟨w7.heap.size, 0, none⟩ 1 1 (ci [4]) rfl rfl N9.out IC4.out (by unfold maxLen; omega) (by omega) HB9.out ?_)
      clear he hw7 x0 y0 y1
      intro v6 w8 hrow hgb _
      have GA := Lib.hid (grow_row G9.out hgb O9.out (by have := HB.out; omega))
      have TE8 := (TE.out.later ((Grw.rfl' w7).alloc (.cells #[.int .i64 4] 3)) (by have := ZE.out; omega)).frm (grownBy_frm hgb) (fun h => by have := RM.out e h; omega)
      have TB8 := (TB7.out.later ((Grw.rfl' w7).alloc (.cells #[.int .i64 4] 3)) (World.block_lt_of_cell? _ _ TB7.out.c0)).frm (grownBy_frm hgb) (fun h => by have := RM.out b h; omega)
      rw [← ci_app] at hrow
      have OA := Lib.hid hrow
      have TB9 := Lib.hid TB8
      have c0 := TE8.c0
      have c1 := TE8.c1
      have d0 := TB8.c0
      have d1 := TB8.c1
      have d2 := TB8.f0
      have d3 := TB8.f1
      have Z9 : Hid (b + 1 ≤ w8.heap.size) := (by have := World.block_lt_of_cell? _ _ d0; simp only at this; omega : b + 1 ≤ w8.heap.size)
      clear hrow hgb TE8 TB8
      go_wp2_with fail
      go_roundw
      case rel => exact ⟨i + 1, by omega, by rw [← HK.out]; first | rfl | go_num, by
          have h1 : M + 1 = 3 * (i + 1) := by have := HM.out; omega
          have h2 : fl (i + 1) = fl i ++ [1, 3] ++ [4] := by rw [List.append_assoc]; rfl
          rw [← h1, h2]
          exact ownsRow_frm OA.out ((frm_set (F := fun q => q = b) w8 ⟨b, 0, none⟩ (.int .i64 1) rfl).set ⟨b, 1, none⟩ (.int .i64 k) (Or.inl rfl)) (fun q h h' => by have := own_rng OA.out q h; omega), by
          have h1 : ((i + 1 : Nat) : Int) = k := by rw [← HK.out]; rfl
          rw [h1]
          exact TB9.out.set2 _ _, by have := Z9.out; simp [go_sem]; omega, (GA.out.set (Nat.le_of_eq HB.out) _).set (Nat.le_of_eq HB.out) _⟩
      case measure => have := HK.out; simp [intOf]; omega
    · obtain rfl : i = n := by omega
      have S2 := Lib.hid (fun w => step_is i 2 k 3 5 k true w (by rw [← HK.out]; exact st_dead (by have := HN.out.1; omega) rfl))
      have e1 : ((i : Int) == (i : Int)) = true := by simp
      go_wp2_with fail
      refine (S1.out _).mono ?_
      rintro _ w2 ⟨rfl, hw⟩
      have G2 := Lib.hid (X0.out.2.2.trans hw)
      have Z2 := Lib.hid (Below.size hw)
      have O2 := Lib.hid (ownsRow_frm O0.out (hw.frm (fun _ => False)) (fun _ _ e => e))
      obtain ⟨d, hd⟩ : ∃ d, w2.heap.size = d := ⟨_, rfl⟩
      have T2 : Hid (Two (w2.alloc (.cells #[.int .i64 2, .int .i64 k] 23)) d (.int .i64 2) (.int .i64 k)) := (by rw [← hd]; exact Two.new _ _ _ _ : Two (w2.alloc (.cells #[.int .i64 2, .int .i64 k] 23)) d (.int .i64 2) (.int .i64 k))
      have D2 := Lib.hid hd
      clear hw c0 c1
      unfold tv
      go_wp2_with fail
      refine (S2.out _).mono ?_
      rintro _ w3 ⟨rfl, hw⟩
      have G3 := Lib.hid ((G2.out.alloc _).trans hw)
      have Z3 := Lib.hid (show d < w3.heap.size by have := Below.size hw; have := D2.out; simp [go_sem] at *; omega)
      have O3 := Lib.hid (ownsRow_frm (O2.out.alloc (.cells #[.int .i64 2, .int .i64 k] 23)) (hw.frm (fun _ => False)) (fun _ _ e => e))
      have T3 := Lib.hid (T2.out.later hw (by have := D2.out; simp [go_sem]; omega))
      have T3' := Lib.hid (fun o => T3.out.later ((Grw.rfl' w3).alloc o) Z3.out)
      obtain ⟨d', hd'⟩ : ∃ d', w3.heap.size = d' := ⟨_, rfl⟩
      obtain ⟨w4, hw4⟩ : ∃ w4, w3.alloc (.cells #[.int .i64 5, .int .i64 k] 23) = w4 := ⟨_, rfl⟩
      have T4 : Hid (Two w4 d' (.int .i64 5) (.int .i64 k)) := (by rw [← hd', ← hw4]; exact Two.new _ _ _ _ : Two w4 d' (.int .i64 5) (.int .i64 k))
      have Z4 : Hid (w4.heap.size = d' + 1) := (by rw [← hd', ← hw4, size_new] : w4.heap.size = d' + 1)
      have ZD : Hid (wr.heap.size ≤ d ∧ d < d') := (by have := Z2.out; have := D2.out; have := Z3.out; omega : wr.heap.size ≤ d ∧ d < d')
      have O4 : Hid (w4.ownsRow (b + 1) 3 1 u6 (3 * i) (ci (fl i))) := (by rw [← hw4]; exact O3.out.alloc _ : w4.ownsRow (b + 1) 3 1 u6 (3 * i) (ci (fl i)))
      have G4 : Hid (Grw w w4) := (by rw [← hw4]; exact G3.out.alloc _ : Grw w w4)
      have T4' : Hid (Two w4 d (.int .i64 2) (.int .i64 k)) := (by rw [← hw4]; exact T3'.out _ : Two w4 d (.int .i64 2) (.int .i64 k))
      have c0 := T4'.out.c0
      have c1 := T4'.out.c1
      have O5 := Lib.hid (O4.out.alloc (.cells #[.int .i64 1, .int .i64 3] 3))
      have G5 := Lib.hid (G4.out.alloc (.cells #[.int .i64 1, .int .i64 3] 3))
      have T5 := Lib.hid (T4.out.later ((Grw.rfl' w4).alloc (.cells #[.int .i64 1, .int .i64 3] 3)) (by have := Z4.out; omega))
      have N5 := Lib.hid (laid_at w4 [1, 3])
      have hb5 : b + 1 ≤ (w4.alloc (.cells #[.int .i64 1, .int .i64 3] 3)).heap.size := by have := X0.out.2.1; have := Z4.out; have := ZD.out; simp [go_sem]; omega
      have HB5 := Lib.hid hb5
      obtain ⟨M, hM⟩ : ∃ M, 3 * i + 2 = M := ⟨_, rfl⟩
      have HM := Lib.hid hM
      have IC := Lib.hid (int_cells [1, 3])
      have h9 := HN.out.1
      clear hw hd hb5 hM
      unfold tv
      go_wp2_with (at_builtin; refine wpList_append_own _ rfl _ _ 24 rfl (b + 1) 3 i0 (.int .i64 0) 1 8 Try.underlying24 hi hz0 hz1 hz2 rfl (by decide) _ _ _ rfl O5.out ⟨w4.heap.size, 0, none⟩ 2 2 (ci [1, 3]) rfl rfl N5.out IC.out (by unfold maxLen; omega) (by omega) HB5.out ?_)
      clear hd' hw4
      intro v5 w5 hrow hgb _
      have G6 := Lib.hid (grow_row G5.out hgb O5.out (by have := HB.out; omega))
      have T6 := Lib.hid (T5.out.frm (grownBy_frm hgb) (fun e => by have := RN.out d' e; have := ZD.out; omega))
      have Z6 : Hid (d' < w5.heap.size) := (World.block_lt_of_cell? _ _ T6.out.c0 : d' < w5.heap.size)
      rw [← ci_app, HM.out] at hrow
      obtain ⟨ao, cap, rfl, hlies⟩ := ownsRow_lies hrow
      have R := Lib.hid (fun (w' : World) (hw : w' = w5) => run_is i 1 0 ao M cap (fl i ++ [1, 3]) 5 k 0 w' (hw ▸ hlies) (by rw [List.length_append, fl_len]; exact HM.out) (by rw [List.length_append, fl_len]; simp; omega) (by rw [← HK.out]; exact fl_dead i (by omega) rfl))
      obtain rfl : nk = k := by rw [← HNK.out, ← HK.out]
      have e3 : (f == (M : Int)) = true := by have := HN.out.2; have := HM.out; simp; omega
      clear hrow hgb hlies c0 c1
      go_wp2_with fail
      refine (R.out _ rfl).mono ?_
      rintro _ w6 ⟨rfl, hw⟩
      have G7 := Lib.hid (G6.out.trans hw)
      have T7 := T6.out.later hw Z6.out
      have T8 := Lib.hid (fun o => T7.later ((Grw.rfl' w6).alloc o) (Nat.lt_of_lt_of_le Z6.out (Below.size hw)))
      have c0 : ∀ o, (w6.alloc o).cell? ⟨d', 0, none⟩ = some (.int .i64 5) := fun o => (T8.out o).c0
      have c1 : ∀ o, (w6.alloc o).cell? ⟨d', 1, none⟩ = some (.int .i64 nk) := fun o => (T8.out o).c1
      clear hw T7
      go_wp2_with fail
      refine (WK.out _).mono ?_
      rintro _ w7 ⟨rfl, hw⟩
      have G8 := Lib.hid ((G7.out.alloc _).trans hw)
      clear hw c0 c1
      go_wp2_with fail
      go_ret
      exact ⟨rfl, G8.out⟩
end Go.Proofs.Ytfpadikoplgflaa
