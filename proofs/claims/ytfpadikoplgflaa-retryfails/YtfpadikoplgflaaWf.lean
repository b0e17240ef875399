/- The contract of retry.Run at this program. -/
import Derived.Test.YtfpadikoplgflaaWe
namespace Go.Proofs.Ytfpadikoplgflaa
open Go.RowKit
set_option linter.unusedSimpArgs false

/-- numbers as cells. -/
def ci (l : List Int) : List Value := l.map (.int .i64)
theorem ci_at {l : List Int} {k : Nat} (h : k < l.length) : (ci l)[k]? = some (.int .i64 l[k]) := by
  simp [ci, List.getElem?_map, List.getElem?_eq_getElem h]
theorem ilies_at {w : World} {ao : Option Addr} {l : List Int} {k : Nat} (h : Lies w ao (ci l)) (hk : k < l.length) :
    ∃ b off, ao = some ⟨b, off, none⟩ ∧ w.cell? ⟨b, off + k, none⟩ = some (.int .i64 l[k]) := by
  rcases h with h | ⟨b, off, e, _, hc⟩
  · have : l = [] := by simpa [ci] using h
    subst this
    simp at hk
  · exact ⟨b, off, e, hc k _ (ci_at hk)⟩
theorem Two.set2 {w : World} {b : Nat} {c0 c1 : Value} (t : Two w b c0 c1) (u v : Value) : Two ((w.setCell ⟨b, 0, none⟩ u).setCell ⟨b, 1, none⟩ v) b u v :=
  ⟨by simp [go_sem, t.c0, t.c1], by simp [go_sem, t.c0, t.c1], by simp [go_sem, t.f0, t.f1], by simp [go_sem, t.f0, t.f1]⟩
theorem Two.apart {w : World} {b d : Nat} {c0 c1 : Value} (t : Two w d c0 c1) (h : d ≠ b) (u v : Value) : Two ((w.setCell ⟨b, 0, none⟩ u).setCell ⟨b, 1, none⟩ v) d c0 c1 := by
  have ff : Frm (fun k => k = b) w ((w.setCell ⟨b, 0, none⟩ u).setCell ⟨b, 1, none⟩ v) := (frm_set (F := fun k => k = b) w ⟨b, 0, none⟩ u rfl).set ⟨b, 1, none⟩ v (Or.inl rfl)
  refine ⟨ff.cell t.c0 h, ff.cell t.c1 h, ?_, ?_⟩
  · simp [go_sem, t.f0]
  · simp [go_sem, t.f1]
def fo (n s u : Int) (l : List Int) (k : Nat) : Int × Int × Nat := (l.take k).foldl (one n) (s, u, 0)
theorem fo_out (n s u : Int) (l : List Int) (k : Nat) : (fo n s u l k).2.2 ≤ l.length := by
  have := rn_out n (l.take k) (s, u, 0)
  unfold fo
  simp only [List.length_take] at this
  omega
theorem fo_yes {n s u : Int} {l : List Int} {k : Nat} (h : k < l.length) {a b a' b' : Int} {o : Nat} (hf : fo n s u l k = (a, b, o)) (hs : st n a b l[k] = (a', b', true)) : fo n s u l (k + 1) = (a', b', o) := by
  unfold fo at hf ⊢
  rw [fold_next h, hf]
  unfold one
  rw [hs]; simp
theorem fo_no {n s u : Int} {l : List Int} {k : Nat} (h : k < l.length) {a b a' b' : Int} {o : Nat} (hf : fo n s u l k = (a, b, o)) (hs : st n a b l[k] = (a', b', false)) : fo n s u l (k + 1) = (a, b, o + 1) := by
  unfold fo at hf ⊢
  rw [fold_next h, hf]
  unfold one
  simp only
  rw [hs]; simp

set_option maxHeartbeats 2000000 in
set_option maxRecDepth 100000 in
theorem run_bad (n s u : Int) (ao : Option Addr) (m cap : Nat) (w : World) (h : gd n s u = false) :
    Calls Try.prog 15 #[.int .i64 n, .agg #[.int .i64 s, .int .i64 u], .slice ao m cap] w fun e w' => e = .returned (.tuple #[.agg #[.int .i64 0, .int .i64 0], .int .i64 (m : Nat)]) ∧ Grw w w' := by
  have C := Lib.hid (fun w => good_is n s u false w h)
  obtain ⟨t1, t2⟩ := two_boxes w (.int .i64 s) (.int .i64 u) (.int .i64 0) (.int .i64 0) 23 23
  have T2 := Lib.hid t2
  have GG := Lib.hid (((Grw.rfl' w).alloc (.cells #[.int .i64 s, .int .i64 u] 23)).alloc (.cells #[.int .i64 0, .int .i64 0] 23))
  clear h t1 t2
  go_enter Try.func15, Try.ntmps15
  go_wp2_with fail
  refine (C.out _).mono ?_
  rintro _ w1 ⟨rfl, hw⟩
  have G := Lib.hid (GG.out.trans hw)
  have u2 := T2.out.later hw (by simp [go_sem])
  have d0 := u2.c0
  have d1 := u2.c1
  have f0 := u2.f0
  have f1 := u2.f1
  clear hw u2
  go_wp2_with fail
  exact bodyPost_ret (v := .tuple #[.agg #[.int .i64 0, .int .i64 0], .int .i64 (m : Nat)]) (by simp [results, Try.results15, go_sem, d0, d1]) rfl ⟨rfl, by repeat (first | with_reducible exact G.out | with_reducible refine Grw.set ?_ (by simp [go_sem]) _)⟩
set_option maxHeartbeats 2000000 in
set_option maxRecDepth 100000 in
theorem run_good (n s u : Int) (ao : Option Addr) (m cap : Nat) (l : List Int) (a b : Int) (o : Nat) (w : World) (hl : Lies w ao (ci l)) (hm : l.length = m) (hb : l.length ≤ 1000000) (h : gd n s u = true) (hr : l.foldl (one n) (s, u, 0) = (a, b, o)) :
    Calls Try.prog 15 #[.int .i64 n, .agg #[.int .i64 s, .int .i64 u], .slice ao m cap] w fun e w' => e = .returned (.tuple #[.agg #[.int .i64 a, .int .i64 b], .int .i64 (o : Nat)]) ∧ Grw w w' := by
  have C := Lib.hid (fun w => good_is n s u true w h)
  obtain ⟨t1, t2⟩ := two_boxes w (.int .i64 s) (.int .i64 u) (.int .i64 0) (.int .i64 0) 23 23
  have T1 := Lib.hid t1
  have T2 := Lib.hid t2
  have GG := Lib.hid (((Grw.rfl' w).alloc (.cells #[.int .i64 s, .int .i64 u] 23)).alloc (.cells #[.int .i64 0, .int .i64 0] 23))
  have LI := Lib.hid hl
  have HR := Lib.hid hr
  have HN := Lib.hid (And.intro hm hb)
  clear h t1 t2 hl hr hm hb
  go_enter Try.func15, Try.ntmps15
  go_wp2_with fail
  refine (C.out _).mono ?_
  rintro _ w1 ⟨rfl, hw⟩
  have G := Lib.hid (GG.out.trans hw)
  have u1 := Lib.hid (T1.out.later hw (by simp [go_sem]))
  have u2 := Lib.hid (T2.out.later hw (by simp [go_sem]))
  have HZ := Lib.hid (show w.heap.size + 1 < w1.heap.size by have := Below.size hw; simp [go_sem] at this; omega)
  clear hw
  go_wp2_with fail
  go_loopw [8, 22] (fun x y wr => ∃ (k : Nat) (c d : Int) (e : Nat), k ≤ m ∧ fo n s u l k = (c, d, e) ∧ x = .int .i64 (e : Nat) ∧ y = .int .i64 (k : Nat) ∧ Two wr w.heap.size (.int .i64 c) (.int .i64 d) ∧ Two wr (w.heap.size + 1) (.int .i64 0) (.int .i64 0) ∧ w.heap.size + 1 < wr.heap.size ∧ Grw w wr) (fun _ y _ => m - (intOf y).toNat)
  case atStart => exact ⟨0, s, u, 0, Nat.zero_le _, rfl, rfl, rfl, u1.out, u2.out, HZ.out, G.out⟩
  case round =>
    obtain ⟨k, c, d, e, hk, hfo, rfl, rfl, ht1, ht2, hz, hg⟩ := hrel
    have GR := Lib.hid hg
    have E1 := Lib.hid ht1
    have E2 := Lib.hid ht2
    have EZ := Lib.hid hz
    have FO := Lib.hid hfo
    have c0 := ht1.c0
    have c1 := ht1.c1
    by_cases hkm : k < m
    · have hki : (k : Int) < (m : Int) := by omega
      have hkl : k < l.length := by rw [HN.out.1]; exact hkm
      obtain ⟨bb, off, rfl, x0⟩ := ilies_at (LI.out.later hg) hkl
      obtain ⟨x, hx⟩ : ∃ x, l[k] = x := ⟨_, rfl⟩
      rw [hx] at x0
      obtain ⟨p, hp⟩ : ∃ p, st n c d x = p := ⟨_, rfl⟩
      obtain ⟨a', b', ok⟩ := p
      have S := Lib.hid (fun w => step_is n c d x a' b' ok w hp)
      have HX := Lib.hid hx
      have HP := Lib.hid hp
      have he : e ≤ l.length := by have := fo_out n s u l k; rw [hfo] at this; exact this
      have q1 : IntKind.i64.wrap ((e : Int) + 1) = ((e + 1 : Nat) : Int) := by have := HN.out.2; simp [IntKind.wrap_i64]; omega
      have q2 : IntKind.i64.wrap ((k : Int) + 1) = ((k + 1 : Nat) : Int) := by have := HN.out; simp [IntKind.wrap_i64]; omega
      clear ht1 ht2 hz hg hfo hx hp he
      cases ok with
      | true =>
        go_wp2_with fail
        refine (S.out _).mono ?_
        rintro _ w2 ⟨rfl, hw⟩
        have v1 := E1.out.later hw (by have := EZ.out; omega)
        have v2 := E2.out.later hw EZ.out
        have hz2 := Nat.lt_of_lt_of_le EZ.out (Below.size hw)
        have GA : ∀ o, Grw w2 (w2.alloc o) := fun o => (Grw.rfl' w2).alloc o
        have V1 := Lib.hid (fun o => v1.later (GA o) (by omega))
        have V2 := Lib.hid (fun o => v2.later (GA o) hz2)
        have G2 := Lib.hid (GR.out.trans hw)
        have Z2 := Lib.hid hz2
        clear c0 c1 x0
        have c0 : ∀ o, (w2.alloc o).cell? ⟨w.heap.size, 0, none⟩ = some (.int .i64 c) := fun o => (V1.out o).c0
        have c1 : ∀ o, (w2.alloc o).cell? ⟨w.heap.size, 1, none⟩ = some (.int .i64 d) := fun o => (V1.out o).c1
        have f0 : ∀ o, (w2.alloc o).frozen? ⟨w.heap.size, 0, none⟩ = false := fun o => (V1.out o).f0
        have f1 : ∀ o, (w2.alloc o).frozen? ⟨w.heap.size, 1, none⟩ = false := fun o => (V1.out o).f1
        clear hw v1 v2 hz2 GA
        unfold tv
        go_wp2_with fail
        go_roundw
        case rel => exact ⟨k + 1, a', b', e, by omega, fo_yes (by rw [HN.out.1]; exact hkm) FO.out (by rw [HX.out]; exact HP.out), rfl, by first | rfl | go_num, (V1.out _).set2 _ _, (V2.out _).apart (by omega) _ _, by have := Z2.out; simp [go_sem]; omega, ((G2.out.alloc _).set (Nat.le_refl _) _).set (Nat.le_refl _) _⟩
        case measure => simp [intOf]; omega
      | false =>
        go_wp2_with fail
        refine (S.out _).mono ?_
        rintro _ w2 ⟨rfl, hw⟩
        have HW := Lib.hid hw
        clear hw c0 c1 x0
        unfold tv
        go_wp2_with fail
        go_roundw
        case rel => exact ⟨k + 1, c, d, e + 1, by omega, fo_no (by rw [HN.out.1]; exact hkm) FO.out (by rw [HX.out]; exact HP.out), by first | rfl | go_num, by first | rfl | go_num, (E1.out.later HW.out (by have := EZ.out; omega)).later ((Grw.rfl' _).alloc _) (by have := EZ.out; have := Below.size HW.out; omega), (E2.out.later HW.out EZ.out).later ((Grw.rfl' _).alloc _) (by have := EZ.out; have := Below.size HW.out; omega), by have := EZ.out; have := Below.size HW.out; simp [go_sem]; omega, (GR.out.trans HW.out).alloc _⟩
        case measure => simp [intOf]; omega
    · have hki : ¬ (k : Int) < (m : Int) := by omega
      obtain rfl : m = k := by omega
      have hfe : (c, d, e) = (a, b, o) := by
        rw [← hfo, ← HR.out]
        unfold fo
        rw [List.take_of_length_le (by rw [HN.out.1]; exact Nat.le_refl _)]
      injection hfe with h1 h2
      injection h2 with h2 h3
      subst h1 h2 h3
      have d0 := ht2.c0
      have d1 := ht2.c1
      have f0 := ht2.f0
      have f1 := ht2.f1
      clear ht1 ht2 hz hg hfo
      go_wp2_with fail
      exact bodyPost_ret (v := .tuple #[.agg #[.int .i64 c, .int .i64 d], .int .i64 (e : Nat)]) (by simp [results, Try.results15, go_sem, d0, d1]) rfl ⟨rfl, by repeat (first | with_reducible exact GR.out | with_reducible refine Grw.set ?_ (by simp [go_sem]) _)⟩
theorem run_is (n s u : Int) (ao : Option Addr) (m cap : Nat) (l : List Int) (a b : Int) (o : Nat) (w : World) (hl : Lies w ao (ci l)) (hm : l.length = m) (hb : l.length ≤ 1000000) (hr : rn n s u l = (a, b, o)) :
    Calls Try.prog 15 #[.int .i64 n, .agg #[.int .i64 s, .int .i64 u], .slice ao m cap] w fun e w' => e = .returned (.tuple #[.agg #[.int .i64 a, .int .i64 b], .int .i64 (o : Nat)]) ∧ Grw w w' := by
  unfold rn at hr
  cases hg : gd n s u with
  | false =>
    rw [hg] at hr
    simp only [if_true] at hr
    injection hr with h1 hr
    injection hr with h2 h3
    subst h1 h2 h3
    rw [hm]
    exact run_bad n s u ao m cap w hg
  | true =>
    rw [hg] at hr
    simp only [Bool.true_eq_false, if_false] at hr
    exact run_good n s u ao m cap l a b o w hl hm hb hg hr
end Go.Proofs.Ytfpadikoplgflaa
