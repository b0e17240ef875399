/- The document's Cancel that finds. -/
import Derived.Test.YtjkhgpdhhnfmlaaRh
namespace Go.Proofs.Ytjkhgpdhhnfmlaa
open Go.RowKit
open RG (Du)
open PM
set_option linter.unusedSimpArgs false

set_option maxHeartbeats 8000000 in
set_option maxRecDepth 100000 in
theorem rcancel_yes (ob off cap : Nat) (L : List Du) (n k : Nat) (id : Int) (w : World) (hl : Lies w (some ⟨ob, off, none⟩) (cd L)) (hb : L.length ≤ 100000) (hn : L.length = n) (hnc : n ≤ cap) (hg : gdB L = true) (hf : fx L id = (k : Int)) (hkn : k < n) :
    Calls Try.prog 12 #[.slice (some ⟨ob, off, none⟩) n cap, .int .i64 id] w fun e w' => ∃ v, e = .returned (.agg #[v, .bool true]) ∧ RowD w' v (L.take k ++ L.drop (k + 1)) ∧ Grw w w' := by
  have LI := Lib.hid hl
  have A := Lib.hid (fun x (q : Grw w x) => rfind_is (some ⟨ob, off, none⟩) cap L n id k x (LI.out.later q) (by omega) hn hf)
  have B := Lib.hid (fun x (q : Grw w x) => rgood_is (some ⟨ob, off, none⟩) cap L n x (LI.out.later q) (by omega) hn)
  rw [hg] at B
  obtain ⟨Z, hZ⟩ : ∃ Z, w.heap.size = Z := ⟨_, rfl⟩
  have G0 := Lib.hid ((Grw.rfl' w).alloc (.cells #[.slice none 0 0, .bool false] 33))
  have T0 : Hid (Two (w.alloc (.cells #[.slice none 0 0, .bool false] 33)) Z (.slice none 0 0) (.bool false)) := (by rw [← hZ]; exact Two.new w _ _ 33 : Two (w.alloc (.cells #[.slice none 0 0, .bool false] 33)) Z (.slice none 0 0) (.bool false))
  have HN := Lib.hid hn
  have HBL := Lib.hid hb
  obtain ⟨m, hm⟩ : ∃ m, k + 1 + m = n := ⟨n - (k + 1), by omega⟩
  have HM := Lib.hid hm
  obtain ⟨K, hK⟩ : ∃ K, k + 1 = K := ⟨_, rfl⟩
  have q1 : IntKind.i64.wrap ((k : Int) + 1) = (K : Int) := by rw [← hK]; simp [IntKind.wrap_i64]; omega
  have HK := Lib.hid hK
  have d0 : decide ((k : Int) < 0) = false := by simp
  have hs0 : K ≤ n := by omega
  have hs3 : k ≤ K := by omega
  clear hl hg hf hn hm hK hb
  go_enter Try.func12, Try.ntmps12
  go_wp2_with fail
  refine (A.out _ G0.out).mono ?_
  rintro _ w1 ⟨rfl, h1⟩
  have G1 := Lib.hid (G0.out.trans h1)
  have T1 := Lib.hid (T0.out.later h1 (by rw [size_new, ← hZ]; omega))
  clear h1
  go_wp2_with fail
  refine (B.out _ G1.out).mono ?_
  rintro _ w2 ⟨rfl, h2⟩
  have T2 := Lib.hid (T1.out.later h2 (World.block_lt_of_cell? _ _ T1.out.c0))
  have G2 := Lib.hid (G1.out.trans h2)
  have ZZ : Hid (Z < w2.heap.size) := (World.block_lt_of_cell? _ _ T2.out.c0 : Z < w2.heap.size)
  have LI2 := LI.out.later G2.out
  clear h2
  go_upto_region 4 with fail
  by_cases hck : cap = K
  · obtain rfl : n = K := by omega
    subst hck
    clear hs0
    obtain ⟨v1, u1, v2, u2, r1, r2, g1, g2, o2⟩ := cp_drop w2 (w2.drew.alloc (.cells #[] 25)) ob off cap cap k (cap - (k + 1)) L (((Grw.rfl' w2).drew).alloc _) (heap_alloc_new w2.drew _) LI2 HN.out (by have := HK.out; have := HM.out; omega) hnc (by have := HN.out; have := HBL.out; omega) ⟨ob, off, none⟩ 0 (by rw [if_pos (by rw [HK.out])])
    obtain ⟨N2, hN2⟩ : ∃ N2, k + (cap - (k + 1)) = N2 := ⟨_, rfl⟩
    rw [hN2] at o2
    obtain ⟨ao2, cap2, hv2, l2⟩ := ownsRow_lies o2
    subst hv2
    have LE : (L.take k ++ L.drop (k + 1)).length = N2 := by rw [List.length_append, List.length_take, List.length_drop, HN.out]; have := HK.out; have := HM.out; omega
    have TU := (T2.out.later g2 (by have := ZZ.out; exact this))
    have c0 := TU.c0
    have c1 := TU.c1
    have f0 := TU.f0
    have f1 := TU.f1
    have HZ2 := Lib.hid hZ
    have LF := Lib.hid (And.intro (l2.frm ((frm_set (F := fun q => q = Z) u2 ⟨Z, 0, none⟩ (.slice ao2 N2 cap2) rfl).set ⟨Z, 1, none⟩ (.bool true) (Or.inl rfl)) (fun a e c => by
      have h3 := o2.lt a.block (by rw [e]; rfl)
      have h4 := ZZ.out
      have h5 : a.block = Z := c
      omega)) (And.intro LE (G2.out.trans g2)))
    replace r1 : (Builtin.append_ #[22, 22] 22 #[.slice (some ⟨w2.heap.size, 0, none⟩) 0 0, .slice (some ⟨ob, off, none⟩) k cap]).run Try.prog (w2.alloc (.cells #[] 25)).drew = .ok v1 u1 := r1
    rw [HK.out, Nat.sub_self] at r2
    clear LI2 g1 g2 l2 LE hN2 o2 TU hZ
    go_region_law (first | (refine step_append_run rfl (.tmp 17) (.tmp 20) 22 rfl _ _ (by simp [Act.eval, Act.put]) (by simp [Act.eval, Act.put]) r1 ?_) | (refine step_append_run rfl (.tmp 21) (.tmp 25) 22 rfl _ _ (by simp [Act.eval, Act.put]) (by simp [Act.eval, Act.put]) r2 ?_))
    all_goals
      go_wp2_with fail
      exact bodyPost_ret (v := .agg #[.slice ao2 N2 cap2, .bool true]) (by simp [results, Try.results12, go_sem, c0, c1]) rfl ⟨_, rfl, ⟨ao2, cap2, by rw [LF.out.2.1], LF.out.1⟩, by repeat (first | exact LF.out.2.2 | (with_reducible refine Grw.set ?_ ?_ _; rotate_left; exact Nat.le_of_eq HZ2.out))⟩
  · have hs1 : k ≤ cap := by omega
    obtain ⟨v1, u1, v2, u2, r1, r2, g1, g2, o2⟩ := cp_drop w2 (w2.drew.alloc (.cells #[] 25)) ob off cap n k (n - (k + 1)) L (((Grw.rfl' w2).drew).alloc _) (heap_alloc_new w2.drew _) LI2 HN.out (by have := HK.out; have := HM.out; omega) hnc (by have := HN.out; have := HBL.out; omega) ⟨ob, off + (k + 1) * 2, none⟩ (cap - (k + 1)) (by rw [if_neg (by rw [HK.out]; exact hck)])
    obtain ⟨N2, hN2⟩ : ∃ N2, k + (n - (k + 1)) = N2 := ⟨_, rfl⟩
    rw [hN2] at o2
    obtain ⟨ao2, cap2, hv2, l2⟩ := ownsRow_lies o2
    subst hv2
    have LE : (L.take k ++ L.drop (k + 1)).length = N2 := by rw [List.length_append, List.length_take, List.length_drop, HN.out]; have := HK.out; have := HM.out; omega
    have TU := (T2.out.later g2 (by have := ZZ.out; exact this))
    have c0 := TU.c0
    have c1 := TU.c1
    have f0 := TU.f0
    have f1 := TU.f1
    have HZ2 := Lib.hid hZ
    have LF := Lib.hid (And.intro (l2.frm ((frm_set (F := fun q => q = Z) u2 ⟨Z, 0, none⟩ (.slice ao2 N2 cap2) rfl).set ⟨Z, 1, none⟩ (.bool true) (Or.inl rfl)) (fun a e c => by
      have h3 := o2.lt a.block (by rw [e]; rfl)
      have h4 := ZZ.out
      have h5 : a.block = Z := c
      omega)) (And.intro LE (G2.out.trans g2)))
    replace r1 : (Builtin.append_ #[22, 22] 22 #[.slice (some ⟨w2.heap.size, 0, none⟩) 0 0, .slice (some ⟨ob, off, none⟩) k cap]).run Try.prog (w2.alloc (.cells #[] 25)).drew = .ok v1 u1 := r1
    rw [HK.out] at r2
    clear LI2 g1 g2 l2 LE hN2 o2 TU hZ
    go_region_law (first | (refine step_append_run rfl (.tmp 17) (.tmp 20) 22 rfl _ _ (by simp [Act.eval, Act.put]) (by simp [Act.eval, Act.put]) r1 ?_) | (refine step_append_run rfl (.tmp 21) (.tmp 25) 22 rfl _ _ (by simp [Act.eval, Act.put]) (by simp [Act.eval, Act.put]) r2 ?_))
    all_goals
      go_wp2_with fail
      exact bodyPost_ret (v := .agg #[.slice ao2 N2 cap2, .bool true]) (by simp [results, Try.results12, go_sem, c0, c1]) rfl ⟨_, rfl, ⟨ao2, cap2, by rw [LF.out.2.1], LF.out.1⟩, by repeat (first | exact LF.out.2.2 | (with_reducible refine Grw.set ?_ ?_ _; rotate_left; exact Nat.le_of_eq HZ2.out))⟩
end Go.Proofs.Ytjkhgpdhhnfmlaa
