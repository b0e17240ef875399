/- A table made since w0; the law's wakes. -/
import Derived.Test.YtoejmopppkjaoaaTd
namespace Go.Proofs.Ytoejmopppkjaoaa
open Go.RowKit
set_option linter.unusedSimpArgs false

theorem m_new (w0 w : World) (g : Grw w0 w) : Calls Try.prog 8 #[] w fun e w' => ∃ p mb jb, e = .returned (.pointer (some ⟨p, 0, none⟩)) ∧ TM w0 w' p mb jb 0 [] :=
  (new_is w).mono fun _ _ ⟨p, mb, jb, he, h⟩ => ⟨p, mb, jb, he, h.t, g.trans h.g, fun k hk => Nat.le_trans (Below.size g) (h.new k hk)⟩
theorem m_grant {w0 w : World} {p mb jb last : Nat} {L : List Gr} (h : TM w0 w p mb jb last L) (j : Int) (u m : Nat) (hm : last + 1 = m) (wj : Wi j) (wu : u < 18446744073709551616) (hj : byJ L j = none) (ht : last < 1000000) :
    Calls Try.prog 10 #[.pointer (some ⟨p, 0, none⟩), .int .i64 j, .int .u64 (u : Nat)] w fun e w' => e = .returned (.tuple #[.int .i64 (m : Nat), .int .i64 0]) ∧ TM w0 w' p mb jb m (L ++ [⟨m, j, u⟩]) ∧ Frm (tf p mb jb) w w' :=
  (grant_yes h.t j u m hm wj wu hj ht).mono fun _ _ ⟨he, t, f⟩ => ⟨he, h.step t f, f⟩
theorem m_drop {w0 w : World} {p mb jb last : Nat} {L : List Gr} (h : TM w0 w p mb jb last L) (i : Int) (hi : Wi i) {g : Gr} (hn : byN L i = some g) :
    Calls Try.prog 12 #[.pointer (some ⟨p, 0, none⟩), .int .i64 i] w fun e w' => e = .returned (.tuple #[.int .i64 g.j, .bool true]) ∧ TM w0 w' p mb jb last (off [g] L) ∧ Frm (tf p mb jb) w w' :=
  (drop_yes h.t i hi hn).mono fun _ _ ⟨he, t, f⟩ => ⟨he, h.step t f, f⟩
theorem m_over {w0 w : World} {p mb jb last : Nat} {L : List Gr} (h : TM w0 w p mb jb last L) (t : Nat) :
    Calls Try.prog 15 #[.pointer (some ⟨p, 0, none⟩), .int .u64 (t : Nat)] w fun e w' => ∃ v, e = .returned v ∧ Told w w' v (ov t L) ∧ TM w0 w' p mb jb last (lf t L) ∧ Frm (tf p mb jb) w w' :=
  (over_is h.t t).mono fun _ _ ⟨v, he, tl, tb, f⟩ => ⟨v, he, tl, h.step tb f, f⟩
theorem wi_small (n : Int) (h : -9223372036854775808 ≤ n) (h2 : n ≤ 9223372036854775807) : Wi n := ⟨h, h2⟩
set_option maxHeartbeats 1000000 in
set_option maxRecDepth 100000 in
theorem wakes_any (w : World) : Calls Try.prog 23 #[] w fun e w' => e = .returned (.bool true) ∧ Grw w w' := by
  go_enter Try.func23, Try.ntmps23
  go_wp2_with fail
  refine (m_new w w (Grw.rfl' w)).mono ?_
  rintro _ w1 ⟨p, mb, jb, rfl, m1⟩
  have M1 := Lib.hid m1
  clear m1
  go_wp2_with fail
  refine (m_grant M1.out 7 20 1 rfl (wi_small 7 (by decide) (by decide)) (by decide) rfl (by decide)).mono ?_
  rintro _ w2 ⟨rfl, m2, _⟩
  have M2 := Lib.hid (show TM w w2 p mb jb 1 [⟨1, 7, 20⟩] from m2)
  clear m2
  go_wp2_with fail
  refine (grant_twice M2.out.t 7 30 (wi_small 7 (by decide) (by decide)) rfl).mono ?_
  rintro _ w3 ⟨rfl, rfl⟩
  go_wp2_with fail
  refine (m_over M2.out 20).mono ?_
  rintro _ w4 ⟨v, rfl, ⟨ao, cap, rfl, hl, hb⟩, m4, _⟩
  have M4 := Lib.hid (show TM w w4 p mb jb 1 [] from m4)
  have e1 : ov 20 [⟨1, 7, 20⟩] = [⟨1, 7, 20⟩] := rfl
  rw [e1] at hl
  obtain ⟨b, o, rfl, c0, c1, c2⟩ := glies_at hl (show 0 < [(⟨1, 7, 20⟩ : Gr)].length from Nat.zero_lt_one)
  have C := Lib.hid (And.intro c0 (And.intro c1 c2))
  have NB : Hid (¬ tf p mb jb b) := (fun e => by have h1 := M2.out.t.lt b e; have h2 := hb _ rfl; simp only at h2; omega : ¬ tf p mb jb b)
  clear m4 e1 c0 c1 c2 hl hb
  simp only [show (ov 20 [⟨1, 7, 20⟩]).length = 1 from rfl]
  go_wp2_with fail
  refine (m_grant M4.out 7 40 2 rfl (wi_small 7 (by decide) (by decide)) (by decide) rfl (by decide)).mono ?_
  rintro _ w5 ⟨rfl, m5, f5⟩
  have M5 := Lib.hid m5
  have c0 := f5.cell C.out.1 NB.out
  have c1 := f5.cell C.out.2.1 NB.out
  have c2 := f5.cell C.out.2.2 NB.out
  simp only [List.getElem_cons_zero, Nat.zero_mul, Nat.add_zero] at c0 c1 c2
  clear m5 f5
  go_wp2_with fail
  go_ret
  exact ⟨rfl, M5.out.g⟩
end Go.Proofs.Ytoejmopppkjaoaa
