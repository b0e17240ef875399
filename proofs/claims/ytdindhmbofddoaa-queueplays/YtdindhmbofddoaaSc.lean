/- sort.choosePivot and what it calls, at the queue's line. -/
import Derived.Test.YtdindhmbofddoaaSa
namespace Go.Proofs.Ytdindhmbofddoaa
open Go.RowKit
set_option linter.unusedSimpArgs false

/-- the count of exchanges in block q. -/
structure SC (w : World) (q : Nat) (s : Nat) : Prop where
  c : w.cell? ⟨q, 0, none⟩ = some (.int .i64 s)
  f : w.frozen? ⟨q, 0, none⟩ = false
theorem SC.later {w x : World} {q s : Nat} (h : SC w q s) (g : Grw w x) : SC x q s := ⟨g.cell h.c, frz_frm (g.frm (fun _ => False)) h.c (fun e => e) h.f⟩
theorem SC.set {w : World} {q s : Nat} (h : SC w q s) (t : Nat) : SC (w.setCell ⟨q, 0, none⟩ (.int .i64 t)) q t := ⟨World.cell?_setCell_same (u := _) _ _ _ h.c, by simp [h.f]⟩
/-- a step that reads the line and counts. -/
structure SQ (b o : Nat) (a : Int) (g cap : Nat) (l : List Wt) (q s k : Nat) (w w' : World) : Prop where
  r : LR b o a g cap w' l
  f : Frm (fun k => k = q) w w'
  s : ∃ s', s' ≤ s + k ∧ SC w' q s'
set_option maxHeartbeats 1000000 in
set_option maxRecDepth 100000 in
theorem order2_is (b o : Nat) (a : Int) (g cap i j q s : Nat) (l : List Wt) (w : World) (h : LR b o a g cap w l) (hi : i < l.length) (hj : j < l.length) (hs : SC w q s) (h1 : s ≤ 100) (hb : q ≠ b) (hg : q ≠ g) :
    Calls Try.prog 63 #[.iface 62 (.pointer (some ⟨b, o, none⟩)), .int .i64 i, .int .i64 j, .pointer (some ⟨q, 0, none⟩)] w fun e w' => ∃ x y : Nat, e = .returned (.tuple #[.int .i64 x, .int .i64 y]) ∧ ((x = i ∧ y = j) ∨ (x = j ∧ y = i)) ∧ SQ b o a g cap l q s 1 w w' := by
  have H := Lib.hid h
  have S := Lib.hid hs
  have mL := sl_less b o
  obtain ⟨t, ht⟩ : ∃ t, les a (gt l j) (gt l i) = t := ⟨_, rfl⟩
  have C := Lib.hid (less_at b o a g cap l j i t w h hj hi ht)
  have HN := Lib.hid (And.intro hb hg)
  clear h hs ht hb hg
  cases t with
  | false =>
    go_enter Try.func63, Try.ntmps63
    go_wp2_with fail
    refine C.out.mono ?_
    rintro _ w1 ⟨rfl, hw⟩
    have G := Lib.hid hw
    clear hw
    go_wp2_with fail
    exact bodyPost_ret (v := .tuple #[.int .i64 i, .int .i64 j]) (by simp [results, Try.results63, go_sem]) rfl ⟨i, j, rfl, Or.inl ⟨rfl, rfl⟩, H.out.keep (G.out.frm (fun _ => False)) (fun e => e) (fun e => e), G.out.frm _, s, by omega, S.out.later G.out⟩
  | true =>
    go_enter Try.func63, Try.ntmps63
    go_wp2_with fail
    refine C.out.mono ?_
    rintro _ w1 ⟨rfl, hw⟩
    have G := Lib.hid hw
    have S1 := Lib.hid (S.out.later hw)
    have c1 := S1.out.c
    have f1 := S1.out.f
    have q1 : IntKind.i64.wrap ((s : Int) + 1) = ((s + 1 : Nat) : Int) := by simp [IntKind.wrap_i64]; omega
    obtain ⟨s1, hs1⟩ : ∃ s1, s + 1 = s1 := ⟨_, rfl⟩
    have HS := Lib.hid hs1
    rw [hs1] at q1
    clear hw hs1
    go_wp2_with fail
    have f2 : Frm (fun k => k = q) w (w1.setCell ⟨q, 0, none⟩ (.int .i64 s1)) := (G.out.frm (fun k => k = q)).set _ _ (Or.inl rfl)
    exact bodyPost_ret (v := .tuple #[.int .i64 j, .int .i64 i]) (by simp [results, Try.results63, go_sem]) rfl ⟨j, i, rfl, Or.inr ⟨rfl, rfl⟩, H.out.keep f2 (fun e => HN.out.1 e.symm) (fun e => HN.out.2 e.symm), f2, s1, by have := HS.out; omega, S1.out.set s1⟩
set_option maxHeartbeats 1000000 in
set_option maxRecDepth 100000 in
theorem median_is (b o : Nat) (a : Int) (g cap i j k q s : Nat) (l : List Wt) (w : World) (h : LR b o a g cap w l) (hi : i < l.length) (hj : j < l.length) (hk : k < l.length) (hs : SC w q s) (h1 : s ≤ 90) (hb : q ≠ b) (hg : q ≠ g) :
    Calls Try.prog 61 #[.iface 62 (.pointer (some ⟨b, o, none⟩)), .int .i64 i, .int .i64 j, .int .i64 k, .pointer (some ⟨q, 0, none⟩)] w fun e w' => ∃ x : Nat, e = .returned (.int .i64 x) ∧ (x = i ∨ x = j ∨ x = k) ∧ SQ b o a g cap l q s 3 w w' := by
  have H := Lib.hid h
  have S := Lib.hid hs
  have HL := Lib.hid (And.intro hi (And.intro hj hk))
  have HN := Lib.hid (And.intro hb hg)
  clear h hs hb hg hi hj hk
  go_enter Try.func61, Try.ntmps61
  go_wp2_with fail
  refine (order2_is b o a g cap i j q s l w H.out HL.out.1 HL.out.2.1 S.out (by omega) HN.out.1 HN.out.2).mono ?_
  rintro _ w1 ⟨x1, y1, rfl, hx, hq⟩
  have Q1 := Lib.hid hq
  obtain ⟨s1, hs1, c1⟩ := hq.s
  have C1 := Lib.hid c1
  have X1 := Lib.hid hx
  clear hq c1 hx
  go_wp2_with fail
  refine (order2_is b o a g cap y1 k q s1 l w1 Q1.out.r (by have := X1.out; have := HL.out; omega) HL.out.2.2 C1.out (by omega) HN.out.1 HN.out.2).mono ?_
  rintro _ w2 ⟨x2, y2, rfl, hx, hq⟩
  have Q2 := Lib.hid hq
  obtain ⟨s2, hs2, c2⟩ := hq.s
  have C2 := Lib.hid c2
  have X2 := Lib.hid hx
  clear hq c2 hx
  go_wp2_with fail
  refine (order2_is b o a g cap x1 x2 q s2 l w2 Q2.out.r (by have := X1.out; have := HL.out; omega) (by have := X1.out; have := X2.out; have := HL.out; omega) C2.out (by omega) HN.out.1 HN.out.2).mono ?_
  rintro _ w3 ⟨x3, y3, rfl, hx, hq⟩
  have Q3 := Lib.hid hq
  obtain ⟨s3, hs3, c3⟩ := hq.s
  have C3 := Lib.hid c3
  have X3 := Lib.hid hx
  clear hq c3 hx
  go_wp2_with fail
  go_ret
  exact ⟨y3, rfl, by have := X1.out; have := X2.out; have := X3.out; omega, Q3.out.r, (Q1.out.f.trans Q2.out.f (fun _ e => Or.inl e)).trans Q3.out.f (fun _ e => Or.inl e), s3, by omega, C3.out⟩
set_option maxHeartbeats 1000000 in
set_option maxRecDepth 100000 in
theorem adjacent_is (b o : Nat) (a : Int) (g cap i q s : Nat) (l : List Wt) (w : World) (h : LR b o a g cap w l) (h0 : 1 ≤ i) (hi : i + 1 < l.length) (hl : l.length ≤ 1000000) (hs : SC w q s) (h1 : s ≤ 90) (hb : q ≠ b) (hg : q ≠ g) :
    Calls Try.prog 60 #[.iface 62 (.pointer (some ⟨b, o, none⟩)), .int .i64 i, .pointer (some ⟨q, 0, none⟩)] w fun e w' => ∃ x : Nat, e = .returned (.int .i64 x) ∧ (i ≤ x + 1 ∧ x ≤ i + 1) ∧ SQ b o a g cap l q s 3 w w' := by
  have q1 : IntKind.i64.wrap ((i : Int) + 1) = ((i + 1 : Nat) : Int) := by simp [IntKind.wrap_i64]; omega
  have q2 : IntKind.i64.wrap ((i : Int) - 1) = ((i - 1 : Nat) : Int) := by simp [IntKind.wrap_i64]; omega
  have M := Lib.hid (median_is b o a g cap (i - 1) i (i + 1) q s l w h (by omega) (by omega) hi hs h1 hb hg)
  obtain ⟨i1, hi1⟩ : ∃ c, i + 1 = c := ⟨_, rfl⟩
  obtain ⟨i2, hi2⟩ : ∃ c, i - 1 = c := ⟨_, rfl⟩
  have N := Lib.hid (And.intro hi1 hi2)
  rw [hi1] at q1 M
  rw [hi2] at q2 M
  clear h hs hi1 hi2
  go_enter Try.func60, Try.ntmps60
  go_wp2_with fail
  refine M.out.mono ?_
  rintro _ w1 ⟨x, rfl, hx, hq⟩
  have Q := Lib.hid (And.intro hx hq)
  clear hx hq
  go_wp2_with fail
  go_ret
  exact ⟨x, rfl, by have := Q.out.1; have := N.out; omega, Q.out.2⟩
end Go.Proofs.Ytdindhmbofddoaa
