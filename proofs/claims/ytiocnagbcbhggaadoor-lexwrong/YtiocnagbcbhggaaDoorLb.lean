/- LexJoins, walked. -/
import Derived.Test.YtiocnagbcbhggaaDoorLa
import Derived.Laws.OwnMore
namespace Go.Proofs.YtiocnagbcbhggaaDoor
open Go.RowKit SM
set_option linter.unusedSimpArgs false
set_option linter.unusedVariables false

theorem lx_pad (a : List UInt8) : lx (32 :: 32 :: (a ++ [32])) = lx a := by
  rw [lx_blank, lx_blank, lx_join, lx_nil]
  by_cases h : (lx a).2 = 0
  · simp only [h, ne_eq, not_true_eq_false, if_false, List.append_nil]
    exact Prod.ext rfl h.symm
  · simp only [h, ne_eq, not_false_eq_true, if_true]
    exact Prod.ext (lx_err a h).symm rfl
theorem own_none {w : World} {B n cap m : Nat} {xs : List Value} (h : w.ownsRow B 35 2 (.slice none n cap) m xs) : n = 0 ∧ cap = 0 := by
  rcases h.2 with ⟨h1, _⟩ | ⟨g, c, cur, h1, _⟩
  · injection h1 with _ h1 h2; exact ⟨h1, h2⟩
  · injection h1 with h1 _ _; cases h1
theorem wpList_append_run {P : Program} (w : World) {ops : Array Oper} {rest : List Oper} {o : Oper} {a : Act} {Q : Exit → Act → World → Prop} (hgd : Region.wanted o (yielded ops a.tmps) = true) (s x : Operand) (t : TypeId)
    (ho : o.op = .call { callee := .builtin .append, args := #[s, x], argTypes := #[t, t] }) (vs vx : Value) (hs : a.eval s = vs) (hx : a.eval x = vx) (v' : Value) (w' : World)
    (hr : (Builtin.append_ #[t, t] o.type #[vs, vx]).run P w = .ok v' w') (h : wpList P ops Q rest (a.put o.dst v') w') : wpList P ops Q (o :: rest) a w := by
  refine wpList_step fun K hK => ?_
  rw [if_pos hgd]
  unfold Oper.wp execOp
  simp only [ho, resolve, invoke, builtin, Sem.run_bind, Sem.run_pure, Result.andThen_ok, List.map_toArray, List.map_cons, List.map_nil, hs, hx, hr]
  exact hK _ _ h
set_option maxRecDepth 100000 in
theorem app_any (base n m cap : Nat) (v : Value) (xs : List Value) (ao : Option Addr) (L : List Sg) (u : World) (hb : u.ownsRow base 35 2 v n xs) (hl : Lies u ao (cz L)) (hm : L.length = m) (hz : ao = none → m = 0 ∧ cap = 0) (hL : n + m ≤ 1000000) (hbase : base ≤ u.heap.size) :
    ∃ v1 u1, (Builtin.append_ #[22, 22] 22 #[v, .slice ao m cap]).run Tryd.prog u = .ok v1 u1 ∧ u1.ownsRow base 35 2 v1 (n + m) (xs ++ cz L) ∧ u.grownBy u1 v.ownBlock := by
  obtain ⟨i0, hi, hz0, hz1, hz2⟩ := info_parts Tryd.info35
  cases ao with
  | none =>
    obtain ⟨rfl, rfl⟩ := hz rfl
    have e : L = [] := List.eq_nil_of_length_eq_zero hm
    subst e
    have hr := run_append_owned_none (P := Tryd.prog) (w := u) base 22 22 35 i0 2 Tryd.underlying22 hi v n xs hb
    exact ⟨_, _, hr, by simpa [cz] using hb, ⟨rfl, rfl, rfl, Nat.le_refl _, fun _ _ _ => rfl⟩⟩
  | some ad =>
    have C : ∀ j x, (cz L)[j]? = some x → u.cell? (ad.add j) = some x := fun j x hj => by
      rcases hl with h | ⟨b', off, e, _, hc⟩
      · rw [h] at hj; cases hj
      · injection e with e
        subst e
        rw [Addr.add_lit]
        exact hc j x hj
    obtain ⟨v1, u1, h1, h2, h3, _⟩ := run_append_own (P := Tryd.prog) u base 22 22 35 i0 _ 2 16 Tryd.underlying22 hi hz0 hz1 hz2 rfl (by decide) v n xs hb ad m cap (cz L) (by rw [cz_len, hm]) C (cz_one L) (by unfold maxLen; omega) (by omega) hbase
    exact ⟨v1, u1, h1, h2, h3⟩
theorem empty_row (u : World) (b B : Nat) (hb : B ≤ b) (h : u.heap[b]? = some (.cells #[] 35)) : u.ownsRow B 35 2 (.slice (some ⟨b, 0, none⟩) 0 0) 0 [] :=
  ⟨rfl, .inr ⟨b, 0, _, rfl, hb, h, Nat.le_refl _, by unfold maxLen; omega, rfl, rfl⟩⟩
/-- append(append([]Sign{}, x...), y...). -/
theorem app_two (w : World) (ao bo : Option Addr) (ca cb n m : Nat) (X Y : List Sg) (hx : Lies w ao (cz X)) (hy : Lies w bo (cz Y)) (hn : X.length = n) (hm : Y.length = m) (zx : ao = none → n = 0 ∧ ca = 0) (zy : bo = none → m = 0 ∧ cb = 0) (hL : n + m ≤ 1000000) :
    ∃ v1 u1 ro rc u2, (Builtin.append_ #[22, 22] 22 #[.slice (some ⟨w.heap.size, 0, none⟩) 0 0, .slice ao n ca]).run Tryd.prog (w.alloc (.cells #[] 35)) = .ok v1 u1 ∧ (Builtin.append_ #[22, 22] 22 #[v1, .slice bo m cb]).run Tryd.prog u1 = .ok (.slice ro (n + m) rc) u2 ∧
      Grw w u2 ∧ Lies u2 ro (cz (X ++ Y)) := by
  have g0 : Grw w (w.alloc (.cells #[] 35)) := (Grw.rfl' w).alloc _
  obtain ⟨v1, u1, r1, o1, b1⟩ := app_any w.heap.size 0 n ca (.slice (some ⟨w.heap.size, 0, none⟩) 0 0) [] ao X (w.alloc (.cells #[] 35)) (empty_row _ _ _ (Nat.le_refl _) (heap_new w _)) (hx.later g0) hn zx (by omega) (by rw [size_new]; omega)
  have g1 : Grw w u1 := (grownBy_frm b1).grw g0 (fun k e => by injection e with e; rw [← e]; exact Nat.le_refl _)
  obtain ⟨v2, u2, r2, o2, b2⟩ := app_any w.heap.size (0 + n) m cb v1 ([] ++ cz X) bo Y u1 o1 (hy.later g1) hm zy (by omega) (Below.size g1)
  obtain ⟨ro, rc, rfl, hl⟩ := ownsRow_lies o2
  refine ⟨v1, u1, ro, rc, u2, r1, by simpa using r2, (grownBy_frm b2).grw g1 (fun k e => (o1.lt k e).1), ?_⟩
  rw [cz_app]
  simpa using hl

set_option maxHeartbeats 8000000 in
set_option maxRecDepth 100000 in
theorem joins_walk (a b : ByteArray) (w : World) (t : Mks w) (tt : Tab w) (hza : a.size ≤ 9223372036854775807) (hzb : b.size ≤ 9223372036854775807) (hab : a.size + b.size + 4 ≤ 60) :
    Calls Tryd.prog 5 #[.string a, .string b] w fun e w' => e = .returned (.bool true) ∧ Grw w w' := by
  have q1 : (((⟨#[32]⟩ : ByteArray).size : Nat) : Int) = 1 := by rw [size_len]; simp
  have q2 : (((⟨#[32, 32]⟩ : ByteArray).size : Nat) : Int) = 2 := by rw [size_len]; simp
  have la : a.data.toList.length ≤ 60 := by rw [← size_len]; omega
  have lb : b.data.toList.length ≤ 60 := by rw [← size_len]; omega
  obtain ⟨X, hX⟩ : ∃ X, (lx a.data.toList).1 = X := ⟨_, rfl⟩
  obtain ⟨x2, hx2⟩ : ∃ x2, (lx a.data.toList).2 = x2 := ⟨_, rfl⟩
  obtain ⟨Y, hY⟩ : ∃ Y, (lx b.data.toList).1 = Y := ⟨_, rfl⟩
  obtain ⟨y2, hy2⟩ : ∃ y2, (lx b.data.toList).2 = y2 := ⟨_, rfl⟩
  have ea : lx a.data.toList = (X, x2) := Prod.ext hX hx2
  have eb : lx b.data.toList = (Y, y2) := Prod.ext hY hy2
  have lX := lx_len a.data.toList
  have lY := lx_len b.data.toList
  rw [hX] at lX
  rw [hY] at lY
  obtain ⟨n, hn⟩ : ∃ n, X.length = n := ⟨_, rfl⟩
  obtain ⟨m, hm⟩ : ∃ m, Y.length = m := ⟨_, rfl⟩
  rw [hn] at lX
  rw [hm] at lY
  have ej := lx_join a.data.toList b.data.toList
  rw [ea, eb] at ej
  simp only at ej
  have L1 := Lib.hid (fun w t => lex_at a (X, x2) n w t (by rw [lq_short la, ea]) hn)
  have L2 := Lib.hid (fun w t => lex_at b (Y, y2) m w t (by rw [lq_short lb, eb]) hm)
  have L4 := Lib.hid (fun w t => lex_at (⟨#[32, 32]⟩ ++ a ++ ⟨#[32]⟩) (X, x2) n w t (by
    have e : (⟨#[32, 32]⟩ ++ a ++ ⟨#[32]⟩ : ByteArray).data.toList = 32 :: 32 :: (a.data.toList ++ [32]) := by rw [ba_app, ba_app]; simp
    rw [e, lq_short (by simp only [List.length_append, List.length_cons, List.length_nil]; rw [← size_len]; omega), lx_pad, ea]) hn)
  have e3 : (a ++ ⟨#[32]⟩ ++ b).data.toList = a.data.toList ++ 32 :: b.data.toList := by rw [ba_app, ba_app]; simp
  have l3 : (a.data.toList ++ 32 :: b.data.toList).length ≤ 60 := by simp only [List.length_append, List.length_cons]; rw [← size_len, ← size_len]; omega
  have HT := Lib.hid t
  have HTT := Lib.hid tt
  have HN := Lib.hid hn
  have HM := Lib.hid hm
  have za : (a.size : Int) ≤ 60 := by omega
  have zb : (b.size : Int) ≤ 60 := by omega
  have zab : (a.size : Int) + b.size + 4 ≤ 60 := by omega
  have n60 : n ≤ 60 := by omega
  have m60 : m ≤ 60 := by omega
  by_cases x0 : x2 = 0
  · subst x0
    by_cases y0 : y2 = 0
    · subst y0
      have L3 := Lib.hid (fun w t => lex_at (a ++ ⟨#[32]⟩ ++ b) (X ++ Y, 0) (n + m) w t (by rw [e3, lq_short l3, ej]; rfl) (by simp [hn, hm]))
      have HL : Hid ((X ++ Y).length = n + m) := Lib.hid (by simp [hn, hm])
      clear t tt hX hx2 hY hy2 ea eb lX lY ej la lb e3 l3 hn hm hab hza hzb
      go_enter Tryd.func5, Tryd.ntmps5
      go_wp2_with fail
      with_reducible refine (L1.out _ HT.out).mono ?_
      rintro _ w1 ⟨a1, c1, rfl, o1, l1, h1⟩
      have G1 := Lib.hid h1
      have OX := Lib.hid o1
      have LX := Lib.hid l1
      clear h1 o1 l1
      go_wp2_with fail
      with_reducible refine (L2.out _ (mks_grw G1.out HT.out)).mono ?_
      rintro _ w2 ⟨a2, c2, rfl, o2, l2, h2⟩
      have G2 := Lib.hid (G1.out.trans h2)
      replace LX := Lib.hid (LX.out.later h2)
      have OY := Lib.hid o2
      have LY := Lib.hid l2
      clear h2 o2 l2
      go_wp2_with fail
      with_reducible refine (L3.out _ (mks_grw G2.out HT.out)).mono ?_
      rintro _ w3 ⟨a3, c3, rfl, _, l3, h3⟩
      have G3 := Lib.hid (G2.out.trans h3)
      replace LX := Lib.hid (LX.out.later h3)
      replace LY := Lib.hid (LY.out.later h3)
      have LZ := Lib.hid l3
      clear h3 l3
      go_wp2_with fail
      with_reducible refine (L4.out _ (mks_grw G3.out HT.out)).mono ?_
      rintro _ w4 ⟨a4, c4, rfl, _, l4, h4⟩
      have G4 := Lib.hid (G3.out.trans h4)
      replace LX := Lib.hid (LX.out.later h4)
      replace LY := Lib.hid (LY.out.later h4)
      replace LZ := Lib.hid (LZ.out.later h4)
      have S1 := Lib.hid (signs_same a4 a1 c4 c1 n (X.map up) w4 (by omega) (by rw [List.length_map]; exact HN.out) l4 LX.out)
      clear h4 l4
      go_wp2_with fail
      with_reducible refine S1.out.mono ?_
      rintro _ w5 ⟨rfl, h5⟩
      have G5 := Lib.hid (G4.out.trans h5)
      replace LX := Lib.hid (LX.out.later h5)
      replace LY := Lib.hid (LY.out.later h5)
      replace LZ := Lib.hid (LZ.out.later h5)
      obtain ⟨v1, u1, ro, rc, u2, r1, r2, g6, lr⟩ := app_two w5 a1 a2 c1 c2 n m X Y (by rw [← cs_up]; exact LX.out) (by rw [← cs_up]; exact LY.out) HN.out HM.out (fun e => by subst e; exact own_none OX.out) (fun e => by subst e; exact own_none OY.out) (by omega)
      have R1 := Lib.hid r1
      have R2 := Lib.hid r2
      have G6 := Lib.hid (G5.out.trans g6)
      have S2 := Lib.hid (signs_same a3 ro c3 rc (n + m) ((X ++ Y).map up) u2 (by omega) (by rw [List.length_map]; exact HL.out) (LZ.out.later g6) (by rw [cs_up]; exact lr))
      clear h5 r1 r2 g6 lr L1 L2 L3 L4 S1
      go_wp2_with (at_builtin; first | refine wpList_append_run _ rfl _ _ _ rfl _ _ rfl rfl _ _ R1.out ?_ | refine wpList_append_run _ rfl _ _ _ rfl _ _ rfl rfl _ _ R2.out ?_)
      with_reducible refine S2.out.mono ?_
      rintro _ w7 ⟨rfl, h7⟩
      have G7 := Lib.hid (G6.out.trans h7)
      have WK := Lib.hid (wakes_any w7 (mks_grw G7.out HT.out) (tab_grw G7.out HTT.out))
      clear h7
      go_wp2_with fail
      with_reducible refine WK.out.mono ?_
      rintro _ w8 ⟨rfl, h8⟩
      go_wp2_with fail
      go_ret
      exact ⟨rfl, G7.out.trans h8⟩
    · have yi : ((y2 : Int) != 0) = true := by simp; omega
      have yj : ((y2 : Int) == 0) = false := by simp; omega
      have yk : ¬ (y2 : Int) = 0 := by omega
      have L3 := Lib.hid (fun w t => lex_at (a ++ ⟨#[32]⟩ ++ b) ([], y2) 0 w t (by rw [e3, lq_short l3, ej]; simp [y0]) rfl)
      clear t tt hX hx2 hY hy2 ea eb lX lY ej la lb e3 l3 hn hm hab hza hzb y0
      go_enter Tryd.func5, Tryd.ntmps5
      go_wp2_with fail
      with_reducible refine (L1.out _ HT.out).mono ?_
      rintro _ w1 ⟨a1, c1, rfl, _, l1, h1⟩
      have G1 := Lib.hid h1
      have LX := Lib.hid l1
      clear h1 l1
      go_wp2_with fail
      with_reducible refine (L2.out _ (mks_grw G1.out HT.out)).mono ?_
      rintro _ w2 ⟨a2, c2, rfl, _, _, h2⟩
      have G2 := Lib.hid (G1.out.trans h2)
      replace LX := Lib.hid (LX.out.later h2)
      clear h2
      go_wp2_with fail
      with_reducible refine (L3.out _ (mks_grw G2.out HT.out)).mono ?_
      rintro _ w3 ⟨a3, c3, rfl, _, _, h3⟩
      have G3 := Lib.hid (G2.out.trans h3)
      replace LX := Lib.hid (LX.out.later h3)
      clear h3
      go_wp2_with fail
      with_reducible refine (L4.out _ (mks_grw G3.out HT.out)).mono ?_
      rintro _ w4 ⟨a4, c4, rfl, _, l4, h4⟩
      have G4 := Lib.hid (G3.out.trans h4)
      replace LX := Lib.hid (LX.out.later h4)
      have S1 := Lib.hid (signs_same a4 a1 c4 c1 n (X.map up) w4 (by omega) (by rw [List.length_map]; exact HN.out) l4 LX.out)
      clear h4 l4
      go_wp2_with fail
      with_reducible refine S1.out.mono ?_
      rintro _ w5 ⟨rfl, h5⟩
      have G5 := Lib.hid (G4.out.trans h5)
      have WK := Lib.hid (wakes_any w5 (mks_grw G5.out HT.out) (tab_grw G5.out HTT.out))
      clear h5
      go_wp2_with fail
      with_reducible refine WK.out.mono ?_
      rintro _ w8 ⟨rfl, h8⟩
      go_wp2_with fail
      go_ret
      exact ⟨rfl, G5.out.trans h8⟩
  · have xi : ((x2 : Int) != 0) = true := by simp; omega
    have xj : ((x2 : Int) == 0) = false := by simp; omega
    have xk : ¬ (x2 : Int) = 0 := by omega
    have L3 := Lib.hid (fun w t => lex_at (a ++ ⟨#[32]⟩ ++ b) ([], x2) 0 w t (by rw [e3, lq_short l3, ej]; simp [x0]) rfl)
    clear t tt hX hx2 hY hy2 ea eb lX lY ej la lb e3 l3 hn hm hab hza hzb x0
    go_enter Tryd.func5, Tryd.ntmps5
    go_wp2_with fail
    with_reducible refine (L1.out _ HT.out).mono ?_
    rintro _ w1 ⟨a1, c1, rfl, _, l1, h1⟩
    have G1 := Lib.hid h1
    have LX := Lib.hid l1
    clear h1 l1
    go_wp2_with fail
    with_reducible refine (L2.out _ (mks_grw G1.out HT.out)).mono ?_
    rintro _ w2 ⟨a2, c2, rfl, _, _, h2⟩
    have G2 := Lib.hid (G1.out.trans h2)
    replace LX := Lib.hid (LX.out.later h2)
    clear h2
    go_wp2_with fail
    with_reducible refine (L3.out _ (mks_grw G2.out HT.out)).mono ?_
    rintro _ w3 ⟨a3, c3, rfl, _, _, h3⟩
    have G3 := Lib.hid (G2.out.trans h3)
    replace LX := Lib.hid (LX.out.later h3)
    clear h3
    go_wp2_with fail
    with_reducible refine (L4.out _ (mks_grw G3.out HT.out)).mono ?_
    rintro _ w4 ⟨a4, c4, rfl, _, l4, h4⟩
    have G4 := Lib.hid (G3.out.trans h4)
    replace LX := Lib.hid (LX.out.later h4)
    have S1 := Lib.hid (signs_same a4 a1 c4 c1 n (X.map up) w4 (by omega) (by rw [List.length_map]; exact HN.out) l4 LX.out)
    clear h4 l4
    go_wp2_with fail
    with_reducible refine S1.out.mono ?_
    rintro _ w5 ⟨rfl, h5⟩
    have G5 := Lib.hid (G4.out.trans h5)
    have WK := Lib.hid (wakes_any w5 (mks_grw G5.out HT.out) (tab_grw G5.out HTT.out))
    clear h5
    go_wp2_with fail
    with_reducible refine WK.out.mono ?_
    rintro _ w8 ⟨rfl, h8⟩
    go_wp2_with fail
    go_ret
    exact ⟨rfl, G5.out.trans h8⟩

set_option maxHeartbeats 1000000 in
set_option maxRecDepth 100000 in
theorem joins_long (a b : ByteArray) (w : World) (t : Mks w) (tt : Tab w) (hza : a.size ≤ 140737488355328) (hzb : b.size ≤ 140737488355328) (hab : ¬ a.size + b.size + 4 ≤ 60) :
    Calls Tryd.prog 5 #[.string a, .string b] w fun e w' => e = .returned (.bool true) ∧ Grw w w' := by
  have zab : (60 : Int) < (a.size : Int) + b.size + 4 := by omega
  have zad : decide ((60 : Int) < (a.size : Int) + b.size + 4) = true := decide_eq_true zab
  have za : (a.size : Int) ≤ 140737488355328 := by omega
  have zb : (b.size : Int) ≤ 140737488355328 := by omega
  have WK := Lib.hid (wakes_any w t tt)
  clear t tt hza hzb hab
  go_enter Tryd.func5, Tryd.ntmps5
  go_wp2_with fail
  with_reducible refine WK.out.mono ?_
  rintro _ w8 ⟨rfl, h8⟩
  go_wp2_with fail
  go_ret
  exact ⟨rfl, h8⟩
end Go.Proofs.YtiocnagbcbhggaaDoor
