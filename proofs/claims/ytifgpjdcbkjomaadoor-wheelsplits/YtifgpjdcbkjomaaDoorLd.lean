/- The law WheelSplits at this program. -/
import Derived.Test.YtifgpjdcbkjomaaDoorXw
import Derived.Test.YtifgpjdcbkjomaaDoorSa
namespace Go.Proofs.YtifgpjdcbkjomaaDoor
open Go.RowKit TM MK
open RG (Du La listR putB putR dropR dropO takeR hasId Srt)
open VM (RK BK lvl idsD)
set_option linter.unusedSimpArgs false

theorem sum_ex (a b : Nat) (ha : a < 2 ^ 64) (hb : b < 2 ^ 64) : ∃ (N : Nat) (o : Bool), N < 2 ^ 64 ∧ (o = true → a + b < 2 ^ 64 ∧ N = a + b) ∧ ∀ u, Calls Tryd.prog 28 #[.int .u64 a, .int .u64 b] u fun e w' => e = .returned (.agg #[.int .u64 (N : Nat), .bool o]) ∧ Grw u w' := by
  by_cases hs : a + b < 2 ^ 64
  · exact ⟨a + b, true, hs, fun _ => ⟨hs, rfl⟩, fun u => rsum_is a b (a + b) true u ha hb (sum_in hs).1 (sum_in hs).2⟩
  · exact ⟨0, false, by decide, (fun c => by cases c), fun u => rsum_is a b 0 false u ha hb (sum_out hs).1 (sum_out hs).2⟩
theorem tri_start {w0 w1 w2 w3 : World} {pa pb pc now : Nat} {L : List Du} {Fa Fb Fc : Nat → Prop} (ha : MF w0 w1 pa now L Fa) (hb : MF w1 w2 pb now L Fb) (hc : MF w2 w3 pc now L Fc) :
    ∃ A B C, A.p = pa ∧ B.p = pb ∧ C.p = pc ∧ Tri w0 w3 A B C now now now L L L (fun _ => False) := by
  obtain ⟨A, ea, a1, a2, a3, _⟩ := ha
  obtain ⟨B, eb, b1, b2, b3, _⟩ := hb
  obtain ⟨C, ec, c1, c2, c3, _⟩ := hc
  have s1 := Below.size a3
  have s2 := Below.size b3
  refine ⟨A, B, C, ea, eb, ec, a1.later (b3.trans c3), b1.later c3, c1, fun k h1 h2 => ?_, fun k h1 h2 => ?_, fun k h1 h2 => ?_, a2, fun k hk => ?_, fun k hk => ?_, a3.trans (b3.trans c3), fun _ c => c.elim⟩
  · have h3 := a1.lt h1; have h4 := b2 k h2; omega
  · have h3 := b1.lt h1; have h4 := c2 k h2; omega
  · have h3 := a1.lt h2; have h4 := c2 k h1; omega
  · have := b2 k hk; omega
  · have := c2 k hk; omega
/-- while the timers of the third wheel are popped: its row, the other rows. -/
structure Zp (w0 wr : World) (C A B : Sh) (pc nc na nb : Nat) (Lc La Lb : List Du) (F : Nat → Prop) (v : Value) (l : List Du) : Prop where
  p : C.p = pc
  t : Tri w0 wr C A B nc na nb Lc La Lb (fun k => F k ∨ v.ownBlock = some k)
  row : wr.ownsRow 0 42 2 v l.length (cd l)
  new : ∀ k, v.ownBlock = some k → w0.heap.size ≤ k ∧ ¬ F k
theorem Zp.app {w0 wr x w1 : World} {C A B : Sh} {pc nc na nb : Nat} {Lc La Lb : List Du} {F : Nat → Prop} {v v' : Value} {l : List Du} {d : Du} (hp : 0 < w0.heap.size) (e : C.p = pc) (t : Tri w0 wr C A B nc na nb Lc La Lb (fun k => F k ∨ v.ownBlock = some k)) (hn : ∀ k, v.ownBlock = some k → w0.heap.size ≤ k ∧ ¬ F k) (gx : Grw wr x)
    (ho : w1.ownsRow 0 42 2 v' (l.length + 1) (cd l ++ cd [d])) (hg : x.grownBy w1 v.ownBlock) (hb : v'.ownBlock = v.ownBlock ∨ v'.ownBlock = some x.heap.size) : Zp w0 w1 C A B pc nc na nb Lc La Lb F v' (l ++ [d]) ∧ Frm (fun k => v.ownBlock = some k) wr w1 := by
  have t1 : Tri w0 x C A B nc na nb Lc La Lb (fun k => F k ∨ v.ownBlock = some k) := t.later gx (fun k hk => Or.inl hk)
  have f1 := grownBy_frm hg
  have t2 := t1.put (G := fun k => v.ownBlock = some k) f1 (fun k hk => ⟨Or.inr hk, (hn k hk).1⟩) hp
  have hfF : ∀ k, F k → k < wr.heap.size := fun k hk => (t.fr k (Or.inl hk)).1
  have hsx := Below.size gx
  refine ⟨⟨e, ?_, by rw [List.length_append, cd_app]; exact ho, fun k hk => ?_⟩, (gx.frm _).trans f1 (fun _ e => Or.inl e)⟩
  · rcases hb with c | c
    · refine ⟨t2.a, t2.b, t2.c, t2.ab, t2.bc, t2.ca, t2.ma, t2.mb, t2.mc, t2.grw, fun k hk => t2.fr k (by rw [← c]; exact hk)⟩
    · refine ⟨t2.a, t2.b, t2.c, t2.ab, t2.bc, t2.ca, t2.ma, t2.mb, t2.mc, t2.grw, fun k hk => ?_⟩
      rcases hk with hk | hk
      · exact t2.fr k (Or.inl hk)
      · have hlt := (ho.lt k hk).2
        rw [c] at hk
        injection hk with hk
        exact ⟨hlt, fun q => by have := t1.a.lt q; omega, fun q => by have := t1.b.lt q; omega, fun q => by have := t1.c.lt q; omega⟩
  · rcases hb with c | c
    · rw [c] at hk; exact hn k hk
    · rw [c] at hk
      injection hk with hk
      refine ⟨by have := Below.size t1.grw; omega, fun q => ?_⟩
      have := hfF k q
      omega
/-- append as an operation whose guard holds, with what it does at hand. -/
theorem wpList_append_run {P : Program} (w : World) {ops : Array Oper} {rest : List Oper} {o : Oper} {a : Act} {Q : Exit → Act → World → Prop} (hgd : Region.wanted o (yielded ops a.tmps) = true) (s x : Operand) (t : TypeId)
    (ho : o.op = .call { callee := .builtin .append, args := #[s, x], argTypes := #[t, t] }) (vs vx : Value) (hs : a.eval s = vs) (hx : a.eval x = vx) (v' : Value) (w' : World)
    (hr : (Builtin.append_ #[t, t] o.type #[vs, vx]).run P w = .ok v' w') (h : wpList P ops Q rest (a.put o.dst v') w') : wpList P ops Q (o :: rest) a w := by
  refine wpList_step fun K hK => ?_
  rw [if_pos hgd]
  unfold Oper.wp execOp
  simp only [ho, resolve, invoke, builtin, Sem.run_bind, Sem.run_pure, Result.andThen_ok, List.map_toArray, List.map_cons, List.map_nil, hs, hx, hr]
  exact hK _ _ h
set_option maxHeartbeats 16000000 in
set_option maxRecDepth 100000 in
theorem splits_walk (ao : Option Addr) (n cap now n0 n1 : Nat) (f : Nat → Nat) (w : World) (t : Tab w) (hn : now < 2 ^ 64) (hn0 : n0 < 2 ^ 64) (hn1 : n1 < 2 ^ 64) (hr : RowU w ao n f) (hf : ∀ j, j < n → f j < 2 ^ 64) (hl : n ≤ 9223372036854775807) :
    Calls Tryd.prog 5 #[.int .u64 now, .agg #[.slice ao n cap], .agg #[.int .u64 n0, .int .u64 n1]] w fun e w' => e = .returned (.bool true) ∧ Grw w w' := by
  have g0 : Grw w ((w.alloc (.cells #[.slice ao n cap] 56)).alloc (.cells #[.int .u64 n0, .int .u64 n1] 63)) := ((Grw.rfl' w).alloc _).alloc _
  have LD := Lib.hid (fun u (g : Grw w u) => laid_walk ao n cap now f u (tab_grw g t) hn (hr.later g) hf hl)
  have WK := Lib.hid (fun u (g : Grw w u) => wakes_any u (tab_grw g t))
  have G0 := Lib.hid g0
  have POS : Hid (0 < ((w.alloc (.cells #[.slice ao n cap] 56)).alloc (.cells #[.int .u64 n0, .int .u64 n1] 63)).heap.size) := (by rw [size_new]; omega : 0 < ((w.alloc (.cells #[.slice ao n cap] 56)).alloc (.cells #[.int .u64 n0, .int .u64 n1] 63)).heap.size)
  obtain ⟨sN, sO, hsN, hsO, hS⟩ := sum_ex n0 n1 hn0 hn1
  obtain ⟨tN, tO, htN, htO, hT⟩ := sum_ex now sN hn hsN
  have SS := Lib.hid hS
  have ST := Lib.hid hT
  have HSO := Lib.hid (And.intro hsO htO)
  have K5 : Hid (∀ x, Grw ((w.alloc (.cells #[.slice ao n cap] 56)).alloc (.cells #[.int .u64 n0, .int .u64 n1] 63)) x → x.cell? ⟨w.heap.size, 0, none⟩ = some (.slice ao n cap) ∧ x.cell? ⟨w.heap.size + 1, 0, none⟩ = some (.int .u64 n0) ∧ x.cell? ⟨w.heap.size + 1, 1, none⟩ = some (.int .u64 n1)) := (fun x g => ⟨g.cell (by simp [go_sem]), g.cell (by simp [go_sem]), g.cell (by simp [go_sem])⟩ : ∀ x, Grw ((w.alloc (.cells #[.slice ao n cap] 56)).alloc (.cells #[.int .u64 n0, .int .u64 n1] 63)) x → x.cell? ⟨w.heap.size, 0, none⟩ = some (.slice ao n cap) ∧ x.cell? ⟨w.heap.size + 1, 0, none⟩ = some (.int .u64 n0) ∧ x.cell? ⟨w.heap.size + 1, 1, none⟩ = some (.int .u64 n1))
  have L1 := Lib.hid (LD.out _ g0)
  clear t hr hf g0 hS hT hsO htO
  go_enter Tryd.func5, Tryd.ntmps5
  go_wp2_with fail
  refine L1.out.mono ?_
  rintro e w1 (⟨hok, pa, ao1, cap1, rfl, hmA, _, _⟩ | ⟨hno, pa, rfl, hg1⟩)
  · have MA := Lib.hid hmA
    have G1 : Hid (Grw w w1) := (G0.out.trans hmA.grw : Grw w w1)
    have L2 := Lib.hid (LD.out _ G1.out)
    have q0 := (K5.out _ hmA.grw).1
    clear hmA
    go_wp2_with fail
    refine L2.out.mono ?_
    rintro e w2 (⟨_, pb, ao2, cap2, rfl, hmB, _, _⟩ | ⟨hno, _⟩)
    case inr => exact absurd hok hno
    have MB := Lib.hid hmB
    have G2 : Hid (Grw w w2) := (G1.out.trans hmB.grw : Grw w w2)
    have L3 := Lib.hid (LD.out _ G2.out)
    have q1 := (K5.out _ (MA.out.grw.trans hmB.grw)).1
    clear hmB q0
    go_wp2_with fail
    refine L3.out.mono ?_
    rintro e w3 (⟨_, pc, ao3, cap3, rfl, hmC, _, _⟩ | ⟨hno, _⟩)
    case inr => exact absurd hok hno
    obtain ⟨A, B, C, ea, eb, ec, hTri⟩ := tri_start MA.out MB.out hmC
    have TR := Lib.hid hTri
    have G3 : Hid (Grw w w3) := (G2.out.trans hmC.grw : Grw w w3)
    have q2 := (K5.out _ hTri.grw).2.1
    have q3 := (K5.out _ hTri.grw).2.2
    obtain ⟨L, hL⟩ : ∃ L, lay now f n = L := ⟨_, rfl⟩
    have SRT : Hid (Srt L) := (by rw [← hL]; exact lay_srt now f n : Srt L)
    have hLl : L.length ≤ 60 := by rw [← hL, lay_len]; exact hok.1
    rw [hL] at TR
    clear hmC hTri q1 hL
    go_wp2_with fail
    refine (SS.out _).mono ?_
    rintro _ w4 ⟨rfl, hg4⟩
    have K4 := Lib.hid (Kp.new w4 (.int .u64 (sN : Nat)) (.bool sO) 39)
    have G4 : Hid (Grw w3 (w4.alloc (.cells #[.int .u64 (sN : Nat), .bool sO] 39))) := (hg4.alloc _ : Grw w3 (w4.alloc (.cells #[.int .u64 (sN : Nat), .bool sO] 39)))
    have Z4 := Lib.hid (Below.size hg4)
    clear hg4 q2 q3
    go_wp2_with fail
    refine (ST.out _).mono ?_
    rintro _ w5 ⟨rfl, hg5⟩
    have K5b := Lib.hid ((K4.out.later hg5).later ((Grw.rfl' w5).alloc (.cells #[.int .u64 (tN : Nat), .bool tO] 39)))
    have J5 := Lib.hid (Kp.new w5 (.int .u64 (tN : Nat)) (.bool tO) 39)
    have G5 : Hid (Grw w3 (w5.alloc (.cells #[.int .u64 (tN : Nat), .bool tO] 39))) := ((G4.out.trans hg5).alloc _ : Grw w3 (w5.alloc (.cells #[.int .u64 (tN : Nat), .bool tO] 39)))
    have Z5 := Lib.hid (Below.size hg5)
    have k1 : ∀ o : Obj, (w5.alloc o).cell? ⟨w4.heap.size, 1, none⟩ = some (.bool sO) := fun o => ((Grw.rfl' w5).alloc o).cell (K4.out.later hg5).t.c1
    have k0 : ∀ o : Obj, (w5.alloc o).cell? ⟨w4.heap.size, 0, none⟩ = some (.int .u64 (sN : Nat)) := fun o => ((Grw.rfl' w5).alloc o).cell (K4.out.later hg5).t.c0
    clear hg5
    cases sO with
    | false =>
      have GG : Hid (Grw w (w5.alloc (.cells #[.int .u64 (tN : Nat), .bool tO] 39))) := (G3.out.trans G5.out : Grw w (w5.alloc (.cells #[.int .u64 (tN : Nat), .bool tO] 39)))
      go_wp2_with fail
      refine (WK.out _ GG.out).mono ?_
      rintro _ w9 ⟨rfl, hg9⟩
      have GF := Lib.hid (GG.out.trans hg9)
      clear hg9 k0 k1
      go_wp2_with fail
      go_ret
      exact ⟨rfl, GF.out⟩
    | true =>
      cases tO with
      | false =>
        have GG : Hid (Grw w (w5.alloc (.cells #[.int .u64 (tN : Nat), .bool false] 39))) := (G3.out.trans G5.out : Grw w (w5.alloc (.cells #[.int .u64 (tN : Nat), .bool false] 39)))
        go_wp2_with fail
        refine (WK.out _ GG.out).mono ?_
        rintro _ w9 ⟨rfl, hg9⟩
        have GF := Lib.hid (GG.out.trans hg9)
        clear hg9 k0 k1
        go_wp2_with fail
        go_ret
        exact ⟨rfl, GF.out⟩
      | true =>
        obtain ⟨hs1, hs2⟩ := HSO.out.1 rfl
        obtain ⟨ht1, ht2⟩ := HSO.out.2 rfl
        have T5 : Hid (Tri ((w.alloc (.cells #[.slice ao n cap] 56)).alloc (.cells #[.int .u64 n0, .int .u64 n1] 63)) (w5.alloc (.cells #[.int .u64 (tN : Nat), .bool true] 39)) A B C now now now L L L (fun k => k = w4.heap.size ∨ k = w5.heap.size)) := (TR.out.later G5.out (fun k hk => Or.inr (by
          have h1 := Z4.out
          have h2 := Z5.out
          simp only [size_new] at h2 ⊢
          omega)) : Tri ((w.alloc (.cells #[.slice ao n cap] 56)).alloc (.cells #[.int .u64 n0, .int .u64 n1] 63)) (w5.alloc (.cells #[.int .u64 (tN : Nat), .bool true] 39)) A B C now now now L L L (fun k => k = w4.heap.size ∨ k = w5.heap.size))
        obtain ⟨l, hl⟩ : ∃ l, L.takeWhile (dueP tN) = l := ⟨_, rfl⟩
        obtain ⟨L', hL'⟩ : ∃ L', L.dropWhile (dueP tN) = L' := ⟨_, rfl⟩
        obtain ⟨lx, hlx⟩ : ∃ lx, L.takeWhile (dueP (now + n0)) = lx := ⟨_, rfl⟩
        obtain ⟨Lx, hLx⟩ : ∃ Lx, L.dropWhile (dueP (now + n0)) = Lx := ⟨_, rfl⟩
        obtain ⟨ly, hly⟩ : ∃ ly, Lx.takeWhile (dueP tN) = ly := ⟨_, rfl⟩
        have hsp := due_split SRT.out (show now + n0 ≤ tN by omega)
        rw [hlx, hLx, hly, hl, hL'] at hsp
        have HSP := Lib.hid hsp
        have hll : l.length ≤ 60 := by rw [← hl]; exact Nat.le_trans (List.takeWhile_sublist _).length_le hLl
        have A1 : Hid (Calls Tryd.prog 18 #[.pointer (some ⟨pa, 0, none⟩), .int .u64 (sN : Nat)] _ _) := (by have := tri_adv _ A B C now now now sN tN L L L L' l _ _ T5.out htN (by omega) hL' hl; rw [ea] at this; exact this)
        have A2 := Lib.hid (fun A' u F (h : Tri ((w.alloc (.cells #[.slice ao n cap] 56)).alloc (.cells #[.int .u64 n0, .int .u64 n1] 63)) u A' B C tN now now L' L L F) => by have := tri_adv _ B C A' now now tN n0 (now + n0) L L L' Lx lx F u h.rot (by omega) rfl hLx hlx; rw [eb] at this; exact this)
        have A3 := Lib.hid (fun A' B' u F (e : B'.p = pb) (h : Tri ((w.alloc (.cells #[.slice ao n cap] 56)).alloc (.cells #[.int .u64 n0, .int .u64 n1] 63)) u B' C A' (now + n0) now tN Lx L L' F) => by have := tri_adv _ B' C A' (now + n0) now tN n1 tN Lx L L' L' ly F u h htN (by omega) HSP.out.2 hly; rw [e] at this; exact this)
        have HL := Lib.hid (And.intro hl hL')
        have HT2 := Lib.hid (And.intro hs2 ht2)
        clear hsp hl hL' hlx hLx hly hs1 ht1 hs2 ht2
        go_wp2_with fail
        refine A1.out.mono ?_
        rintro _ w6 ⟨v1, A', rfl, ea', hr1, ht6, hf6, hnew1⟩
        have J6 := Lib.hid (J5.out.kept hf6 (Or.inr rfl))
        have q2 := (K5.out _ ht6.grw).2.1
        have T6 := Lib.hid ht6
        have B1 := Lib.hid (A2.out A' w6 _ ht6)
        have R1 := Lib.hid hr1
        obtain ⟨o1, c1, ev1, _⟩ := hr1
        subst ev1
        clear ht6 hf6 hnew1 k0 k1
        go_wp2_with fail
        refine B1.out.mono ?_
        rintro _ w7 ⟨v2, B', rfl, eb', hr2, ht7, hf7, hnew2⟩
        have J7 := Lib.hid (J6.out.kept hf7 (Or.inl (Or.inr rfl)))
        have R1b := Lib.hid (R1.out.frm hf7 (fun k hk c => c (Or.inr hk)))
        have q3 := (K5.out _ ht7.grw).2.2
        have B2 := Lib.hid (A3.out A' B' w7 _ eb' ht7)
        have R2 := Lib.hid hr2
        obtain ⟨o2, c2, ev2, _⟩ := hr2
        subst ev2
        clear ht7 hf7 hnew2 q2
        go_wp2_with fail
        refine B2.out.mono ?_
        rintro _ w8 ⟨v3, B'', rfl, eb'', hr3, ht8, hf8, hnew3⟩
        have J8 := Lib.hid (J7.out.kept hf8 (Or.inl (Or.inl (Or.inr rfl))))
        have R1c := Lib.hid (R1b.out.frm hf8 (fun k hk c => c (Or.inl (Or.inr hk))))
        have R2c := Lib.hid (R2.out.frm hf8 (fun k hk c => c (Or.inr hk)))
        have R3 := Lib.hid hr3
        obtain ⟨o3, c3, ev3, _⟩ := hr3
        subst ev3
        obtain ⟨F8, hF8⟩ : ∃ F8 : Nat → Prop, F8 = fun k => (((k = w4.heap.size ∨ k = w5.heap.size) ∨ (Value.slice o1 l.length c1).ownBlock = some k) ∨ (Value.slice o2 lx.length c2).ownBlock = some k) ∨ (Value.slice o3 ly.length c3).ownBlock = some k := ⟨_, rfl⟩
        have FA : Hid (F8 w5.heap.size ∧ (∀ k, (Value.slice o1 l.length c1).ownBlock = some k → F8 k) ∧ (∀ k, (Value.slice o2 lx.length c2).ownBlock = some k → F8 k) ∧ ∀ k, (Value.slice o3 ly.length c3).ownBlock = some k → F8 k) := (by rw [hF8]; exact ⟨Or.inl (Or.inl (Or.inl (Or.inr rfl))), fun k hk => Or.inl (Or.inl (Or.inr hk)), fun k hk => Or.inl (Or.inr hk), fun k hk => Or.inr hk⟩ : F8 w5.heap.size ∧ (∀ k, (Value.slice o1 l.length c1).ownBlock = some k → F8 k) ∧ (∀ k, (Value.slice o2 lx.length c2).ownBlock = some k → F8 k) ∧ ∀ k, (Value.slice o3 ly.length c3).ownBlock = some k → F8 k)
        rw [← hF8] at ht8
        have Z0 : Hid (Zp ((w.alloc (.cells #[.slice ao n cap] 56)).alloc (.cells #[.int .u64 n0, .int .u64 n1] 63)) w8 C A' B'' pc now tN tN (L.drop 0) L' L' F8 (.slice none 0 0) (L.take 0)) := (⟨ec, (by rw [List.drop_zero]; exact ht8.rot.later (Grw.rfl' _) (fun k hk => Or.inl (hk.elim id (fun c => by cases c)))), World.ownsRow_nil _ _ _ _, (fun k hk => by cases hk)⟩ : Zp ((w.alloc (.cells #[.slice ao n cap] 56)).alloc (.cells #[.int .u64 n0, .int .u64 n1] 63)) w8 C A' B'' pc now tN tN (L.drop 0) L' L' F8 (.slice none 0 0) (L.take 0))
        obtain ⟨N, hN⟩ : ∃ N, twN (dueP tN) L = N := ⟨_, rfl⟩
        have hlN : l.length = N := by rw [← hN, ← HL.out.1]; rfl
        have HTK : Hid (L.take N = l ∧ L.drop N = L') := (by rw [← hN, twN_take, twN_drop]; exact HL.out : L.take N = l ∧ L.drop N = L')
        have hNL : N ≤ L.length := by rw [← hN]; exact twN_le _ _
        have PP := Lib.hid (fun Cc nk k u (e : Cc.p = pc) (hk : k ≤ N) (hnk : nk ≤ tN) (h : Tri ((w.alloc (.cells #[.slice ao n cap] 56)).alloc (.cells #[.int .u64 n0, .int .u64 n1] 63)) u Cc A' B'' nk tN tN (L.drop k) L' L' F8) => h)
        have PT : Hid (∀ (Cc : Sh) (nk k : Nat) (u : World) (F : Nat → Prop), Cc.p = pc → k ≤ N → nk ≤ tN → Tri ((w.alloc (.cells #[.slice ao n cap] 56)).alloc (.cells #[.int .u64 n0, .int .u64 n1] 63)) u Cc A' B'' nk tN tN (L.drop k) L' L' F → (∃ d : Du, k < N ∧ L.take (k + 1) = L.take k ++ [d] ∧ d.t ≤ tN ∧ Calls Tryd.prog 16 #[.pointer (some ⟨pc, 0, none⟩), .int .u64 tN] u (PopT ((w.alloc (.cells #[.slice ao n cap] 56)).alloc (.cells #[.int .u64 n0, .int .u64 n1] 63)) u A' B'' pc d.t tN tN (L.drop (k + 1)) L' L' F d true)) ∨ (k = N ∧ Calls Tryd.prog 16 #[.pointer (some ⟨pc, 0, none⟩), .int .u64 tN] u (PopT ((w.alloc (.cells #[.slice ao n cap] 56)).alloc (.cells #[.int .u64 n0, .int .u64 n1] 63)) u A' B'' pc tN tN tN (L.drop k) L' L' F ⟨0, 0⟩ false))) := (fun Cc nk k u F e hk hnk h => by
            have := tri_pop _ Cc A' B'' nk tN tN tN k L L' L' F u h SRT.out (by omega) htN hnk
            rw [e, hN] at this
            exact this : ∀ (Cc : Sh) (nk k : Nat) (u : World) (F : Nat → Prop), Cc.p = pc → k ≤ N → nk ≤ tN → Tri ((w.alloc (.cells #[.slice ao n cap] 56)).alloc (.cells #[.int .u64 n0, .int .u64 n1] 63)) u Cc A' B'' nk tN tN (L.drop k) L' L' F → (∃ d : Du, k < N ∧ L.take (k + 1) = L.take k ++ [d] ∧ d.t ≤ tN ∧ Calls Tryd.prog 16 #[.pointer (some ⟨pc, 0, none⟩), .int .u64 tN] u (PopT ((w.alloc (.cells #[.slice ao n cap] 56)).alloc (.cells #[.int .u64 n0, .int .u64 n1] 63)) u A' B'' pc d.t tN tN (L.drop (k + 1)) L' L' F d true)) ∨ (k = N ∧ Calls Tryd.prog 16 #[.pointer (some ⟨pc, 0, none⟩), .int .u64 tN] u (PopT ((w.alloc (.cells #[.slice ao n cap] 56)).alloc (.cells #[.int .u64 n0, .int .u64 n1] 63)) u A' B'' pc tN tN tN (L.drop k) L' L' F ⟨0, 0⟩ false)))
        rw [hlN]
        have HLN := Lib.hid hlN
        obtain ⟨i0, hi0, hz0, hz1, hz2⟩ := info_parts Tryd.info42
        have hnt : now ≤ tN := by have := HT2.out; omega
        obtain ⟨X, hX⟩ : ∃ X, w5.heap.size = X := ⟨_, rfl⟩
        rw [hX] at J8 FA
        rw [hlN] at hll
        clear ht8 hf8 hnew3 hF8 q3 hN hlN PP
        go_wp2_with fail
        clear hX
        go_loopw [24] (fun u24 wr => ∃ (k : Nat) (ao' : Option Addr) (cap' : Nat) (Cc : Sh) (nk : Nat), u24 = .slice ao' k cap' ∧ k ≤ N ∧ nk ≤ tN ∧ Zp ((w.alloc (.cells #[.slice ao n cap] 56)).alloc (.cells #[.int .u64 n0, .int .u64 n1] 63)) wr Cc A' B'' pc nk tN tN (L.drop k) L' L' F8 (.slice ao' k cap') (L.take k) ∧ Kp wr X (.int .u64 (tN : Nat)) (.bool true) ∧ RowD wr (.slice o1 l.length c1) l ∧ RowD wr (.slice o2 lx.length c2) lx ∧ RowD wr (.slice o3 ly.length c3) ly) (fun u24 _ => N + 1 - slen u24)
        case atStart => exact ⟨0, none, 0, C, now, rfl, Nat.zero_le _, hnt, Z0.out, J8.out, R1c.out, R2c.out, R3.out⟩
        case round =>
          obtain ⟨k, ao', cap', Cc, nk, rfl, hkN, hnk, hz, hj, hrow1, hrow2, hrow3⟩ := hrel
          have ZP := Lib.hid hz
          have JJ := Lib.hid hj
          have RR := Lib.hid (And.intro hrow1 (And.intro hrow2 hrow3))
          have hki : (k : Int) ≤ (N : Int) := by omega
          have x0 := hj.t.c0
          rcases PT.out Cc nk k wr _ hz.p hkN hnk hz.t with ⟨d, hlt, htk, hdt, hC⟩ | ⟨hkeq, hC⟩
          · have CC := Lib.hid hC
            have HTk := Lib.hid htk
            have OW : Hid (wr.ownsRow 0 42 2 (.slice ao' k cap') k (cd (L.take k))) := (by have := hz.row; rw [List.length_take, show min k L.length = k by omega] at this; exact this : wr.ownsRow 0 42 2 (.slice ao' k cap') k (cd (L.take k)))
            obtain ⟨di, dt⟩ := d
            simp only at CC hdt HTk
            clear hC htk hz hj hrow1 hrow2 hrow3
            go_wp2_with fail
            refine CC.out.mono ?_
            rintro _ w9 ⟨C9, rfl, ec9, ht9, hf9⟩
            have T9 := Lib.hid ht9
            have J9 := Lib.hid (JJ.out.kept hf9 (Or.inl FA.out.1))
            have O9 := Lib.hid (ownsRow_frm OW.out hf9 (fun q hq c => c (Or.inr hq)))
            have RR9 : Hid (RowD w9 (.slice o1 l.length c1) l ∧ RowD w9 (.slice o2 lx.length c2) lx ∧ RowD w9 (.slice o3 ly.length c3) ly) := (⟨RR.out.1.frm hf9 (fun q hq c => c (Or.inl (FA.out.2.1 q hq))), RR.out.2.1.frm hf9 (fun q hq c => c (Or.inl (FA.out.2.2.1 q hq))), RR.out.2.2.frm hf9 (fun q hq c => c (Or.inl (FA.out.2.2.2 q hq)))⟩ : RowD w9 (.slice o1 l.length c1) l ∧ RowD w9 (.slice o2 lx.length c2) lx ∧ RowD w9 (.slice o3 ly.length c3) ly)
            have D9 := Lib.hid (Kp.new w9 (.int .i64 di) (.int .u64 dt) 42)
            have ga : Grw w9 (w9.alloc (.cells #[.int .i64 di, .int .u64 dt] 42)) := (Grw.rfl' w9).alloc _
            have e1 := gw_cell D9.out.t.c1
            have NX : Hid (∀ q : GW (w9.alloc (.cells #[.int .i64 di, .int .u64 dt] 42)), Calls Tryd.prog 29 #[.pointer (some ⟨pc, 0, none⟩)] q.x fun e w' => e = .returned (.int .u64 (dt : Nat)) ∧ q.x = w') := (fun q => by have := now_W C9 dt _ q.x ((ht9.a.later ga).later q.h); rw [ec9] at this; exact this : ∀ q : GW (w9.alloc (.cells #[.int .i64 di, .int .u64 dt] 42)), Calls Tryd.prog 29 #[.pointer (some ⟨pc, 0, none⟩)] q.x fun e w' => e = .returned (.int .u64 (dt : Nat)) ∧ q.x = w')
            have GA := Lib.hid ga
            clear ht9 hf9 x0 ga
            go_wp2_with fail
            refine wp_region_grown (by kernel_rfl) (by kernel_rfl) ?_
            repeat (go_big_quiet_step (first | (go_at_call 29; exact calls_grown_same (NX.out _))))
            refine wpQuiet_nil ?_
            rintro _ ⟨q', rfl⟩
            have GQ : Hid (Grw w9 q'.x) := (GA.out.trans q'.h : Grw w9 q'.x)
            have DQ := Lib.hid (D9.out.later q'.h)
            obtain ⟨wq, hwq⟩ : ∃ wq, q'.x = wq := ⟨_, rfl⟩
            rw [hwq] at GQ DQ ⊢
            have z0 := DQ.out.t.c0
            have z1 := DQ.out.t.c1
            have OQ := Lib.hid (ownsRow_frm O9.out (GQ.out.frm (fun _ => False)) (fun _ _ e => e))
            have D1 := Lib.hid (one_due wq ⟨di, dt⟩)
            have D2 := Lib.hid (cd_one [⟨di, dt⟩])
            have hXs : ¬ w9.heap.size = wq.heap.size := by have := DQ.out.lt; omega
            clear e1 hwq
            go_wp2_with (at_builtin; refine wpList_append_mine _ rfl _ _ 27 rfl 42 i0 _ 2 16 Tryd.underlying27 hi0 hz0 hz1 hz2 rfl (by decide) _ _ _ rfl (World.ownsRow.alloc OQ.out _) ⟨wq.heap.size, 0, none⟩ 1 1 (cd [⟨di, dt⟩]) rfl rfl D1.out D2.out (by unfold maxLen; omega) (by omega) ?_)
            intro v' w10 hown' hgrow hblk
            have el : (L.take k).length = k := by rw [List.length_take]; omega
            obtain ⟨ZA, FZ⟩ := Zp.app (d := ⟨di, dt⟩) (l := L.take k) (x := wq.alloc (.cells #[.int .i64 di, .int .u64 dt] 42)) POS.out ec9 T9.out ZP.out.new (GQ.out.alloc _) (by rw [el]; exact hown') hgrow (by rw [size_new]; exact hblk)
            rw [← HTk.out] at ZA
            obtain ⟨ao2', cap2', rfl, _⟩ := ownsRow_lies hown'
            have ZB := Lib.hid ZA
            have JB := Lib.hid (J9.out.frm FZ (fun c => (ZP.out.new _ c).2 FA.out.1))
            have RB : Hid (RowD w10 (.slice o1 l.length c1) l ∧ RowD w10 (.slice o2 lx.length c2) lx ∧ RowD w10 (.slice o3 ly.length c3) ly) := (⟨RR9.out.1.frm FZ (fun q hq c => (ZP.out.new _ c).2 (FA.out.2.1 q hq)), RR9.out.2.1.frm FZ (fun q hq c => (ZP.out.new _ c).2 (FA.out.2.2.1 q hq)), RR9.out.2.2.frm FZ (fun q hq c => (ZP.out.new _ c).2 (FA.out.2.2.2 q hq))⟩ : RowD w10 (.slice o1 l.length c1) l ∧ RowD w10 (.slice o2 lx.length c2) lx ∧ RowD w10 (.slice o3 ly.length c3) ly)
            clear hown' hgrow hblk ZA FZ z0 z1 el
            go_wp2_with fail
            go_roundw
            case rel => exact ⟨k + 1, ao2', cap2', C9, dt, rfl, by omega, hdt, ZB.out, JB.out, RB.out.1, RB.out.2.1, RB.out.2.2⟩
            case measure => simp [slen]; omega
          · subst hkeq
            have CC := Lib.hid hC
            have OW : Hid (wr.ownsRow 0 42 2 (.slice ao' k cap') l.length (cd l)) := (by have := hz.row; rw [HTK.out.1] at this; exact this : wr.ownsRow 0 42 2 (.slice ao' k cap') l.length (cd l))
            clear hC hz hj hrow1 hrow2 hrow3
            go_wp2_with fail
            refine CC.out.mono ?_
            rintro _ w9 ⟨C9, rfl, ec9, ht9, hf9⟩
            obtain ⟨wf, hwf⟩ : ∃ wf, w9.alloc (.cells #[.int .i64 0, .int .u64 0] 42) = wf := ⟨_, rfl⟩
            have gf : Grw w9 wf := by rw [← hwf]; exact (Grw.rfl' w9).alloc _
            have hsf : wf.heap.size = w9.heap.size + 1 := by rw [← hwf, size_new]
            have TF := ht9.later gf (G := fun _ => False) (fun k hk => hk.elim)
            have r1f := (RR.out.1.frm hf9 (fun q hq c => c (Or.inl (FA.out.2.1 q hq)))).later gf
            have r2f := (RR.out.2.1.frm hf9 (fun q hq c => c (Or.inl (FA.out.2.2.1 q hq)))).later gf
            have r3f := (RR.out.2.2.frm hf9 (fun q hq c => c (Or.inl (FA.out.2.2.2 q hq)))).later gf
            have rzf : RowD wf (.slice ao' k cap') l := RowD.later (ownsRow_lies (ownsRow_frm OW.out hf9 (fun q hq c => c (Or.inr hq)))) gf
            have ge : Grw wf (wf.alloc (.cells #[] 42)) := (Grw.rfl' wf).alloc _
            have oe : (wf.alloc (.cells #[] 42)).ownsRow 0 42 2 (.slice (some ⟨wf.heap.size, 0, none⟩) ([] : List Du).length 0) ([] : List Du).length (cd []) := by
              have h := empty_row wf
              rcases h.2 with ⟨h1, h2⟩ | ⟨g', cap2', cur, h1, h2, h3, h4⟩
              · cases h1
              · exact ⟨h.1, Or.inr ⟨g', cap2', cur, h1, Nat.zero_le _, h3, h4⟩⟩
            have hlen2 : lx.length + ly.length = l.length := by rw [← HSP.out.1, List.length_append]
            have hl60 : l.length ≤ 60 := by rw [HLN.out]; exact hll
            obtain ⟨va, wa, hrun1, ow1, gr1, bl1⟩ := app_ex _ _ [] lx oe (.slice o2 lx.length c2) (r2f.later ge) (by simp; omega)
            have ga : Grw wf wa := (grownBy_frm gr1).grw ge (fun q hq => by have hq' : some wf.heap.size = some q := hq; injection hq' with hq'; omega)
            rw [List.nil_append] at ow1
            obtain ⟨oa, ca, rfl, _⟩ := ownsRow_lies ow1
            obtain ⟨vb, wb, hrun2, ow2, gr2, bl2⟩ := app_ex wa _ lx ly ow1 (.slice o3 ly.length c3) (r3f.later ga) (by omega)
            have gb : Grw wf wb := (grownBy_frm gr2).grw ga (fun q hq => by
              rcases bl1 with c | c
              · rw [c] at hq
                have hq' : some wf.heap.size = some q := hq
                injection hq' with hq'; omega
              · rw [c] at hq
                injection hq with hq
                rw [size_new] at hq; omega)
            rw [HSP.out.1] at ow2
            obtain ⟨ob, cb, rfl, hlb⟩ := ownsRow_lies ow2
            have D1 := dues_same _ _ l wb (by omega) ⟨ob, cb, rfl, hlb⟩ (r1f.later gb)
            have D2 := fun u (g : Grw wb u) => dues_same (.slice ao' k cap') (.slice o1 l.length c1) l u (by omega) ((rzf.later gb).later g) ((r1f.later gb).later g)
            have TB := TF.later gb (G := fun _ => False) (fun k hk => Or.inl hk)
            have NA : ∀ u, Grw wb u → Calls Tryd.prog 29 #[.pointer (some ⟨pa, 0, none⟩)] u fun e w' => e = .returned (.int .u64 (tN : Nat)) ∧ u = w' := fun u g => by have := now_W A' tN _ u (TB.b.later g); rw [ea'] at this; exact this
            have NB : ∀ u, Grw wb u → Calls Tryd.prog 29 #[.pointer (some ⟨pb, 0, none⟩)] u fun e w' => e = .returned (.int .u64 (tN : Nat)) ∧ u = w' := fun u g => by have := now_W B'' tN _ u (TB.c.later g); rw [eb''] at this; exact this
            have NC : ∀ u, Grw wb u → Calls Tryd.prog 29 #[.pointer (some ⟨pc, 0, none⟩)] u fun e w' => e = .returned (.int .u64 (tN : Nat)) ∧ u = w' := fun u g => by have := now_W C9 tN _ u (TB.a.later g); rw [ec9] at this; exact this
            have LA : ∀ u, Grw wb u → Calls Tryd.prog 30 #[.pointer (some ⟨pa, 0, none⟩)] u (LoadQ tN L' u) := fun u g => by have := load_W A' tN _ u (TB.b.later g); rw [ea'] at this; exact this
            have LB : ∀ u, Grw wb u → Calls Tryd.prog 30 #[.pointer (some ⟨pb, 0, none⟩)] u (LoadQ tN L' u) := fun u g => by have := load_W B'' tN _ u (TB.c.later g); rw [eb''] at this; exact this
            have E7 := fun w => eq7_same (fun k => (ld tN L' k : Int)) w
            have GB : Hid (Grw w wb) := (G0.out.trans TB.grw : Grw w wb)
            unfold LoadQ ldv at LA LB
            obtain ⟨f7, hf7⟩ : ∃ f7 : Nat → Nat, ld tN L' = f7 := ⟨_, rfl⟩
            rw [hf7] at E7 LA LB
            rw [HLN.out] at D1 D2
            rw [hsf] at hrun1
            rw [← hwf] at hrun1
            have NA := Lib.hid NA
            have NB := Lib.hid NB
            have NC := Lib.hid NC
            have LA := Lib.hid LA
            have LB := Lib.hid LB
            have D1 := Lib.hid D1
            have D2 := Lib.hid D2
            simp only [List.length_nil] at hrun1
            rw [HLN.out] at hrun2
            have HR1 := Lib.hid hrun1
            have HR2 := Lib.hid hrun2
            clear hwf gf hsf TF r1f r2f r3f rzf ge oe hlen2 hl60 ow1 gr1 bl1 ga ow2 gr2 bl2 gb hlb TB hf7 ht9 hf9 x0 hrun1 hrun2
            go_wp2_with (at_builtin; first | refine wpList_append_run _ (by rfl) _ _ 27 rfl _ _ rfl rfl _ _ HR1.out ?_ | refine wpList_append_run _ (by rfl) _ _ 27 rfl _ _ rfl rfl _ _ HR2.out ?_)
            refine D1.out.mono ?_
            rintro _ x1 ⟨rfl, hx1⟩
            have X1 := Lib.hid hx1
            clear hx1
            go_wp2_with fail
            refine (D2.out _ X1.out).mono ?_
            rintro _ x2 ⟨rfl, hx2⟩
            have X2 : Hid (Grw wb x2) := (X1.out.trans hx2 : Grw wb x2)
            clear hx2
            go_wp2_with fail
            refine (NA.out _ X2.out).mono ?_
            rintro _ x3 ⟨rfl, rfl⟩
            go_wp2_with fail
            refine (NB.out _ X2.out).mono ?_
            rintro _ x3 ⟨rfl, rfl⟩
            go_wp2_with fail
            refine (NB.out _ X2.out).mono ?_
            rintro _ x3 ⟨rfl, rfl⟩
            go_wp2_with fail
            refine (NC.out _ X2.out).mono ?_
            rintro _ x3 ⟨rfl, rfl⟩
            go_wp2_with fail
            refine (LA.out _ X2.out).mono ?_
            rintro _ x4 ⟨rfl, hx4⟩
            have X4 : Hid (Grw wb x4) := (X2.out.trans hx4 : Grw wb x4)
            clear hx4
            go_wp2_with fail
            refine (LB.out _ X4.out).mono ?_
            rintro _ x5 ⟨rfl, hx5⟩
            have X5 : Hid (Grw w x5) := (GB.out.trans (X4.out.trans hx5) : Grw w x5)
            clear hx5
            go_wp2_with fail
            refine (WK.out _ X5.out).mono ?_
            rintro _ x6 ⟨rfl, hx6⟩
            have GF := Lib.hid (X5.out.trans hx6)
            clear hx6
            go_wp2_with fail
            go_ret
            exact ⟨rfl, GF.out⟩
  · have G1 : Hid (Grw w w1) := (G0.out.trans hg1 : Grw w w1)
    have L2 := Lib.hid (LD.out _ G1.out)
    have q0 := (K5.out _ hg1).1
    have H1 := Lib.hid hg1
    clear hg1
    go_wp2_with fail
    refine L2.out.mono ?_
    rintro e w2 (⟨hok, _⟩ | ⟨_, pb, rfl, hg2⟩)
    case inl => exact absurd hok hno
    have G2 : Hid (Grw w w2) := (G1.out.trans hg2 : Grw w w2)
    have H2 := Lib.hid (H1.out.trans hg2)
    have L3 := Lib.hid (LD.out _ G2.out)
    have q1 := (K5.out _ H2.out).1
    clear hg2 q0
    go_wp2_with fail
    refine L3.out.mono ?_
    rintro e w3 (⟨hok, _⟩ | ⟨_, pc, rfl, hg3⟩)
    case inl => exact absurd hok hno
    have G3 : Hid (Grw w w3) := (G2.out.trans hg3 : Grw w w3)
    have H3 := Lib.hid (H2.out.trans hg3)
    have q2 := (K5.out _ H3.out).2.1
    have q3 := (K5.out _ H3.out).2.2
    clear hg3 q1
    go_wp2_with fail
    refine (SS.out _).mono ?_
    rintro _ w4 ⟨rfl, hg4⟩
    have G4 : Hid (Grw w (w4.alloc (.cells #[.int .u64 (sN : Nat), .bool sO] 39))) := (G3.out.trans (hg4.alloc _) : Grw w (w4.alloc (.cells #[.int .u64 (sN : Nat), .bool sO] 39)))
    have K4 := Lib.hid (Kp.new w4 (.int .u64 (sN : Nat)) (.bool sO) 39)
    clear hg4 q2 q3
    go_wp2_with fail
    refine (ST.out _).mono ?_
    rintro _ w5 ⟨rfl, hg5⟩
    have G5 : Hid (Grw w (w5.alloc (.cells #[.int .u64 (tN : Nat), .bool tO] 39))) := ((G4.out.trans hg5).alloc _ : Grw w (w5.alloc (.cells #[.int .u64 (tN : Nat), .bool tO] 39)))
    have k1 : ∀ o : Obj, (w5.alloc o).cell? ⟨w4.heap.size, 1, none⟩ = some (.bool sO) := fun o => ((Grw.rfl' w5).alloc o).cell (K4.out.later hg5).t.c1
    clear hg5
    go_wp2_with fail
    refine (WK.out _ G5.out).mono ?_
    rintro _ w9 ⟨rfl, hg9⟩
    have GF := Lib.hid (G5.out.trans hg9)
    clear hg9 k1
    go_wp2_with fail
    go_ret
    exact ⟨rfl, GF.out⟩
end Go.Proofs.YtifgpjdcbkjomaaDoor
