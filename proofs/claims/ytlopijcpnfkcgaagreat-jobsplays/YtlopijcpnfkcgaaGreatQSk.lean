/- sort.Sort at the queue's line; slices.Clone; the queue's List. -/
import Derived.Test.YtlopijcpnfkcgaaGreatQSh
import Derived.Test.YtlopijcpnfkcgaaGreatQQk
namespace Go.Proofs.YtlopijcpnfkcgaaGreat
namespace QQ
open Go.RowKit
set_option linter.unusedSimpArgs false

theorem blen_is (n : Nat) (hn : n ≤ 1000000) : ∃ k : Nat, k ≤ 62 ∧ ∀ w, Calls Tryz.prog 74 #[.int .u64 (n : Nat)] w fun e w' => e = .returned (.int .i64 (k : Nat)) ∧ w = w' := by
  refine ⟨Lib.bitLen n, Lib.bitLen_le n 62 (by omega) (by omega), fun w => ?_⟩
  have h := Any.bits_Len (LaysGg.n13.bits (P := Tryz.prog) (ρ := Tryz.npt_ren) { Tryz.npt with }) (n : Int) w (by omega) (by omega)
  change Calls Tryz.prog 74 _ w _ at h
  exact h.mono fun _ _ ⟨he, hw⟩ => ⟨by rw [he, Int.toNat_natCast], hw.symm⟩
set_option maxHeartbeats 1000000 in
set_option maxRecDepth 100000 in
theorem sort_is (b o : Nat) (a : Int) (g cap : Nat) (l : List Wt) (w : World) (h : LR b o a g cap w l) (hsz : l.length ≤ 1000000) (hids : (l.map Wt.id).Nodup) :
    Calls Tryz.prog 72 #[.iface 109 (.pointer (some ⟨b, o, none⟩))] w fun e w' => e = .returned (.tuple #[]) ∧ ∃ m, LS b o a g cap 0 l.length w l w' m ∧ Srtd a 0 l.length m := by
  obtain ⟨n, hn⟩ : ∃ n, l.length = n := ⟨_, rfl⟩
  by_cases c : n ≤ 1
  · have c1 := h.c1
    rw [hn] at c1
    exact (sort_none b o _ n cap w c1 c).mono fun _ _ ⟨he, hw⟩ => by subst hw; exact ⟨he, l, LS.start h, Srtd.small a (by omega) l⟩
  · have mN := meth_len b o
    have H := Lib.hid h
    have c1 := h.c1
    rw [hn] at c1
    have C := Lib.hid (line_len b o _ n cap w c1)
    obtain ⟨k, hk, hB⟩ := blen_is n (by omega)
    have BL := Lib.hid hB
    have P := Lib.hid (fun w' (e : w = w') => pdq_is b o a g cap (n + 1) 0 n k l w' (by omega) (e ▸ h) (Nat.zero_le _) (by omega) hsz hids (fun h0 => absurd h0 (Nat.lt_irrefl _)) (by omega))
    have d1 : decide (n ≤ 1) = false := by simp; omega
    have d1i : decide ((n : Int) ≤ 1) = false := by simp; omega
    have q1 : IntKind.u64.wrap (n : Int) = (n : Int) := by simp [IntKind.wrap, IntKind.bits, IntKind.signed]; omega
    have HN := Lib.hid hn
    clear h c1 hB hids hn
    go_enter Tryz.func72, Tryz.ntmps72
    go_wp2_with fail
    refine C.out.mono ?_
    rintro _ _ ⟨rfl, rfl⟩
    go_wp2_with fail
    refine (BL.out _).mono ?_
    rintro _ _ ⟨rfl, rfl⟩
    go_wp2_with fail
    refine (P.out _ rfl).mono ?_
    rintro _ w1 ⟨rfl, m, h1, h2⟩
    have R := Lib.hid (And.intro h1 h2)
    clear h1 h2
    go_wp2_with fail
    go_end0
    rw [HN.out]
    exact ⟨rfl, m, R.out⟩
set_option maxHeartbeats 1000000 in
set_option maxRecDepth 100000 in
theorem clone_is (ad : Addr) (cap : Nat) (l : List Wt) (w : World) (hl : Lies w (some ad) (cw l)) (hb : l.length ≤ 1000000) :
    Calls Tryz.prog 71 #[.slice (some ad) l.length cap] w fun e w' => ∃ v', e = .returned v' ∧ w'.ownsRow w.heap.size 77 3 v' l.length (cw l) ∧ Grw w w' := by
  obtain ⟨i0, hi, hz0, hz1, hz2⟩ := info_parts Tryz.info77
  have D1 := Lib.hid (cw_len l)
  have D2 := Lib.hid (cw_one l)
  have C : Hid (∀ j u, (cw l)[j]? = some u → (w.alloc (.cells #[] 77)).cell? (ad.add j) = some u) := (fun j u hj => by
    rcases hl with h | ⟨b, off, e, _, hc⟩
    · rw [h] at hj; cases hj
    · injection e with e
      subst e
      rw [Addr.add_lit]
      exact ((Grw.rfl' w).alloc _).cell (hc j u hj) : ∀ j u, (cw l)[j]? = some u → (w.alloc (.cells #[] 77)).cell? (ad.add j) = some u)
  have O : Hid ((w.alloc (.cells #[] 77)).ownsRow w.heap.size 77 3 (.slice (some ⟨w.heap.size, 0, none⟩) 0 0) 0 []) := (⟨rfl, .inr ⟨w.heap.size, 0, _, rfl, Nat.le_refl _, heap_alloc_new w _, Nat.le_refl _, by unfold maxLen; omega, rfl, rfl⟩⟩ : (w.alloc (.cells #[] 77)).ownsRow w.heap.size 77 3 (.slice (some ⟨w.heap.size, 0, none⟩) 0 0) 0 [])
  obtain ⟨n, hn⟩ : ∃ n, l.length = n := ⟨_, rfl⟩
  obtain ⟨xs, hxs⟩ : ∃ xs, cw l = xs := ⟨_, rfl⟩
  have HN := Lib.hid (And.intro hn hxs)
  rw [hn] at D1 hb ⊢
  rw [hxs] at D1 D2 C
  clear hl hn hxs
  have q42 : ∀ (w : World) (a : Option Addr) (n c n' c' : Nat), (binOp .eql 62 (.slice a n c) (.slice none n' c')).run Tryz.prog w = .ok (.bool a.isNone) w := fun w a n c n' c' => Lib.run_eql_slice_nil w _ _ a n c n' c' Tryz.underlying62
  go_enter Tryz.func71, Tryz.ntmps71
  go_wp2_with (at_builtin; refine wpList_append_own _ rfl _ _ 62 rfl w.heap.size 77 i0 _ 3 24 Tryz.underlying62 hi hz0 hz1 hz2 rfl (by decide) _ _ _ rfl O.out ad n cap xs rfl D1.out C.out D2.out (by unfold maxLen; omega) (by omega) (by simp) ?_)
  intro v' w2 hown' hgrow _
  have U := Lib.hid (And.intro hown' (Below.grown (B := w.heap.size) (a := w) ((Grw.rfl' w).alloc (.cells #[] 77)) hgrow (by rw [size_new]; omega) (fun k e => by injection e with e; rw [← e]; exact Nat.le_refl _)))
  clear hown' hgrow
  go_wp2_with fail
  go_ret
  refine ⟨_, rfl, ?_, U.out.2⟩
  rw [HN.out.2]
  simpa using U.out.1
end QQ
end Go.Proofs.YtlopijcpnfkcgaaGreat

/- The queue's List. -/
namespace Go.Proofs.YtlopijcpnfkcgaaGreat
namespace QQ
open Go.RowKit
set_option linter.unusedSimpArgs false

theorem row_base {w : World} {B B' n : Nat} {e : TypeId} {size : Nat} {v : Value} {xs : List Value} (h : w.ownsRow B e size v n xs) (hb : ∀ k, v.ownBlock = some k → B' ≤ k) : w.ownsRow B' e size v n xs := by
  refine ⟨h.1, ?_⟩
  rcases h.2 with hn' | ⟨b, cap, cur, rfl, _, r⟩
  · exact Or.inl hn'
  · exact Or.inr ⟨b, cap, cur, rfl, hb b rfl, r⟩
/-- a row made since w that holds L, in turn. -/
structure LQ (a : Int) (L : List Wt) (w : World) (u : Value) (s : List Wt) (w' : World) : Prop where
  row : w'.ownsRow w.heap.size 77 3 u s.length (cw s)
  perm : s.Perm L
  srt : Srtd a 0 s.length s
  gw : Grw w w'
/-- the line made for the sort. -/
structure NL (w x : World) (B : Nat) (a : Int) (v : Value) (l : List Wt) : Prop where
  r : LV B 0 a v x l
  gw : Grw w x
  b : w.heap.size ≤ B
  n : ∀ k, v.ownBlock = some k → w.heap.size ≤ k
theorem nl_after {w y : World} {a : Int} {v : Value} {l : List Wt} (ho : y.ownsRow w.heap.size 77 3 v l.length (cw l)) (hg : Grw w y) : NL w (y.alloc (.cells #[.int .i64 a, v] 101)) y.heap.size a v l := by
  have hl := ho.lt
  refine ⟨⟨by simp [go_sem], by simp [go_sem], by simp [go_sem], ?_, fun e => Nat.lt_irrefl _ (hl _ e).2⟩, hg.alloc _, Below.size hg, fun k e => (hl k e).1⟩
  have g1 : Grw y (y.alloc (.cells #[.int .i64 a, v] 101)) := (Grw.rfl' y).alloc _
  exact row_base (ownsRow_frm ho (g1.frm (fun _ => False)) (fun _ _ e => e)) (fun _ _ => Nat.zero_le _)
theorem nl_before {w y : World} {B : Nat} {a : Int} {v : Value} {l : List Wt} {u0 u1 : Value} (ho : y.ownsRow w.heap.size 77 3 v l.length (cw l)) (hg : Grw w y) (hB : w.heap.size ≤ B) (hne : v.ownBlock ≠ some B)
    (c0 : y.cell? ⟨B, 0, none⟩ = some u0) (c1 : y.cell? ⟨B, 1, none⟩ = some u1) (f1 : y.frozen? ⟨B, 1, none⟩ = false) : NL w ((y.setCell ⟨B, 0, none⟩ (.int .i64 a)).setCell ⟨B, 1, none⟩ v) B a v l := by
  have hl := ho.lt
  have r0 := Rest.set B 0 y (.int .i64 a)
  have r1 := Rest.set B 1 (y.setCell ⟨B, 0, none⟩ (.int .i64 a)) v
  have k0 : (y.setCell ⟨B, 0, none⟩ (.int .i64 a)).cell? ⟨B, 0, none⟩ = some (.int .i64 a) := World.cell?_setCell_same (u := _) _ _ _ c0
  have k1 : (y.setCell ⟨B, 0, none⟩ (.int .i64 a)).cell? ⟨B, 1, none⟩ = some u1 := (r0 1 (by decide)).1.trans c1
  have f : Frm (fun k => k = B) y ((y.setCell ⟨B, 0, none⟩ (.int .i64 a)).setCell ⟨B, 1, none⟩ v) := ((Frm.rfl' (fun k => k = B) y).set _ _ (Or.inl rfl)).set _ _ (Or.inl rfl)
  refine ⟨⟨(r1 0 (by decide)).1.trans k0, World.cell?_setCell_same (u := _) _ _ _ k1, by simp [f1], ?_, hne⟩, (hg.set hB _).set hB _, hB, fun k e => (hl k e).1⟩
  exact row_base (ownsRow_frm ho f (fun k hk e => hne (e ▸ hk))) (fun _ _ => Nat.zero_le _)
theorem new_line {y x : World} (h : Grw (y.alloc (.cells #[.int .i64 0, .slice none 0 0] 101)).drew x) :
    x.cell? ⟨y.heap.size, 0, none⟩ = some (.int .i64 0) ∧ x.cell? ⟨y.heap.size, 1, none⟩ = some (.slice none 0 0) ∧ x.frozen? ⟨y.heap.size, 0, none⟩ = false ∧ x.frozen? ⟨y.heap.size, 1, none⟩ = false := by
  have c0 : (y.alloc (.cells #[.int .i64 0, .slice none 0 0] 101)).drew.cell? ⟨y.heap.size, 0, none⟩ = some (.int .i64 0) := by simp [go_sem]
  have c1 : (y.alloc (.cells #[.int .i64 0, .slice none 0 0] 101)).drew.cell? ⟨y.heap.size, 1, none⟩ = some (.slice none 0 0) := by simp [go_sem]
  refine ⟨h.cell c0, h.cell c1, frz_frm (h.frm (fun _ => False)) c0 (fun e => e) (by simp [go_sem]), frz_frm (h.frm (fun _ => False)) c1 (fun e => e) (by simp [go_sem])⟩
theorem new_line_elim {y x : World} {C : Prop} (h : Grw (y.alloc (.cells #[.int .i64 0, .slice none 0 0] 101)).drew x)
    (k : x.cell? ⟨y.heap.size, 0, none⟩ = some (.int .i64 0) → x.cell? ⟨y.heap.size, 1, none⟩ = some (.slice none 0 0) → x.frozen? ⟨y.heap.size, 0, none⟩ = false → x.frozen? ⟨y.heap.size, 1, none⟩ = false → C) : C :=
  k (new_line h).1 (new_line h).2.1 (new_line h).2.2.1 (new_line h).2.2.2
theorem nl_after' {w y : World} {a : Int} {v : Value} {l : List Wt} {n : Nat} (hn : l.length = n) (ho : y.ownsRow w.drew.heap.size 77 3 v n (cw l)) (hg : Grw w y) : NL w (y.alloc (.cells #[.int .i64 a, v] 101)) y.heap.size a v l :=
  nl_after (hn ▸ ho) hg
theorem nl_before' {w y : World} {o : Obj} {a : Int} {v : Value} {l : List Wt} {u0 u1 : Value} {n : Nat} (hn : l.length = n) (ho : y.ownsRow (w.alloc o).drew.heap.size 77 3 v n (cw l)) (hg : Grw w y)
    (c0 : y.cell? ⟨w.heap.size, 0, none⟩ = some u0) (c1 : y.cell? ⟨w.heap.size, 1, none⟩ = some u1) (f1 : y.frozen? ⟨w.heap.size, 1, none⟩ = false) : NL w ((y.setCell ⟨w.heap.size, 0, none⟩ (.int .i64 a)).setCell ⟨w.heap.size, 1, none⟩ v) w.heap.size a v l := by
  subst hn
  have e : (w.alloc o).drew.heap.size = w.heap.size + 1 := size_new w o
  rw [e] at ho
  have hl := ho.lt
  exact nl_before (row_base ho (fun k hk => by have := (hl k hk).1; omega)) hg (Nat.le_refl _) (fun hk => by have := (hl _ hk).1; omega) c0 c1 f1
theorem LR.lq {w x w' : World} {B g cap : Nat} {a : Int} {l m L : List Wt} (h : LS B 0 a g cap 0 l.length x l w' m) (hs : Srtd a 0 l.length m) (hp : l.Perm L) (hg : Grw w x) (hn : w.heap.size ≤ g) : LQ a L w (.slice (some ⟨g, 0, none⟩) m.length cap) m w' :=
  ⟨row_base h.r.row (fun k e => by injection e with e; rw [← e]; exact hn), h.p.perm.trans hp, by rw [h.p.len]; exact hs, h.f.grw hg (fun k e => e ▸ hn)⟩
set_option maxHeartbeats 2000000 in
set_option maxRecDepth 100000 in
theorem list_is {p : Nat} {a room count : Int} {v : Value} {L : List Wt} {w : World} (h : QU w p a room count v L) :
    Calls Tryz.prog 63 #[.pointer (some ⟨p, 0, none⟩)] w fun e w' => ∃ u s, e = .returned u ∧ LQ a L w u s w' := by
  obtain ⟨l, hl, hp, _⟩ := h.line
  rcases hl.row.2 with ⟨h1, h2⟩ | ⟨g, cap, cur, h1, _⟩
  · subst h1
    have e := List.eq_nil_of_length_eq_zero h2
    subst e
    have e2 : L = [] := List.eq_nil_of_length_eq_zero hp.length_eq.symm
    subst e2
    exact (list_empty h).mono fun _ _ ⟨he, hg⟩ => ⟨_, [], he, World.ownsRow_nil _ _ _ _, List.Perm.refl _, Srtd.small a (by simp) _, hg⟩
  · subst h1
    have c2 := hl.c0
    have c3 := hl.c1
    have hb : l.length ≤ 1000000 := by have := hp.length_eq; have := h.len; omega
    have hli : Lies w (some ⟨g, 0, none⟩) (cw l) := by
      obtain ⟨ao, cap', e, hli⟩ := ownsRow_lies hl.row
      injection e with e
      rw [e]; exact hli
    have HI := Lib.hid (show (l.map Wt.id).Nodup from ((hp.map Wt.id).nodup_iff).2 h.ids)
    have HP := Lib.hid (And.intro hp hb)
    obtain ⟨n, hn⟩ : ∃ n, l.length = n := ⟨_, rfl⟩
    have SS : Hid (∀ u, Grw w u → (u.cell? ⟨p, 2, none⟩ = some (.int .i64 a) ∧ u.cell? ⟨p, 3, none⟩ = some (.slice (some ⟨g, 0, none⟩) n cap))) :=
      (fun u k => ⟨k.cell c2, hn ▸ k.cell c3⟩ : ∀ u, Grw w u → (u.cell? ⟨p, 2, none⟩ = some (.int .i64 a) ∧ u.cell? ⟨p, 3, none⟩ = some (.slice (some ⟨g, 0, none⟩) n cap)))
    have CN : Hid (∀ u, Grw w u → Calls Tryz.prog 71 #[.slice (some ⟨g, 0, none⟩) n cap] u fun e w' => ∃ ao cap', e = .returned (.slice ao n cap') ∧ w'.ownsRow u.heap.size 77 3 (.slice ao n cap') n (cw l) ∧ Grw u w') :=
      (fun u k => hn ▸ (clone_is ⟨g, 0, none⟩ cap l u (hli.later k) hb).mono (fun _ _ ⟨v', he, ho, hg⟩ => by
        obtain ⟨ao, cap', hv⟩ := own_slice (row_base ho (fun _ _ => Nat.zero_le _))
        subst hv
        exact ⟨ao, cap', he, ho, hg⟩) : ∀ u, Grw w u → Calls Tryz.prog 71 #[.slice (some ⟨g, 0, none⟩) n cap] u fun e w' => ∃ ao cap', e = .returned (.slice ao n cap') ∧ w'.ownsRow u.heap.size 77 3 (.slice ao n cap') n (cw l) ∧ Grw u w')
    have HN := Lib.hid hn
    clear h hl hp c2 c3 hli hb hn
    go_enter Tryz.func63, Tryz.ntmps63
    go_upto_region 3 with fail
    go_cut [3] from 6 to 18 (fun s3 wx => ∃ B ao cap', s3 = .pointer (some ⟨B, 0, none⟩) ∧ NL w wx B a (.slice ao n cap') l)
    case first =>
      go_region_held3 (fun u => u.cell? ⟨p, 2, none⟩ = some (.int .i64 a) ∧ u.cell? ⟨p, 3, none⟩ = some (.slice (some ⟨g, 0, none⟩) n cap))
        ((refine SS.out _ ?_; repeat (first | with_reducible exact Grw.rfl' _ | assumption | with_reducible refine Grw.drew ?_ | with_reducible refine Grw.alloc ?_ _ | with_reducible refine Grw.set ?_ (Nat.le_refl _) _ | with_reducible refine Grw.set ?_ (Below.size hG) _)))
        (first | (go_at_call 71; refine (CN.out _ (by repeat (first | with_reducible exact Grw.rfl' _ | with_reducible refine Grw.drew ?_ | with_reducible refine Grw.alloc ?_ _))).mono ?_; rintro _ w1 ⟨ao, cap', rfl, ho, hg⟩; have hG : Grw w w1 := Grw.trans (by repeat (first | with_reducible exact Grw.rfl' _ | with_reducible refine Grw.drew ?_ | with_reducible refine Grw.alloc ?_ _)) hg; first | (refine new_line_elim hg ?_; intro k0 k1 e0 e1) | skip))
      all_goals
        go_wp2_with fail
        go_meet
      case rel => exact ⟨_, ao, cap', rfl, nl_after' HN.out ho hG⟩
      case rel => exact ⟨_, ao, cap', rfl, nl_before' HN.out ho hG k0 k1 e1⟩
    case rest =>
      obtain ⟨B, ao, cap', rfl, hN⟩ := hcut
      have hc1 := hN.r.c1
      rcases Nat.eq_zero_or_pos n with z | z
      · subst z
        have C := Lib.hid (sort_none B 0 ao 0 cap' wc hc1 (by decide))
        have R : Hid (LQ a L w (.slice ao 0 cap') [] wc) := (by
          have e : l = [] := List.eq_nil_of_length_eq_zero HN.out
          have hp := HP.out.1
          subst e
          exact ⟨row_base hN.r.row hN.n, hp, Srtd.small a (by simp) _, hN.gw⟩ : LQ a L w (.slice ao 0 cap') [] wc)
        have C1 := Lib.hid hc1
        clear hN
        go_wp2_with fail
        refine C.out.mono ?_
        rintro _ _ ⟨rfl, rfl⟩
        go_wp2_with fail
        go_ret
        exact ⟨_, _, rfl, R.out⟩
      · have e0 : l ≠ [] := fun e => by have := HN.out; rw [e] at this; simp at this; omega
        obtain ⟨n', hn'⟩ : ∃ n', n = n' := ⟨_, rfl⟩
        have hnn := HN.out
        subst hnn
        obtain ⟨g', c', hv, hr⟩ := hN.r.lr e0
        injection hv with hv1 hv2 hv3
        subst hv1
        subst hv3
        have S := Lib.hid (sort_is B 0 a g' cap' l wc hr HP.out.2 HI.out)
        have hp := HP.out.1
        have R := Lib.hid (fun w' m (h1 : LS B 0 a g' cap' 0 l.length wc l w' m) h2 => (LR.lq h1 h2 hp hN.gw (hN.n g' rfl) : LQ a L w (.slice (some ⟨g', 0, none⟩) m.length cap') m w'))
        have M := Lib.hid (fun w' m (h1 : LS B 0 a g' cap' 0 l.length wc l w' m) => h1.r.c1)
        clear hN hr hp hc1 hn' n'
        go_wp2_with fail
        refine S.out.mono ?_
        rintro _ w2 ⟨rfl, m, h1, h2⟩
        have c1 := M.out w2 m h1
        have RR := Lib.hid (R.out w2 m h1 h2)
        clear h1 h2
        go_wp2_with fail
        go_ret
        exact ⟨_, _, rfl, RR.out⟩
end QQ
end Go.Proofs.YtlopijcpnfkcgaaGreat

/- Two rows alike; a line in turn is one only. -/
namespace Go.Proofs.YtlopijcpnfkcgaaGreat
namespace QQ
open Go.RowKit
set_option linter.unusedSimpArgs false

set_option maxHeartbeats 1000000 in
set_option maxRecDepth 100000 in
theorem waits_same (ao bo : Option Addr) (ca cb : Nat) (l : List Wt) (w : World) (hb : l.length ≤ 1000000) (ra : Lies w ao (cw l)) (rb : Lies w bo (cw l)) :
    Calls Tryz.prog 47 #[.slice ao l.length ca, .slice bo l.length cb] w fun e w' => e = .returned (.bool true) ∧ Grw w w' := by
  have RA := Lib.hid ra
  have RB := Lib.hid rb
  obtain ⟨n, hn⟩ : ∃ n, l.length = n := ⟨_, rfl⟩
  rw [hn] at hb ⊢
  have HN := Lib.hid hn
  clear ra rb hn
  go_enter Tryz.func47, Tryz.ntmps47
  go_wp2_with fail
  go_loopw [5] (fun i wr => ∃ k : Nat, k ≤ n ∧ i = .int .i64 k ∧ Grw w wr) (fun i _ => n - (intOf i).toNat)
  case atStart => exact ⟨0, Nat.zero_le _, rfl, Grw.rfl' _⟩
  case round =>
    obtain ⟨k, hk, rfl, hg⟩ := hrel
    by_cases hk' : k < n
    · have hki : (k : Int) < (n : Int) := by omega
      have hkl : k < l.length := by rw [HN.out]; exact hk'
      obtain ⟨b, off, rfl, c0, c1, c2⟩ := wlies_at (RA.out.later hg) hkl
      obtain ⟨b2, off2, rfl, e0, e1, e2⟩ := wlies_at (RB.out.later hg) hkl
      obtain ⟨x, hx⟩ : ∃ x, l[k] = x := ⟨_, rfl⟩
      rw [hx] at c0 c1 c2 e0 e1 e2
      obtain ⟨xi, xt, xc⟩ := x
      simp only at c0 c1 c2 e0 e1 e2
      have G := Lib.hid hg
      clear hx hg
      go_wp2_with fail
      go_quiet (fail)
      go_wp2_with fail
      go_roundw
      case rel => exact ⟨k + 1, by omega, by go_num, G.out.drewN _⟩
      case measure => simp [intOf]; omega
    · have hki : ¬ (k : Int) < (n : Int) := by omega
      go_wp2_with fail
      go_ret
      exact ⟨rfl, hg⟩

/-- in turn, as pairs. -/
theorem Srtd.pw {a : Int} {l : List Wt} (h : Srtd a 0 l.length l) : l.Pairwise fun x y => les a y x = false := by
  rw [List.pairwise_iff_getElem]
  intro i j hi hj hij
  have := h i j (Nat.zero_le _) hij hj
  rw [gt_at hi, gt_at hj] at this
  exact this
theorem one_order {a : Int} : ∀ {l m : List Wt}, l.Perm m → (l.map Wt.id).Nodup → (l.Pairwise fun x y => les a y x = false) → (m.Pairwise fun x y => les a y x = false) → l = m
  | [], m, hp, _, _, _ => (List.eq_nil_of_length_eq_zero hp.length_eq.symm).symm
  | x :: l, [], hp, _, _, _ => by have := hp.length_eq; simp at this
  | x :: l, y :: m, hp, hn, h1, h2 => by
    have hx : x = y := by
      rcases List.mem_cons.1 (hp.mem_iff.1 (List.mem_cons_self ..)) with e | e
      · exact e
      · rcases List.mem_cons.1 (hp.symm.mem_iff.1 (List.mem_cons_self (a := y) (l := m))) with e' | e'
        · exact e'.symm
        · have f1 := (List.pairwise_cons.1 h2).1 x e
          have f2 := (List.pairwise_cons.1 h1).1 y e'
          have hne : x.id ≠ y.id := fun c => by
            rw [List.map_cons, List.nodup_cons] at hn
            exact hn.1 (c ▸ List.mem_map_of_mem e')
          have := les_tot f1 hne
          rw [f2] at this
          cases this
    subst hx
    rw [List.map_cons, List.nodup_cons] at hn
    rw [one_order ((List.perm_cons x).1 hp) hn.2 (List.pairwise_cons.1 h1).2 (List.pairwise_cons.1 h2).2]
theorem LQ.one {a : Int} {L : List Wt} {w w1 x x1 : World} {u v : Value} {s t : List Wt} (h : LQ a L w u s x) (k : LQ a L w1 v t x1) (hn : (L.map Wt.id).Nodup) : s = t :=
  one_order (h.perm.trans k.perm.symm) (((h.perm.map Wt.id).nodup_iff).2 hn) h.srt.pw k.srt.pw
/-- where nobody was let in twice there is a first one. -/
theorem fst_ex (a : Int) : ∀ (L : List Wt), 0 < L.length → (L.map Wt.id).Nodup → ∃ k, Fst a L k := by
  intro L h0 hn
  have key : ∀ n, 0 < n → n ≤ L.length → ∃ k, k < n ∧ ∀ i, i < n → les a (gt L i) (gt L k) = false := by
    intro n
    induction n with
    | zero => intro h; omega
    | succ n ih =>
      intro _ h2
      by_cases c : n = 0
      · exact ⟨0, by omega, fun i hi => by have : i = 0 := by omega
                                           subst this; exact les_irr _ _⟩
      · obtain ⟨k, hk, hf⟩ := ih (by omega) (by omega)
        cases e : les a (gt L n) (gt L k) with
        | false => exact ⟨k, by omega, fun i hi => by
            by_cases ci : i = n
            · subst ci; exact e
            · exact hf i (by omega)⟩
        | true => exact ⟨n, by omega, fun i hi => by
            by_cases ci : i = n
            · subst ci; exact les_irr _ _
            · have := hf i (by omega)
              exact les_neg (les_asym e) this⟩
  obtain ⟨k, hk, hf⟩ := key L.length h0 (Nat.le_refl _)
  have hf' : ∀ i (hi : i < L.length), les a L[i] L[k] = false := fun i hi => by have := hf i hi; rw [gt_at hi, gt_at hk] at this; exact this
  refine ⟨k, hk, hf', fun i hi hik => les_tot (hf' i hi) fun c => ?_⟩
  have := ids_inj hn hi hk (by rw [gt_at hi, gt_at hk]; exact c)
  omega
/-- who is let in one after another. -/
def ln : Nat → List Wt
  | 0 => []
  | k + 1 => ln k ++ [⟨(k : Int), (k : Int) % 8, 0⟩]
theorem ln_len (k : Nat) : (ln k).length = k := by
  induction k with
  | zero => rfl
  | succ k ih => simp [ln, ih]
theorem ln_mem {k : Nat} {x : Wt} (h : x ∈ ln k) : 0 ≤ x.id ∧ x.id < (k : Int) := by
  induction k with
  | zero => cases h
  | succ k ih =>
    unfold ln at h
    rcases List.mem_append.1 h with h | h
    · have := ih h; omega
    · simp at h; subst h; simp only; omega
theorem ln_gt {n : Nat} : ∀ {k : Nat}, k < n → (gt (ln n) k).id = (k : Int) := by
  induction n with
  | zero => intro k h; omega
  | succ n ih =>
    intro k h
    by_cases c : k < n
    · have := ih c
      rw [gt_at (by rw [ln_len]; omega)]
      rw [gt_at (by rw [ln_len]; omega)] at this
      simp only [ln]
      rw [List.getElem_append_left (by rw [ln_len]; exact c)]
      exact this
    · have e : k = n := by omega
      subst e
      rw [gt_at (by rw [ln_len]; omega)]
      simp only [ln]
      rw [List.getElem_append_right (by rw [ln_len]; omega)]
      simp
theorem ln_no {n : Nat} {id : Int} (h : (n : Int) ≤ id) : ∀ j, j < (ln n).length → (gt (ln n) j).id ≠ id := fun j hj c => by
  have := ln_mem (gt_mem hj); omega
theorem rem_mem {L : List Wt} {k : Nat} {x : Wt} (h : x ∈ rem L k) : x ∈ L := by
  unfold rem at h
  rcases List.mem_append.1 h with h | h
  · exact List.mem_of_mem_take h
  · exact List.mem_of_mem_drop h
theorem rem_gone {L : List Wt} (hn : (L.map Wt.id).Nodup) {k : Nat} (hk : k < L.length) : ∀ j, j < (rem L k).length → (gt (rem L k) j).id ≠ (gt L k).id := fun j hj c => by
  have h := ((rem_perm hk).map Wt.id).nodup_iff.1 hn
  rw [List.map_append] at h
  exact (List.nodup_append.1 h).2.2 _ (List.mem_map_of_mem (gt_mem hj)) _ (List.mem_map_of_mem (List.mem_singleton.2 rfl)) c
end QQ
end Go.Proofs.YtlopijcpnfkcgaaGreat
