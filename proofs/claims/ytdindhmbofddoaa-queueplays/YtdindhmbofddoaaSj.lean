/- The queue's List. -/
import Derived.Test.YtdindhmbofddoaaSi
namespace Go.Proofs.Ytdindhmbofddoaa
open Go.RowKit
set_option linter.unusedSimpArgs false

theorem row_base {w : World} {B B' n : Nat} {e : TypeId} {size : Nat} {v : Value} {xs : List Value} (h : w.ownsRow B e size v n xs) (hb : ∀ k, v.ownBlock = some k → B' ≤ k) : w.ownsRow B' e size v n xs := by
  refine ⟨h.1, ?_⟩
  rcases h.2 with hn' | ⟨b, cap, cur, rfl, _, r⟩
  · exact Or.inl hn'
  · exact Or.inr ⟨b, cap, cur, rfl, hb b rfl, r⟩
/-- a row made since w that holds L, in turn. -/
structure LQ (a : Int) (L : List Wt) (w : World) (u : Value) (s : List Wt) (w' : World) : Prop where
  row : w'.ownsRow w.heap.size 37 3 u s.length (cw s)
  perm : s.Perm L
  srt : Srtd a 0 s.length s
  gw : Grw w w'
/-- the line made for the sort. -/
structure NL (w x : World) (B : Nat) (a : Int) (v : Value) (l : List Wt) : Prop where
  r : LV B 0 a v x l
  gw : Grw w x
  b : w.heap.size ≤ B
  n : ∀ k, v.ownBlock = some k → w.heap.size ≤ k
theorem nl_after {w y : World} {a : Int} {v : Value} {l : List Wt} (ho : y.ownsRow w.heap.size 37 3 v l.length (cw l)) (hg : Grw w y) : NL w (y.alloc (.cells #[.int .i64 a, v] 57)) y.heap.size a v l := by
  have hl := ho.lt
  refine ⟨⟨by simp [go_sem], by simp [go_sem], by simp [go_sem], ?_, fun e => Nat.lt_irrefl _ (hl _ e).2⟩, hg.alloc _, Below.size hg, fun k e => (hl k e).1⟩
  have g1 : Grw y (y.alloc (.cells #[.int .i64 a, v] 57)) := (Grw.rfl' y).alloc _
  exact row_base (ownsRow_frm ho (g1.frm (fun _ => False)) (fun _ _ e => e)) (fun _ _ => Nat.zero_le _)
theorem nl_before {w y : World} {B : Nat} {a : Int} {v : Value} {l : List Wt} {u0 u1 : Value} (ho : y.ownsRow w.heap.size 37 3 v l.length (cw l)) (hg : Grw w y) (hB : w.heap.size ≤ B) (hne : v.ownBlock ≠ some B)
    (c0 : y.cell? ⟨B, 0, none⟩ = some u0) (c1 : y.cell? ⟨B, 1, none⟩ = some u1) (f1 : y.frozen? ⟨B, 1, none⟩ = false) : NL w ((y.setCell ⟨B, 0, none⟩ (.int .i64 a)).setCell ⟨B, 1, none⟩ v) B a v l := by
  have hl := ho.lt
  have r0 := Rest.set B 0 y (.int .i64 a)
  have r1 := Rest.set B 1 (y.setCell ⟨B, 0, none⟩ (.int .i64 a)) v
  have k0 : (y.setCell ⟨B, 0, none⟩ (.int .i64 a)).cell? ⟨B, 0, none⟩ = some (.int .i64 a) := World.cell?_setCell_same (u := _) _ _ _ c0
  have k1 : (y.setCell ⟨B, 0, none⟩ (.int .i64 a)).cell? ⟨B, 1, none⟩ = some u1 := (r0 1 (by decide)).1.trans c1
  have f : Frm (fun k => k = B) y ((y.setCell ⟨B, 0, none⟩ (.int .i64 a)).setCell ⟨B, 1, none⟩ v) := ((Frm.rfl' (fun k => k = B) y).set _ _ (Or.inl rfl)).set _ _ (Or.inl rfl)
  refine ⟨⟨(r1 0 (by decide)).1.trans k0, World.cell?_setCell_same (u := _) _ _ _ k1, by simp [f1], ?_, hne⟩, (hg.set hB _).set hB _, hB, fun k e => (hl k e).1⟩
  exact row_base (ownsRow_frm ho f (fun k hk e => hne (e ▸ hk))) (fun _ _ => Nat.zero_le _)
theorem new_line {y x : World} (h : Grw (y.alloc (.cells #[.int .i64 0, .slice none 0 0] 57)).drew x) :
    x.cell? ⟨y.heap.size, 0, none⟩ = some (.int .i64 0) ∧ x.cell? ⟨y.heap.size, 1, none⟩ = some (.slice none 0 0) ∧ x.frozen? ⟨y.heap.size, 0, none⟩ = false ∧ x.frozen? ⟨y.heap.size, 1, none⟩ = false := by
  have c0 : (y.alloc (.cells #[.int .i64 0, .slice none 0 0] 57)).drew.cell? ⟨y.heap.size, 0, none⟩ = some (.int .i64 0) := by simp [go_sem]
  have c1 : (y.alloc (.cells #[.int .i64 0, .slice none 0 0] 57)).drew.cell? ⟨y.heap.size, 1, none⟩ = some (.slice none 0 0) := by simp [go_sem]
  refine ⟨h.cell c0, h.cell c1, frz_frm (h.frm (fun _ => False)) c0 (fun e => e) (by simp [go_sem]), frz_frm (h.frm (fun _ => False)) c1 (fun e => e) (by simp [go_sem])⟩
theorem new_line_elim {y x : World} {C : Prop} (h : Grw (y.alloc (.cells #[.int .i64 0, .slice none 0 0] 57)).drew x)
    (k : x.cell? ⟨y.heap.size, 0, none⟩ = some (.int .i64 0) → x.cell? ⟨y.heap.size, 1, none⟩ = some (.slice none 0 0) → x.frozen? ⟨y.heap.size, 0, none⟩ = false → x.frozen? ⟨y.heap.size, 1, none⟩ = false → C) : C :=
  k (new_line h).1 (new_line h).2.1 (new_line h).2.2.1 (new_line h).2.2.2
theorem nl_after' {w y : World} {a : Int} {v : Value} {l : List Wt} {n : Nat} (hn : l.length = n) (ho : y.ownsRow w.drew.heap.size 37 3 v n (cw l)) (hg : Grw w y) : NL w (y.alloc (.cells #[.int .i64 a, v] 57)) y.heap.size a v l :=
  nl_after (hn ▸ ho) hg
theorem nl_before' {w y : World} {o : Obj} {a : Int} {v : Value} {l : List Wt} {u0 u1 : Value} {n : Nat} (hn : l.length = n) (ho : y.ownsRow (w.alloc o).drew.heap.size 37 3 v n (cw l)) (hg : Grw w y)
    (c0 : y.cell? ⟨w.heap.size, 0, none⟩ = some u0) (c1 : y.cell? ⟨w.heap.size, 1, none⟩ = some u1) (f1 : y.frozen? ⟨w.heap.size, 1, none⟩ = false) : NL w ((y.setCell ⟨w.heap.size, 0, none⟩ (.int .i64 a)).setCell ⟨w.heap.size, 1, none⟩ v) w.heap.size a v l := by
  subst hn
  have e : (w.alloc o).drew.heap.size = w.heap.size + 1 := size_new w o
  rw [e] at ho
  have hl := ho.lt
  exact nl_before (row_base ho (fun k hk => by have := (hl k hk).1; omega)) hg (Nat.le_refl _) (fun hk => by have := (hl _ hk).1; omega) c0 c1 f1
theorem LR.lq {w x w' : World} {B g cap : Nat} {a : Int} {l m L : List Wt} (h : LS B 0 a g cap 0 l.length x l w' m) (hs : Srtd a 0 l.length m) (hp : l.Perm L) (hg : Grw w x) (hn : w.heap.size ≤ g) : LQ a L w (.slice (some ⟨g, 0, none⟩) m.length cap) m w' :=
  ⟨row_base h.r.row (fun k e => by injection e with e; rw [← e]; exact hn), h.p.perm.trans hp, by rw [h.p.len]; exact hs, h.f.grw hg (fun k e => e ▸ hn)⟩
set_option maxHeartbeats 2000000 in
set_option maxRecDepth 100000 in
theorem list_is {p : Nat} {a room count : Int} {v : Value} {L : List Wt} {w : World} (h : QU w p a room count v L) :
    Calls Try.prog 21 #[.pointer (some ⟨p, 0, none⟩)] w fun e w' => ∃ u s, e = .returned u ∧ LQ a L w u s w' := by
  obtain ⟨l, hl, hp, _⟩ := h.line
  rcases hl.row.2 with ⟨h1, h2⟩ | ⟨g, cap, cur, h1, _⟩
  · subst h1
    have e := List.eq_nil_of_length_eq_zero h2
    subst e
    have e2 : L = [] := List.eq_nil_of_length_eq_zero hp.length_eq.symm
    subst e2
    exact (list_empty h).mono fun _ _ ⟨he, hg⟩ => ⟨_, [], he, World.ownsRow_nil _ _ _ _, List.Perm.refl _, Srtd.small a (by simp) _, hg⟩
  · subst h1
    have c2 := hl.c0
    have c3 := hl.c1
    have hb : l.length ≤ 1000000 := by have := hp.length_eq; have := h.len; omega
    have hli : Lies w (some ⟨g, 0, none⟩) (cw l) := by
      obtain ⟨ao, cap', e, hli⟩ := ownsRow_lies hl.row
      injection e with e
      rw [e]; exact hli
    have HI := Lib.hid (show (l.map Wt.id).Nodup from ((hp.map Wt.id).nodup_iff).2 h.ids)
    have HP := Lib.hid (And.intro hp hb)
    obtain ⟨n, hn⟩ : ∃ n, l.length = n := ⟨_, rfl⟩
    have SS : Hid (∀ u, Grw w u → (u.cell? ⟨p, 2, none⟩ = some (.int .i64 a) ∧ u.cell? ⟨p, 3, none⟩ = some (.slice (some ⟨g, 0, none⟩) n cap))) :=
      (fun u k => ⟨k.cell c2, hn ▸ k.cell c3⟩ : ∀ u, Grw w u → (u.cell? ⟨p, 2, none⟩ = some (.int .i64 a) ∧ u.cell? ⟨p, 3, none⟩ = some (.slice (some ⟨g, 0, none⟩) n cap)))
    have CN : Hid (∀ u, Grw w u → Calls Try.prog 33 #[.slice (some ⟨g, 0, none⟩) n cap] u fun e w' => ∃ ao cap', e = .returned (.slice ao n cap') ∧ w'.ownsRow u.heap.size 37 3 (.slice ao n cap') n (cw l) ∧ Grw u w') :=
      (fun u k => hn ▸ (clone_is ⟨g, 0, none⟩ cap l u (hli.later k) hb).mono (fun _ _ ⟨v', he, ho, hg⟩ => by
        obtain ⟨ao, cap', hv⟩ := own_slice (row_base ho (fun _ _ => Nat.zero_le _))
        subst hv
        exact ⟨ao, cap', he, ho, hg⟩) : ∀ u, Grw w u → Calls Try.prog 33 #[.slice (some ⟨g, 0, none⟩) n cap] u fun e w' => ∃ ao cap', e = .returned (.slice ao n cap') ∧ w'.ownsRow u.heap.size 37 3 (.slice ao n cap') n (cw l) ∧ Grw u w')
    have HN := Lib.hid hn
    clear h hl hp c2 c3 hli hb hn
    go_enter Try.func21, Try.ntmps21
    go_upto_region 3 with fail
    go_cut [3] from 6 to 18 (fun s3 wx => ∃ B ao cap', s3 = .pointer (some ⟨B, 0, none⟩) ∧ NL w wx B a (.slice ao n cap') l)
    case first =>
      go_region_held3 (fun u => u.cell? ⟨p, 2, none⟩ = some (.int .i64 a) ∧ u.cell? ⟨p, 3, none⟩ = some (.slice (some ⟨g, 0, none⟩) n cap))
        ((refine SS.out _ ?_; repeat (first | with_reducible exact Grw.rfl' _ | assumption | with_reducible refine Grw.drew ?_ | with_reducible refine Grw.alloc ?_ _ | with_reducible refine Grw.set ?_ (Nat.le_refl _) _ | with_reducible refine Grw.set ?_ (Below.size hG) _)))
        (first | (go_at_call 33; refine (CN.out _ (by repeat (first | with_reducible exact Grw.rfl' _ | with_reducible refine Grw.drew ?_ | with_reducible refine Grw.alloc ?_ _))).mono ?_; rintro _ w1 ⟨ao, cap', rfl, ho, hg⟩; have hG : Grw w w1 := Grw.trans (by repeat (first | with_reducible exact Grw.rfl' _ | with_reducible refine Grw.drew ?_ | with_reducible refine Grw.alloc ?_ _)) hg; first | (refine new_line_elim hg ?_; intro k0 k1 e0 e1) | skip))
      all_goals
        go_wp2_with fail
        go_meet
      case rel => exact ⟨_, ao, cap', rfl, nl_after' HN.out ho hG⟩
      case rel => exact ⟨_, ao, cap', rfl, nl_before' HN.out ho hG k0 k1 e1⟩
    case rest =>
      obtain ⟨B, ao, cap', rfl, hN⟩ := hcut
      have hc1 := hN.r.c1
      rcases Nat.eq_zero_or_pos n with z | z
      · subst z
        have C := Lib.hid (sort_none B 0 ao 0 cap' wc hc1 (by decide))
        have R : Hid (LQ a L w (.slice ao 0 cap') [] wc) := (by
          have e : l = [] := List.eq_nil_of_length_eq_zero HN.out
          have hp := HP.out.1
          subst e
          exact ⟨row_base hN.r.row hN.n, hp, Srtd.small a (by simp) _, hN.gw⟩ : LQ a L w (.slice ao 0 cap') [] wc)
        have C1 := Lib.hid hc1
        clear hN
        go_wp2_with fail
        refine C.out.mono ?_
        rintro _ _ ⟨rfl, rfl⟩
        go_wp2_with fail
        go_ret
        exact ⟨_, _, rfl, R.out⟩
      · have e0 : l ≠ [] := fun e => by have := HN.out; rw [e] at this; simp at this; omega
        obtain ⟨n', hn'⟩ : ∃ n', n = n' := ⟨_, rfl⟩
        have hnn := HN.out
        subst hnn
        obtain ⟨g', c', hv, hr⟩ := hN.r.lr e0
        injection hv with hv1 hv2 hv3
        subst hv1
        subst hv3
        have S := Lib.hid (sort_is B 0 a g' cap' l wc hr HP.out.2 HI.out)
        have hp := HP.out.1
        have R := Lib.hid (fun w' m (h1 : LS B 0 a g' cap' 0 l.length wc l w' m) h2 => (LR.lq h1 h2 hp hN.gw (hN.n g' rfl) : LQ a L w (.slice (some ⟨g', 0, none⟩) m.length cap') m w'))
        have M := Lib.hid (fun w' m (h1 : LS B 0 a g' cap' 0 l.length wc l w' m) => h1.r.c1)
        clear hN hr hp hc1 hn' n'
        go_wp2_with fail
        refine S.out.mono ?_
        rintro _ w2 ⟨rfl, m, h1, h2⟩
        have c1 := M.out w2 m h1
        have RR := Lib.hid (R.out w2 m h1 h2)
        clear h1 h2
        go_wp2_with fail
        go_ret
        exact ⟨_, _, rfl, RR.out⟩
end Go.Proofs.Ytdindhmbofddoaa
