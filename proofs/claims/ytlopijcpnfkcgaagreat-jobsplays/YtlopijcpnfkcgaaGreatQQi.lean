/- heap.Push, Pop and Remove at the line. -/
import Derived.Test.YtlopijcpnfkcgaaGreatQQd
namespace Go.Proofs.YtlopijcpnfkcgaaGreat
namespace QQ
open Go.RowKit
set_option linter.unusedSimpArgs false

theorem Hp.push {a : Int} {l : List Wt} (h : Hp a l l.length) (x : Wt) : HU a (l ++ [x]) (l.length + 1) l.length := by
  have e : ∀ k, k < l.length → gt (l ++ [x]) k = gt l k := fun k hk => by simp [gt, List.getD, List.getElem?_append_left hk]
  refine ⟨fun k h0 hk hn => ?_, fun k h0 hk hp hl => ?_⟩
  · rw [e k (by omega), e _ (by omega)]; exact h k h0 (by omega)
  · omega
theorem Near.frm {w w1 w2 : World} {b : Nat} {v v' : Value} {g : Nat} (hn : Near w v v') (hg : v'.ownBlock = some g) (f : Frm (fun k => k = b ∨ v.ownBlock = some k) w w1) (f' : Frm (fun k => k = g) w1 w2) : Frm (fun k => k = b ∨ v.ownBlock = some k) w w2 :=
  f.trans f' (fun k e => by
    subst e
    rcases hn with hn | ⟨k', hk, hw⟩
    · exact Or.inl (Or.inr (hn ▸ hg))
    · rw [hg] at hk; injection hk with hk; exact Or.inr (hk ▸ hw))
set_option maxHeartbeats 1000000 in
set_option maxRecDepth 100000 in
theorem heap_push (b o : Nat) (a : Int) (v : Value) (l : List Wt) (x : Wt) (w : World) (h : LV b o a v w l) (hb : l.length ≤ 100000) (hp : Hp a l l.length) :
    Calls Tryz.prog 52 #[.iface 109 (.pointer (some ⟨b, o, none⟩)), .iface 77 (wv x)] w fun e w' => e = .returned (.tuple #[]) ∧ ∃ v' l', LV b o a v' w' l' ∧ Frm (fun k => k = b ∨ v.ownBlock = some k) w w' ∧ Near w v v' ∧ l'.Perm (l ++ [x]) ∧ Hp a l' l'.length ∧ Rest b (o + 1) w w' := by
  have H := Lib.hid h
  have HP := Lib.hid hp
  have mP := meth_push b o
  have mN := meth_len b o
  obtain ⟨n, hn⟩ : ∃ n, l.length = n := ⟨_, rfl⟩
  have HN := Lib.hid hn
  rw [hn] at hb
  have q1 : IntKind.i64.wrap (((n + 1 : Nat) : Int) - 1) = (n : Int) := by simp [IntKind.wrap_i64]; omega
  obtain ⟨m, hm⟩ : ∃ m, n + 1 = m := ⟨_, rfl⟩
  have HM := Lib.hid hm
  rw [hm] at q1
  obtain ⟨xv, hxv⟩ : ∃ xv, wv x = xv := ⟨_, rfl⟩
  have PU := Lib.hid (fun w h => line_push b o a v l x w h (by omega))
  rw [hxv] at PU ⊢
  clear h hp hn hm hxv
  go_enter Tryz.func52, Tryz.ntmps52
  go_wp2_with fail
  refine (PU.out _ H.out).mono ?_
  rintro _ w1 ⟨rfl, v1, h1, f1, n1, r1⟩
  have R1 := Lib.hid r1
  have H1 := Lib.hid h1
  have F1 := Lib.hid f1
  have N1 := Lib.hid n1
  clear h1 f1 n1 r1
  go_wp2_with fail
  refine (H1.out.len (n := m) (by rw [List.length_append, HN.out]; exact HM.out)).mono ?_
  rintro _ w2 ⟨rfl, rfl⟩
  obtain ⟨g, cap, hv, hr⟩ := H1.out.lr (by simp)
  have hlen : (l ++ [x]).length = m := by rw [List.length_append, HN.out]; exact HM.out
  have UP := Lib.hid (up_is b o a g cap m n (l ++ [x]) w1 hr (by rw [hlen]; exact Nat.le_refl _) (by rw [hlen]; have := HM.out; omega) (by have := HM.out; omega) (by have := HP.out.push x; rw [HN.out, HM.out] at this; exact this))
  have HV := Lib.hid hv
  have HL := Lib.hid hlen
  clear hv hr hlen
  go_wp2_with fail
  refine UP.out.mono ?_
  rintro _ w3 ⟨rfl, l', h1, f1, p1, hp1, _⟩
  have R := Lib.hid (And.intro h1 (And.intro f1 (And.intro p1 hp1)))
  clear h1 f1 p1 hp1
  go_wp2_with fail
  go_end0
  obtain ⟨h1, f1, p1, hp1⟩ := R.out
  have e : l'.length = m := p1.length_eq.trans HL.out
  have hv1 : v1.ownBlock = some g := by rw [HV.out]; rfl
  refine ⟨rfl, _, l', h1.lv, N1.out.frm hv1 F1.out f1, ?_, p1, by rw [e]; exact hp1, R1.out.trans (Rest.frm f1 (World.block_lt_of_cell? _ _ H1.out.c1) (fun e => H1.out.ne (by rw [hv1, e])))⟩
  rcases N1.out with c | ⟨k, hk, hw⟩
  · left; rw [← c, hv1]; rfl
  · right; exact ⟨k, by rw [hv1] at hk; exact hk, hw⟩

theorem gt_take {l : List Wt} {n k : Nat} (h : k < n) : gt (l.take n) k = gt l k := by
  simp [gt, List.getD, List.getElem?_take, h]
theorem Hp.take {a : Int} {l : List Wt} {n : Nat} (h : Hp a l n) : Hp a (l.take n) n := fun k h0 hk => by
  rw [gt_take hk, gt_take (by omega)]; exact h k h0 hk
/-- the first is the least. -/
theorem Hp.root {a : Int} {l : List Wt} {n : Nat} (h : Hp a l n) : ∀ k, k < n → les a (gt l k) (gt l 0) = false := by
  intro k
  induction k using Nat.strongRecOn with
  | ind k ih =>
    intro hk
    by_cases c : k = 0
    · subst c; exact les_irr _ _
    · exact les_neg (ih ((k - 1) / 2) (by omega) (by omega)) (h k (by omega) hk)
theorem Hp.cut {a : Int} {l : List Wt} {n i : Nat} (h : Hp a l (n + 1)) (hl : l.length = n + 1) (hi : i < n) : HD a (swp l i n) n i i := by
  have S := swp_gt (l := l) (i := i) (j := n) (by omega) (by omega)
  refine ⟨fun k h0 hk hp hki => ?_, fun k h0 hk hp hi0 => ?_⟩
  · rcases hki with hki | hki
    · rw [S k, S ((k - 1) / 2), if_neg (by omega), if_neg hki, if_neg (by omega), if_neg hp]
      exact h k h0 (by omega)
    · omega
  · rw [S k, S ((i - 1) / 2), if_neg (by omega), if_neg (by omega), if_neg (by omega), if_neg (by omega)]
    have h1 := h k h0 (by omega)
    rw [hp] at h1
    exact les_neg (h i hi0 (by omega)) h1
/-- what is left, and what was taken. -/
theorem perm_last {l m : List Wt} {n : Nat} (h : l.Perm m) (hl : l.length = n + 1) : (l.take n ++ [gt l n]).Perm m := by
  have : l.take n ++ [gt l n] = l := by
    rw [gt_at (by omega)]
    rw [List.take_append_getElem, List.take_of_length_le (by omega)]
  rw [this]; exact h
set_option maxHeartbeats 1000000 in
set_option maxRecDepth 100000 in
theorem heap_pop (b o : Nat) (a : Int) (v : Value) (l : List Wt) (n : Nat) (w : World) (h : LV b o a v w l) (hn : l.length = n + 1) (hb : n ≤ 100000) (hp : Hp a l (n + 1)) :
    Calls Tryz.prog 54 #[.iface 109 (.pointer (some ⟨b, o, none⟩))] w fun e w' => ∃ x, e = .returned (.iface 77 (wv x)) ∧ ∃ v' l', LV b o a v' w' l' ∧ Frm (fun k => k = b ∨ v.ownBlock = some k) w w' ∧ v'.ownBlock = v.ownBlock ∧ (l' ++ [x]).Perm l ∧ Hp a l' n ∧ l'.length = n ∧ (∀ y ∈ l, les a y x = false) ∧ Rest b (o + 1) w w' := by
  obtain ⟨g, cap, hv, hr⟩ := h.lr (by intro e; rw [e] at hn; simp at hn)
  have H := Lib.hid h
  have HR := Lib.hid hr
  have HV := Lib.hid hv
  have HP := Lib.hid hp
  have HN := Lib.hid hn
  have mS := meth_swap b o
  have mN := meth_len b o
  have mP := meth_pop b o
  have q1 : IntKind.i64.wrap (((n + 1 : Nat) : Int) - 1) = (n : Int) := by simp [IntKind.wrap_i64]; omega
  obtain ⟨m, hm⟩ : ∃ m, n + 1 = m := ⟨_, rfl⟩
  have HM := Lib.hid hm
  rw [hm] at q1
  clear h hr hv hp hn hm
  go_enter Tryz.func54, Tryz.ntmps54
  go_wp2_with fail
  refine (H.out.len (n := m) (by rw [HN.out]; exact HM.out)).mono ?_
  rintro _ w2 ⟨rfl, rfl⟩
  go_wp2_with fail
  refine (line_swap b o a g cap l 0 n w HR.out (by have := HN.out; omega) (by have := HN.out; omega)).mono ?_
  rintro _ w1 ⟨rfl, h1, f1⟩
  have H1 := Lib.hid h1
  have F1 := Lib.hid f1
  clear h1 f1
  go_wp2_with fail
  refine (down_is b o a g cap n 0 (swp l 0 n) w1 H1.out (by rw [swp_len]; have := HN.out; omega) (by rw [swp_len]; have := HN.out; omega) (Nat.zero_le _) ?_).mono ?_
  · by_cases c : n = 0
    · subst c; exact ⟨fun k h0 hk => by omega, fun k h0 hk => by omega⟩
    · exact HP.out.cut HN.out (by omega)
  rintro _ w2 ⟨t, rfl, l2, h2, f2, p2, t2, u2, k2⟩
  have hl2 : l2.length = n + 1 := by rw [p2.length_eq, swp_len]; exact HN.out
  have PO := Lib.hid (line_pop b o a g cap n l2 w2 h2 hl2 (by omega))
  have hh : Hp a l2 n := by
    cases t with
    | true => exact t2 rfl
    | false => exact (u2 rfl).top
  have R := Lib.hid (And.intro p2 (And.intro hh (And.intro hl2 (k2 n (Nat.le_refl _)))))
  have F2 := Lib.hid (F1.out.trans f2 (fun k e => Or.inl e))
  clear h2 f2 p2 t2 u2 k2 hl2 hh
  go_wp2_with fail
  refine PO.out.mono ?_
  rintro _ w3 ⟨rfl, h3, f3⟩
  have H3 := Lib.hid (And.intro h3 f3)
  clear h3 f3
  go_wp2_with fail
  go_ret
  obtain ⟨p2, hh, hl2, k2⟩ := R.out
  obtain ⟨h3, f3⟩ := H3.out
  have hgl : gt l2 n = gt l 0 := by
    rw [k2, swp_gt (by have := HN.out; omega) (by have := HN.out; omega), if_pos rfl]
  refine ⟨gt l2 n, rfl, _, l2.take n, h3.lv, ?_, ?_, perm_last (p2.trans (swp_perm (by have := HN.out; omega) (by have := HN.out; omega))) hl2, hh.take, by rw [List.length_take, hl2]; omega, fun y hy => ?_, (Rest.frm F2.out (World.block_lt_of_cell? _ _ HR.out.c1) (fun e => HR.out.ne e.symm)).trans f3.2⟩
  · refine (F2.out.mono (G := fun k => k = b ∨ v.ownBlock = some k) (fun k e => ?_)).trans f3.1 (fun k e => Or.inl (Or.inl e))
    right; rw [HV.out, e]; rfl
  · rw [HV.out]; rfl
  · rw [hgl]
    obtain ⟨k, hk, e⟩ := List.mem_iff_getElem.1 hy
    rw [← e, ← gt_at hk]
    exact HP.out.root k (by rw [← HN.out]; exact hk)

set_option maxHeartbeats 2000000 in
set_option maxRecDepth 100000 in
theorem heap_remove (b o : Nat) (a : Int) (v : Value) (l : List Wt) (n i : Nat) (w : World) (h : LV b o a v w l) (hn : l.length = n + 1) (hi : i ≤ n) (hb : n ≤ 100000) (hp : Hp a l (n + 1)) :
    Calls Tryz.prog 60 #[.iface 109 (.pointer (some ⟨b, o, none⟩)), .int .i64 i] w fun e w' => ∃ u, e = .returned u ∧ ∃ v' l', LV b o a v' w' l' ∧ Frm (fun k => k = b ∨ v.ownBlock = some k) w w' ∧ v'.ownBlock = v.ownBlock ∧ (l' ++ [gt l i]).Perm l ∧ Hp a l' n ∧ l'.length = n ∧ Rest b (o + 1) w w' := by
  obtain ⟨g, cap, hv, hr⟩ := h.lr (by intro e; rw [e] at hn; simp at hn)
  have H := Lib.hid h
  have HR := Lib.hid hr
  have HV := Lib.hid hv
  have HP := Lib.hid hp
  have HN := Lib.hid hn
  have mS := meth_swap b o
  have mN := meth_len b o
  have mP := meth_pop b o
  have q1 : IntKind.i64.wrap (((n + 1 : Nat) : Int) - 1) = (n : Int) := by simp [IntKind.wrap_i64]; omega
  obtain ⟨m, hm⟩ : ∃ m, n + 1 = m := ⟨_, rfl⟩
  have HM := Lib.hid hm
  rw [hm] at q1
  have W1 : Hid (∀ {x x' : World}, Frm (fun k => k = g) w x → Frm (fun k => k = b) x x' → Frm (fun k => k = b ∨ v.ownBlock = some k) w x') :=
    (fun f1 f3 => (f1.mono (G := fun k => k = b ∨ v.ownBlock = some k) (fun k e => by right; rw [hv, e]; rfl)).trans f3 (fun k e => Or.inl (Or.inl e)) : ∀ {x x' : World}, Frm (fun k => k = g) w x → Frm (fun k => k = b) x x' → Frm (fun k => k = b ∨ v.ownBlock = some k) w x')
  clear h hr hv hp hn hm
  by_cases c : i = n
  · subst c
    have e1 : ((i : Int) != (i : Int)) = false := by simp
    go_enter Tryz.func60, Tryz.ntmps60
    go_wp2_with fail
    refine (H.out.len (n := m) (by rw [HN.out]; exact HM.out)).mono ?_
    rintro _ w2 ⟨rfl, rfl⟩
    go_wp2_with fail
    refine (line_pop b o a g cap i l w HR.out HN.out (by omega)).mono ?_
    rintro _ w3 ⟨rfl, h3, f3⟩
    have H3 := Lib.hid (And.intro h3 f3)
    clear h3 f3
    go_wp2_with fail
    go_ret
    obtain ⟨h3, f3⟩ := H3.out
    refine ⟨_, rfl, _, l.take i, h3.lv, W1.out (Frm.rfl' _ _) f3.1, ?_, perm_last (List.Perm.refl _) HN.out, ?_, by rw [List.length_take, HN.out]; omega, f3.2⟩
    · rw [HV.out]; rfl
    · exact Hp.take (fun k h0 hk => HP.out k h0 (by omega))
  · have e1 : ((n : Int) != (i : Int)) = true := by simp; omega
    go_enter Tryz.func60, Tryz.ntmps60
    go_wp2_with fail
    refine (H.out.len (n := m) (by rw [HN.out]; exact HM.out)).mono ?_
    rintro _ w2 ⟨rfl, rfl⟩
    go_wp2_with fail
    refine (line_swap b o a g cap l i n w HR.out (by have := HN.out; omega) (by have := HN.out; omega)).mono ?_
    rintro _ w1 ⟨rfl, h1, f1⟩
    have H1 := Lib.hid h1
    have F1 := Lib.hid f1
    clear h1 f1
    go_wp2_with fail
    refine (down_is b o a g cap n i (swp l i n) w1 H1.out (by rw [swp_len]; have := HN.out; omega) (by rw [swp_len]; have := HN.out; omega) (by omega) (HP.out.cut HN.out (by omega))).mono ?_
    rintro _ w2 ⟨t, rfl, l2, h2, f2, p2, t2, u2, k2⟩
    have hl2 : l2.length = n + 1 := by rw [p2.length_eq, swp_len]; exact HN.out
    have F2 := Lib.hid (F1.out.trans f2 (fun k e => Or.inl e))
    have fin : Hid (∀ (l3 : List Wt) (x x' : World), LR b o a g cap x l3 → Frm (fun k => k = g) w x → l3.Perm l2 → gt l3 n = gt l2 n → Hp a l3 n → LR b o a g cap x' (l3.take n) → (Frm (fun k => k = b) x x' ∧ Rest b (o + 1) x x') → ∃ v' l', LV b o a v' x' l' ∧ Frm (fun k => k = b ∨ v.ownBlock = some k) w x' ∧ v'.ownBlock = v.ownBlock ∧ (l' ++ [gt l i]).Perm l ∧ Hp a l' n ∧ l'.length = n ∧ Rest b (o + 1) w x') :=
      (fun l3 x x' _ f3 p3 g3 hh h4 f4 => by
        have hl3 : l3.length = n + 1 := p3.length_eq.trans hl2
        have hgl : gt l3 n = gt l i := by
          rw [g3, k2 n (Nat.le_refl _), swp_gt (by have := HN.out; omega) (by have := HN.out; omega), if_pos rfl]
        refine ⟨_, l3.take n, h4.lv, W1.out f3 f4.1, by rw [HV.out]; rfl, ?_, hh.take, by rw [List.length_take, hl3]; omega, (Rest.frm f3 (World.block_lt_of_cell? _ _ HR.out.c1) (fun e => HR.out.ne e.symm)).trans f4.2⟩
        rw [← hgl]
        exact perm_last (p3.trans (p2.trans (swp_perm (by have := HN.out; omega) (by have := HN.out; omega)))) hl3 :
        ∀ (l3 : List Wt) (x x' : World), LR b o a g cap x l3 → Frm (fun k => k = g) w x → l3.Perm l2 → gt l3 n = gt l2 n → Hp a l3 n → LR b o a g cap x' (l3.take n) → (Frm (fun k => k = b) x x' ∧ Rest b (o + 1) x x') → ∃ v' l', LV b o a v' x' l' ∧ Frm (fun k => k = b ∨ v.ownBlock = some k) w x' ∧ v'.ownBlock = v.ownBlock ∧ (l' ++ [gt l i]).Perm l ∧ Hp a l' n ∧ l'.length = n ∧ Rest b (o + 1) w x')
    have H2 := Lib.hid h2
    cases t with
    | true =>
      have T := Lib.hid (t2 rfl)
      clear h2 f2 p2 t2 u2 k2
      go_wp2_with fail
      refine (line_pop b o a g cap n l2 w2 H2.out hl2 (by omega)).mono ?_
      rintro _ w3 ⟨rfl, h3, f3⟩
      have H3 := Lib.hid (And.intro h3 f3)
      clear h3 f3
      go_wp2_with fail
      go_ret
      exact ⟨_, rfl, fin.out l2 w2 w3 H2.out F2.out (List.Perm.refl _) rfl T.out H3.out.1 H3.out.2⟩
    | false =>
      have T := Lib.hid (u2 rfl)
      clear h2 f2 p2 t2 u2 k2
      go_wp2_with fail
      refine (up_is b o a g cap n i l2 w2 H2.out (by omega) (by omega) (by omega) T.out).mono ?_
      rintro _ w3 ⟨rfl, l3, h3, f3, p3, q3, k3⟩
      have hl3 : l3.length = n + 1 := p3.length_eq.trans hl2
      have R3 := Lib.hid (And.intro h3 (And.intro (F2.out.trans f3 (fun k e => Or.inl e)) (And.intro p3 (And.intro q3 (k3 n (Nat.le_refl _))))))
      clear h3 f3 p3 q3 k3
      go_wp2_with fail
      refine (line_pop b o a g cap n l3 w3 R3.out.1 hl3 (by omega)).mono ?_
      rintro _ w4 ⟨rfl, h4, f4⟩
      have H4 := Lib.hid (And.intro h4 f4)
      clear h4 f4
      go_wp2_with fail
      go_ret
      exact ⟨_, rfl, fin.out l3 w3 w4 R3.out.1 R3.out.2.1 R3.out.2.2.1 R3.out.2.2.2.2 R3.out.2.2.2.1 H4.out.1 H4.out.2⟩
end QQ
end Go.Proofs.YtlopijcpnfkcgaaGreat

/- The queue's place: slices.IndexFunc with the literal that looks for a number. -/
namespace Go.Proofs.YtlopijcpnfkcgaaGreat
namespace QQ
open Go.RowKit
set_option linter.unusedSimpArgs false

/-- where a number stands, or nowhere. -/
def At (l : List Wt) (id : Int) (r : Int) : Prop := (∃ k : Nat, k < l.length ∧ r = k ∧ (gt l k).id = id) ∨ (r = -1 ∧ ∀ k, k < l.length → (gt l k).id ≠ id)

set_option maxHeartbeats 1000000 in
set_option maxRecDepth 100000 in
theorem is_id (i c m id : Int) (q : Nat) (t : Bool) (w : World) (h : w.cell? ⟨q, 0, none⟩ = some (.int .i64 id)) (e : (i == id) = t) :
    Calls Tryz.prog 65 #[.agg #[.int .i64 i, .int .i64 c, .int .i64 m], .pointer (some ⟨q, 0, none⟩)] w fun e w' => e = .returned (.bool t) ∧ Grw w w' := by
  have hc : ∀ u, (w.alloc u).cell? ⟨q, 0, none⟩ = some (.int .i64 id) := fun u => ((Grw.rfl' w).alloc u).cell h
  have G := Lib.hid ((Grw.rfl' w).alloc (.cells #[.int .i64 i, .int .i64 c, .int .i64 m] 77))
  go_enter Tryz.func65, Tryz.ntmps65
  go_wp2_with fail
  go_ret
  exact ⟨rfl, G.out⟩
set_option maxHeartbeats 1000000 in
set_option maxRecDepth 100000 in
theorem index_is (ao : Option Addr) (cap : Nat) (l : List Wt) (n : Nat) (id : Int) (q : Nat) (w : World) (hl : Lies w ao (cw l)) (hn : l.length = n) (hb : n ≤ 1000000) (h : w.cell? ⟨q, 0, none⟩ = some (.int .i64 id)) :
    Calls Tryz.prog 64 #[.slice ao n cap, .func (.func 65) #[] #[.pointer (some ⟨q, 0, none⟩)]] w fun e w' => ∃ r, e = .returned (.int .i64 r) ∧ At l id r ∧ Grw w w' := by
  have LI := Lib.hid hl
  have HN := Lib.hid hn
  have HC := Lib.hid h
  clear hl hn h
  go_enter Tryz.func64, Tryz.ntmps64
  go_wp2_with fail
  go_loopw [8] (fun s8 wr => ∃ k : Nat, k ≤ n ∧ s8 = .int .i64 k ∧ Grw w wr ∧ ∀ j, j < k → (gt l j).id ≠ id) (fun s8 _ => n - (intOf s8).toNat)
  case atStart => exact ⟨0, Nat.zero_le _, rfl, Grw.rfl' _, fun j hj => by omega⟩
  case round =>
    obtain ⟨k, hk, rfl, hg, hno⟩ := hrel
    have G := Lib.hid hg
    have NO := Lib.hid hno
    clear hno
    by_cases hk' : k < n
    · have hki : (k : Int) < (n : Int) := by omega
      have hkl : k < l.length := by rw [HN.out]; exact hk'
      obtain ⟨b, off, rfl, c0, c1, c2⟩ := wlies_at (LI.out.later hg) hkl
      obtain ⟨x, hx⟩ : ∃ x, l[k] = x := ⟨_, rfl⟩
      have HX : Hid (gt l k = x) := (by rw [gt_at hkl]; exact hx : gt l k = x)
      rw [hx] at c0 c1 c2
      obtain ⟨xi, xc, xm⟩ := x
      simp only at c0 c1 c2
      have hq := hg.cell HC.out
      have q1 : IntKind.i64.wrap ((k : Int) + 1) = ((k + 1 : Nat) : Int) := by simp [IntKind.wrap_i64]; omega
      obtain ⟨t, ht⟩ : ∃ t, (xi == id) = t := ⟨_, rfl⟩
      have C := Lib.hid (is_id xi xc xm id q t wr hq ht)
      have HT := Lib.hid ht
      clear hx hg ht hq
      cases t with
      | true =>
        go_wp2_with fail
        refine C.out.mono ?_
        rintro _ w1 ⟨rfl, hw⟩
        have G1 := Lib.hid (G.out.trans hw)
        clear hw
        go_wp2_with fail
        go_ret
        exact ⟨k, rfl, Or.inl ⟨k, hkl, rfl, by rw [HX.out]; have := HT.out; simpa using this⟩, G1.out⟩
      | false =>
        go_wp2_with fail
        refine C.out.mono ?_
        rintro _ w1 ⟨rfl, hw⟩
        have G1 := Lib.hid (G.out.trans hw)
        clear hw
        go_wp2_with fail
        refine ⟨⟨k + 1, by omega, by first | rfl | go_num, G1.out, fun j hj => ?_⟩, by simp [intOf]; omega⟩
        by_cases c : j = k
        · subst c; rw [HX.out]; have := HT.out; simpa using this
        · exact NO.out j (by omega)
    · have hki : ¬ (k : Int) < (n : Int) := by omega
      obtain rfl : n = k := by omega
      clear hg
      go_wp2_with fail
      go_ret
      exact ⟨-1, rfl, Or.inr ⟨rfl, fun j hj => NO.out j (by rw [← HN.out]; exact hj)⟩, G.out⟩
set_option maxHeartbeats 1000000 in
set_option maxRecDepth 100000 in
theorem place_is (b o : Nat) (a : Int) (v : Value) (l : List Wt) (id : Int) (w : World) (h : LV b o a v w l) (hb : l.length ≤ 1000000) :
    Calls Tryz.prog 50 #[.pointer (some ⟨b, o, none⟩), .int .i64 id] w fun e w' => ∃ r, e = .returned (.int .i64 r) ∧ At l id r ∧ Grw w w' := by
  obtain ⟨ao, cap, hv, hl⟩ := ownsRow_lies h.row
  have c1 := h.c1
  rw [hv] at c1
  obtain ⟨n, hn⟩ : ∃ n, l.length = n := ⟨_, rfl⟩
  rw [hn] at c1
  have g0 : ∀ T, Grw w (w.alloc (.cells #[.int .i64 id] T)) := fun T => (Grw.rfl' w).alloc _
  have ca : ∀ u, (w.alloc u).cell? ⟨b, o + 1, none⟩ = some (.slice ao n cap) := fun u => ((Grw.rfl' w).alloc u).cell c1
  have C := Lib.hid (fun T => index_is ao cap l n id w.heap.size (w.alloc (.cells #[.int .i64 id] T)) (hl.later (g0 T)) hn (by omega) (by simp [go_sem]))
  have G0 := Lib.hid g0
  clear h hv hl hn g0
  go_enter Tryz.func50, Tryz.ntmps50
  go_wp2_with fail
  refine (C.out _).mono ?_
  rintro _ w1 ⟨r, rfl, ha, hw⟩
  have R := Lib.hid (And.intro ha ((G0.out _).trans hw))
  clear ha hw
  go_wp2_with fail
  go_ret
  exact ⟨r, rfl, R.out⟩
end QQ
end Go.Proofs.YtlopijcpnfkcgaaGreat

/- The queue in memory: New, Len, Count, Put. -/
namespace Go.Proofs.YtlopijcpnfkcgaaGreat
namespace QQ
open Go.RowKit
set_option linter.unusedSimpArgs false

/-- the queue at block p: who waits, in the order of coming; in memory they lie as a heap. -/
structure QU (w : World) (p : Nat) (a room count : Int) (v : Value) (L : List Wt) : Prop where
  c0 : w.cell? ⟨p, 0, none⟩ = some (.int .i64 room)
  c1 : w.cell? ⟨p, 1, none⟩ = some (.int .i64 count)
  f1 : w.frozen? ⟨p, 1, none⟩ = false
  line : ∃ l, LV p 2 a v w l ∧ l.Perm L ∧ Hp a l l.length
  ids : (L.map Wt.id).Nodup
  len : L.length ≤ 10000
def qf (p : Nat) (v : Value) (k : Nat) : Prop := k = p ∨ v.ownBlock = some k
theorem QU.keep {w x : World} {p : Nat} {a room count : Int} {v : Value} {L : List Wt} (h : QU w p a room count v L) {F : Nat → Prop} (f : Frm F w x) (hf : ∀ k, qf p v k → ¬ F k) : QU x p a room count v L := by
  obtain ⟨l, h1, h2, h3⟩ := h.line
  exact ⟨f.cell h.c0 (hf p (Or.inl rfl)), f.cell h.c1 (hf p (Or.inl rfl)), frz_frm f h.c1 (hf p (Or.inl rfl)) h.f1, ⟨l, h1.keep f (hf p (Or.inl rfl)) (fun g hg => hf g (Or.inr hg)), h2, h3⟩, h.ids, h.len⟩
theorem QU.later {w x : World} {p : Nat} {a room count : Int} {v : Value} {L : List Wt} (h : QU w p a room count v L) (g : Grw w x) : QU x p a room count v L :=
  h.keep (g.frm (fun _ => False)) (fun _ _ e => e)

set_option maxHeartbeats 1000000 in
set_option maxRecDepth 100000 in
theorem new_yes (a room : Int) (w : World) (h1 : 1 ≤ a) (h2 : a ≤ 1000) (h3 : 0 ≤ room) (h4 : room ≤ 1000) :
    Calls Tryz.prog 24 #[.int .i64 a, .int .i64 room] w fun e w' => e = .returned (.pointer (some ⟨w.heap.size, 0, none⟩)) ∧ QU w' w.heap.size a room 0 (.slice none 0 0) [] ∧ Grw w w' := by
  have d1 : decide (a < 1) = false := by simp; omega
  have d2 : decide (1000 < a) = false := by simp; omega
  have d3 : decide (room < 0) = false := by simp; omega
  have d4 : decide (1000 < room) = false := by simp; omega
  have R : Hid (QU (w.alloc (.cells #[.int .i64 room, .int .i64 0, .int .i64 a, .slice none 0 0] 103)) w.heap.size a room 0 (.slice none 0 0) [] ∧ Grw w (w.alloc (.cells #[.int .i64 room, .int .i64 0, .int .i64 a, .slice none 0 0] 103))) :=
    (⟨⟨by simp [go_sem], by simp [go_sem], by simp [go_sem], ⟨[], ⟨by simp [go_sem], by simp [go_sem], by simp [go_sem], World.ownsRow_nil _ _ _ _, by simp [Value.ownBlock]⟩, List.Perm.refl _, fun k h0 hk => by simp at hk⟩, by simp, by simp⟩, (Grw.rfl' w).alloc _⟩ :
      QU (w.alloc (.cells #[.int .i64 room, .int .i64 0, .int .i64 a, .slice none 0 0] 103)) w.heap.size a room 0 (.slice none 0 0) [] ∧ Grw w (w.alloc (.cells #[.int .i64 room, .int .i64 0, .int .i64 a, .slice none 0 0] 103)))
  clear h1 h2 h3 h4
  go_enter Tryz.func24, Tryz.ntmps24
  go_wp2_with fail
  go_ret
  exact ⟨rfl, R.out⟩
set_option maxHeartbeats 1000000 in
set_option maxRecDepth 100000 in
theorem new_no (a room : Int) (w : World) (h : ¬ (1 ≤ a ∧ a ≤ 1000 ∧ 0 ≤ room ∧ room ≤ 1000)) :
    Calls Tryz.prog 24 #[.int .i64 a, .int .i64 room] w fun e w' => e = .returned (.pointer none) ∧ w = w' := by
  by_cases h1 : a < 1
  · have d1 : decide (a < 1) = true := by simp [h1]
    go_enter Tryz.func24, Tryz.ntmps24
    go_wp2_with fail
    go_ret
    exact ⟨rfl, rfl⟩
  · have d1 : decide (a < 1) = false := by simp; omega
    by_cases h2 : 1000 < a
    · have d2 : decide (1000 < a) = true := by simp [h2]
      go_enter Tryz.func24, Tryz.ntmps24
      go_wp2_with fail
      go_ret
      exact ⟨rfl, rfl⟩
    · have d2 : decide (1000 < a) = false := by simp; omega
      by_cases h3 : room < 0
      · have d3 : decide (room < 0) = true := by simp [h3]
        go_enter Tryz.func24, Tryz.ntmps24
        go_wp2_with fail
        go_ret
        exact ⟨rfl, rfl⟩
      · have d3 : decide (room < 0) = false := by simp; omega
        have d4 : decide (1000 < room) = true := by simp; omega
        clear h h1 h2 h3
        go_enter Tryz.func24, Tryz.ntmps24
        go_wp2_with fail
        go_ret
        exact ⟨rfl, rfl⟩
theorem LV.len' {b o : Nat} {a : Int} {v : Value} {W : World} {l : List Wt} (h : LV b o a v W l) {n : Nat} (hn : l.length = n) (q : GW W) :
    Calls Tryz.prog 51 #[.pointer (some ⟨b, o, none⟩)] q.x fun e w' => e = .returned (.int .i64 n) ∧ q.x = w' :=
  (h.keep (q.h.frm (fun _ => False)) (fun e => e) (fun _ _ e => e)).len hn
set_option maxHeartbeats 1000000 in
set_option maxRecDepth 100000 in
theorem len_is {p : Nat} {a room count : Int} {v : Value} {L : List Wt} {w : World} (h : QU w p a room count v L) {n : Nat} (hn : L.length = n) :
    Calls Tryz.prog 110 #[.pointer (some ⟨p, 0, none⟩)] w fun e w' => e = .returned (.int .i64 n) ∧ w = w' := by
  obtain ⟨l, h1, h2, _⟩ := h.line
  have C := Lib.hid (h1.len (h2.length_eq.trans hn))
  clear h h1 h2 hn
  go_enter Tryz.func110, Tryz.ntmps110
  go_wp2_with fail
  refine C.out.mono ?_
  rintro _ w1 ⟨rfl, rfl⟩
  go_wp2_with fail
  go_ret
  exact ⟨rfl, rfl⟩
set_option maxHeartbeats 1000000 in
set_option maxRecDepth 100000 in
theorem count_is {p : Nat} {a room count : Int} {v : Value} {L : List Wt} {w : World} (h : QU w p a room count v L) :
    Calls Tryz.prog 62 #[.pointer (some ⟨p, 0, none⟩)] w fun e w' => e = .returned (.int .i64 count) ∧ w = w' := by
  have c := h.c1
  clear h
  go_enter Tryz.func62, Tryz.ntmps62
  go_wp2_with fail
  go_ret
  exact ⟨rfl, rfl⟩
end QQ
end Go.Proofs.YtlopijcpnfkcgaaGreat

/- The queue's Put and Drop. -/
namespace Go.Proofs.YtlopijcpnfkcgaaGreat
namespace QQ
open Go.RowKit
set_option linter.unusedSimpArgs false

set_option maxHeartbeats 1000000 in
set_option maxRecDepth 100000 in
theorem put_nil (id cl : Int) (w : World) :
    Calls Tryz.prog 28 #[.pointer none, .int .i64 id, .int .i64 cl] w fun e w' => e = .returned (.int .i64 1) ∧ w = w' := by
  go_enter Tryz.func28, Tryz.ntmps28
  go_wp2_with fail
  go_ret
  exact ⟨rfl, rfl⟩
set_option maxHeartbeats 1000000 in
set_option maxRecDepth 100000 in
theorem put_bad (p : Nat) (id cl : Int) (w : World) (h : ¬ (0 ≤ cl ∧ cl < 8)) :
    Calls Tryz.prog 28 #[.pointer (some ⟨p, 0, none⟩), .int .i64 id, .int .i64 cl] w fun e w' => e = .returned (.int .i64 1) ∧ w = w' := by
  by_cases h1 : cl < 0
  · have d1 : decide (cl < 0) = true := by simp [h1]
    go_enter Tryz.func28, Tryz.ntmps28
    go_wp2_with fail
    go_ret
    exact ⟨rfl, rfl⟩
  · have d1 : decide (cl < 0) = false := by simp; omega
    have d2 : decide (8 ≤ cl) = true := by simp; omega
    clear h
    go_enter Tryz.func28, Tryz.ntmps28
    go_wp2_with fail
    go_ret
    exact ⟨rfl, rfl⟩
theorem perm_gt {l L : List Wt} (h : l.Perm L) {k : Nat} (hk : k < l.length) : ∃ j, j < L.length ∧ gt L j = gt l k := by
  have : gt l k ∈ L := h.mem_iff.1 (by rw [gt_at hk]; exact List.getElem_mem _)
  obtain ⟨j, hj, e⟩ := List.mem_iff_getElem.1 this
  exact ⟨j, hj, by rw [gt_at hj]; exact e⟩
theorem At.perm {l L : List Wt} (h : l.Perm L) {id r : Int} (a : At l id r) : (0 ≤ r ∧ r < l.length ∧ ∃ j, j < L.length ∧ (gt L j).id = id ∧ gt L j = gt l r.toNat) ∨ (r = -1 ∧ ∀ j, j < L.length → (gt L j).id ≠ id) := by
  rcases a with ⟨k, hk, rfl, e⟩ | ⟨e, hn⟩
  · obtain ⟨j, hj, g⟩ := perm_gt h hk
    exact Or.inl ⟨by omega, by omega, j, hj, by rw [g]; exact e, by rw [g]; simp⟩
  · refine Or.inr ⟨e, fun j hj c => ?_⟩
    obtain ⟨k, hk, g⟩ := perm_gt h.symm hj
    exact hn k hk (by rw [g]; exact c)
theorem QU.nof {w : World} {p : Nat} {a room count : Int} {v : Value} {L : List Wt} (h : QU w p a room count v L) (q : GW w) : QU q.x p a room count v L := h.later q.h

set_option maxHeartbeats 1000000 in
set_option maxRecDepth 100000 in
theorem put_twice {p : Nat} {a room count : Int} {v : Value} {L : List Wt} {w : World} (h : QU w p a room count v L) (id cl : Int) (h1 : 0 ≤ cl) (h2 : cl < 8) (ht : ∃ j, j < L.length ∧ (gt L j).id = id) :
    Calls Tryz.prog 28 #[.pointer (some ⟨p, 0, none⟩), .int .i64 id, .int .i64 cl] w fun e w' => e = .returned (.int .i64 8) ∧ Grw w w' := by
  obtain ⟨l, hl, hp, _⟩ := h.line
  have C := Lib.hid (place_is p 2 a v l id w hl (by have := hp.length_eq; have := h.len; omega))
  have HP := Lib.hid hp
  have HT := Lib.hid ht
  have d1 : decide (cl < 0) = false := by simp; omega
  have d2 : decide (8 ≤ cl) = false := by simp; omega
  clear h hl hp ht h1 h2
  go_enter Tryz.func28, Tryz.ntmps28
  go_wp2_with fail
  refine C.out.mono ?_
  rintro _ w1 ⟨r, rfl, ha, hw⟩
  have G := Lib.hid hw
  have d3 : decide ((0 : Int) ≤ r) = true := by
    rcases ha.perm HP.out with ⟨c, _⟩ | ⟨_, c⟩
    · simp [c]
    · obtain ⟨j, hj, e⟩ := HT.out; exact absurd e (c j hj)
  clear ha hw
  go_wp2_with fail
  go_ret
  exact ⟨rfl, G.out⟩
set_option maxHeartbeats 1000000 in
set_option maxRecDepth 100000 in
theorem put_full {p : Nat} {a room count : Int} {v : Value} {L : List Wt} {w : World} (h : QU w p a room count v L) (id cl : Int) (h1 : 0 ≤ cl) (h2 : cl < 8) (ht : ∀ j, j < L.length → (gt L j).id ≠ id) (hf : room ≤ L.length) :
    Calls Tryz.prog 28 #[.pointer (some ⟨p, 0, none⟩), .int .i64 id, .int .i64 cl] w fun e w' => e = .returned (.int .i64 10) ∧ Grw w w' := by
  obtain ⟨l, hl, hp, _⟩ := h.line
  have C := Lib.hid (place_is p 2 a v l id w hl (by have := hp.length_eq; have := h.len; omega))
  have HP := Lib.hid hp
  have HT := Lib.hid ht
  have H := Lib.hid h
  have HL := Lib.hid hl
  obtain ⟨n, hn⟩ : ∃ n, L.length = n := ⟨_, rfl⟩
  have HN := Lib.hid (hp.length_eq.trans hn)
  have d1 : decide (cl < 0) = false := by simp; omega
  have d2 : decide (8 ≤ cl) = false := by simp; omega
  have d4 : decide (room ≤ (n : Int)) = true := by simp; omega
  clear h hl hp ht h1 h2 hn hf
  go_enter Tryz.func28, Tryz.ntmps28
  go_wp2_with fail
  refine C.out.mono ?_
  rintro _ w1 ⟨r, rfl, ha, hw⟩
  have G := Lib.hid hw
  have d3 : decide ((0 : Int) ≤ r) = false := by
    rcases ha.perm HP.out with ⟨_, _, j, hj, e, _⟩ | ⟨c, _⟩
    · exact absurd e (HT.out j hj)
    · subst c; rfl
  have CL := Lib.hid ((HL.out.keep (hw.frm (fun _ => False)) (fun e => e) (fun _ _ e => e)).len' HN.out)
  have m0 := gw_cell (hw.cell H.out.c0)
  clear ha hw
  go_wp2_with fail
  refine wp_region_grown (by kernel_rfl) (by kernel_rfl) ?_
  repeat (go_big_quiet_step (first | (go_at_call 51; with_reducible exact calls_grown_same (CL.out _))))
  refine wpQuiet_nil ?_
  rintro _ ⟨q, rfl⟩
  have G2 := Lib.hid (G.out.trans q.h)
  clear m0
  go_wp2_with fail
  go_ret
  exact ⟨rfl, G2.out⟩
set_option maxHeartbeats 1000000 in
set_option maxRecDepth 100000 in
theorem put_yes {p : Nat} {a room count : Int} {v : Value} {L : List Wt} {w : World} (h : QU w p a room count v L) (id cl : Int) (h1 : 0 ≤ cl) (h2 : cl < 8) (ht : ∀ j, j < L.length → (gt L j).id ≠ id) (hf : (L.length : Int) < room) (hb : L.length < 10000) :
    Calls Tryz.prog 28 #[.pointer (some ⟨p, 0, none⟩), .int .i64 id, .int .i64 cl] w fun e w' => e = .returned (.int .i64 0) ∧ ∃ v', QU w' p a room count v' (L ++ [⟨id, cl, count⟩]) ∧ Frm (qf p v) w w' ∧ Near w v v' := by
  obtain ⟨l, hl, hp, hh⟩ := h.line
  have hb' : l.length ≤ 100000 := by have := hp.length_eq; omega
  have C := Lib.hid (place_is p 2 a v l id w hl (by omega))
  have HP := Lib.hid hp
  have HT := Lib.hid ht
  have H := Lib.hid h
  have HL := Lib.hid hl
  have HH := Lib.hid hh
  have HB := Lib.hid (And.intro hb hb')
  obtain ⟨n, hn⟩ : ∃ n, L.length = n := ⟨_, rfl⟩
  have HN := Lib.hid (hp.length_eq.trans hn)
  have d1 : decide (cl < 0) = false := by simp; omega
  have d2 : decide (8 ≤ cl) = false := by simp; omega
  have d4 : decide (room ≤ (n : Int)) = false := by simp; omega
  clear h hl hp ht h1 h2 hn hf hh hb hb'
  go_enter Tryz.func28, Tryz.ntmps28
  go_wp2_with fail
  refine C.out.mono ?_
  rintro _ w1 ⟨r, rfl, ha, hw⟩
  have G := Lib.hid hw
  have d3 : decide ((0 : Int) ≤ r) = false := by
    rcases ha.perm HP.out with ⟨_, _, j, hj, e, _⟩ | ⟨c, _⟩
    · exact absurd e (HT.out j hj)
    · subst c; rfl
  have CL := Lib.hid ((HL.out.keep (hw.frm (fun _ => False)) (fun e => e) (fun _ _ e => e)).len' HN.out)
  have m0 := gw_cell (hw.cell H.out.c0)
  clear ha hw
  go_wp2_with fail
  refine wp_region_grown (by kernel_rfl) (by kernel_rfl) ?_
  repeat (go_big_quiet_step (first | (go_at_call 51; with_reducible exact calls_grown_same (CL.out _))))
  refine wpQuiet_nil ?_
  rintro _ ⟨q, rfl⟩
  have G2 := Lib.hid (G.out.trans q.h)
  obtain ⟨w2, hw2⟩ : ∃ w2, q.x = w2 := ⟨_, rfl⟩
  rw [hw2] at G2
  have Q2 := Lib.hid (H.out.later G2.out)
  have c1 := Q2.out.c1
  have PU := Lib.hid (fun u (g : Grw w2 u) => heap_push p 2 a v l ⟨id, cl, count⟩ u (HL.out.keep ((G2.out.trans g).frm (fun _ => False)) (fun e => e) (fun _ _ e => e)) HB.out.2 HH.out)
  clear m0 
  rw [hw2]
  clear hw2
  go_wp2_with fail
  go_region_held3 (fun u => u.cell? ⟨p, 1, none⟩ = some (.int .i64 count)) (assumption) (first | (go_at_call 52; refine (PU.out _ ((Grw.rfl' _).drew)).mono ?_; rintro _ w3 ⟨rfl, v', l', hr⟩; have cc : w3.cell? ⟨p, 1, none⟩ = some (.int .i64 count) := (hr.2.2.2.2.2 1 (by decide)).1.trans c1; have HR := Lib.hid hr; clear hr))
  have CC := Lib.hid cc
  clear cc c1
  go_wp2_with fail
  go_ret
  obtain ⟨hv, hf, hn, hpm, hhp, hrs⟩ := HR.out
  have f2 : Frm (qf p v) w w3 := (G2.out.frm (qf p v)).trans (a := w) ((Frm.rfl' (qf p v) w2).drew.trans hf (fun k e => Or.inl (by rcases e with e | e; exact Or.inl e; exact Or.inr e))) (fun k e => Or.inl e)
  refine ⟨rfl, v', ⟨?_, CC.out, ?_, ⟨l', hv, hpm.trans (HP.out.append_right _), hhp⟩, ?_, ?_⟩, f2, ?_⟩
  · exact (hrs 0 (by decide)).1.trans Q2.out.c0
  · exact (hrs 1 (by decide)).2.trans Q2.out.f1
  · rw [List.map_append, List.map_cons, List.map_nil]
    refine List.nodup_append.2 ⟨H.out.ids, by simp, ?_⟩
    intro x hx y hy e
    obtain rfl : y = id := by simpa using hy
    obtain ⟨z, hz, e2⟩ := List.mem_map.1 hx
    obtain ⟨j, hj, e3⟩ := List.mem_iff_getElem.1 hz
    exact HT.out j hj (by rw [gt_at hj, e3, e2, e])
  · rw [List.length_append]; have := HB.out.1; simp; omega
  · rcases hn with hn | ⟨k, hk, hw⟩
    · exact Or.inl hn
    · exact Or.inr ⟨k, hk, Nat.le_trans (Below.size G2.out) hw⟩
end QQ
end Go.Proofs.YtlopijcpnfkcgaaGreat

/- The queue's Take and Drop. -/
namespace Go.Proofs.YtlopijcpnfkcgaaGreat
namespace QQ
open Go.RowKit
set_option linter.unusedSimpArgs false

def rem (L : List Wt) (k : Nat) : List Wt := L.take k ++ L.drop (k + 1)
theorem rem_perm {L : List Wt} {k : Nat} (hk : k < L.length) : L.Perm (rem L k ++ [gt L k]) := by
  have : L = L.take k ++ gt L k :: L.drop (k + 1) := by rw [gt_at hk, ← List.drop_eq_getElem_cons hk, List.take_append_drop]
  conv => lhs; rw [this]
  unfold rem
  rw [List.append_assoc]
  exact List.Perm.append_left _ (List.perm_append_comm (l₁ := [gt L k]) (l₂ := L.drop (k + 1)))
theorem rem_len {L : List Wt} {k : Nat} (hk : k < L.length) : (rem L k).length + 1 = L.length := by
  have := (rem_perm hk).length_eq
  rw [List.length_append, List.length_singleton] at this
  exact this.symm
theorem ids_inj {L : List Wt} (h : (L.map Wt.id).Nodup) {j k : Nat} (hj : j < L.length) (hk : k < L.length) (e : (gt L j).id = (gt L k).id) : j = k := by
  have P := List.pairwise_iff_getElem.1 h
  rw [gt_at hj, gt_at hk] at e
  rcases Nat.lt_trichotomy j k with c | c | c
  · exact absurd (by rw [List.getElem_map, List.getElem_map]; exact e) (P j k (by simpa using hj) (by simpa using hk) c)
  · exact c
  · exact absurd (by rw [List.getElem_map, List.getElem_map]; exact e.symm) (P k j (by simpa using hk) (by simpa using hj) c)
theorem ids_rem {L : List Wt} (h : (L.map Wt.id).Nodup) (k : Nat) (hk : k < L.length) : ((rem L k).map Wt.id).Nodup := by
  have := (rem_perm hk).map Wt.id
  rw [List.map_append] at this
  exact (List.nodup_append.1 (this.nodup_iff.1 h)).1
theorem gt_mem {L : List Wt} {k : Nat} (hk : k < L.length) : gt L k ∈ L := by rw [gt_at hk]; exact List.getElem_mem _
theorem least_is {a : Int} {L : List Wt} {k : Nat} {x : Wt} (hN : (L.map Wt.id).Nodup) (hf : Fst a L k) (hx : x ∈ L) (hm : ∀ y ∈ L, les a y x = false) : x = gt L k := by
  obtain ⟨j, hj, e⟩ := List.mem_iff_getElem.1 hx
  have hk := hf.lt
  have e' : gt L j = x := by rw [gt_at hj]; exact e
  by_cases c : j = k
  · rw [← c, e']
  · exfalso
    have h1 := hf.no j hj
    rw [← gt_at hj, ← gt_at hk] at h1
    have h2 := hm (gt L k) (gt_mem hk)
    rw [← e'] at h2
    have h3 := les_tot h1 (fun e => c (ids_inj hN hj hk e))
    rw [h2] at h3
    cases h3
/-- another count in the queue. -/
theorem QU.bump {w : World} {p : Nat} {a room count : Int} {v : Value} {L : List Wt} (h : QU w p a room count v L) (c : Int) : QU (w.setCell ⟨p, 1, none⟩ (.int .i64 c)) p a room c v L ∧ Frm (qf p v) w (w.setCell ⟨p, 1, none⟩ (.int .i64 c)) := by
  have r := Rest.set p 1 w (.int .i64 c)
  have f : Frm (fun k => k = p) w (w.setCell ⟨p, 1, none⟩ (.int .i64 c)) := frm_set w ⟨p, 1, none⟩ _ rfl
  obtain ⟨l, hl, hp, hh⟩ := h.line
  refine ⟨⟨(r 0 (by decide)).1.trans h.c0, World.cell?_setCell_same (u := _) _ _ _ h.c1, by simp [h.f1], ⟨l, ⟨(r 2 (by decide)).1.trans hl.c0, (r 3 (by decide)).1.trans hl.c1, by simp [hl.f1], ownsRow_frm hl.row f (fun k hk e => hl.ne (by rw [hk, e])), hl.ne⟩, hp, hh⟩, h.ids, h.len⟩, f.mono (fun k e => Or.inl e)⟩
set_option maxHeartbeats 1000000 in
set_option maxRecDepth 100000 in
theorem take_none {p : Nat} {a room count : Int} {v : Value} {w : World} (h : QU w p a room count v []) :
    Calls Tryz.prog 30 #[.pointer (some ⟨p, 0, none⟩)] w fun e w' => e = .returned (.tuple #[wv ⟨0, 0, 0⟩, .int .i64 12]) ∧ Grw w w' := by
  obtain ⟨l, hl, hp, _⟩ := h.line
  have G := Lib.hid ((Grw.rfl' w).alloc (.cells #[.int .i64 0, .int .i64 0, .int .i64 0] 77))
  have C := Lib.hid ((hl.keep (G.out.frm (fun _ => False)) (fun e => e) (fun _ _ e => e)).len (n := 0) (by rw [hp.length_eq]; rfl))
  have e0 : ∀ u, ((w.alloc (.cells #[.int .i64 0, .int .i64 0, .int .i64 0] 77)).setCell ⟨w.heap.size, 0, none⟩ u).cell? ⟨w.heap.size, 0, none⟩ = some u := fun u => by simp [go_sem]
  clear h hl hp
  go_enter Tryz.func30, Tryz.ntmps30
  go_wp2_with fail
  refine C.out.mono ?_
  rintro _ w1 ⟨rfl, rfl⟩
  go_wp2_with fail
  exact bodyPost_ret (v := .tuple #[wv ⟨0, 0, 0⟩, .int .i64 12]) (by simp [results, Tryz.results30, go_sem, wv]) rfl ⟨rfl, G.out⟩
set_option maxHeartbeats 1000000 in
set_option maxRecDepth 100000 in
theorem take_nil (w : World) :
    Calls Tryz.prog 30 #[.pointer none] w fun e w' => e = .returned (.tuple #[wv ⟨0, 0, 0⟩, .int .i64 1]) ∧ Grw w w' := by
  have G := Lib.hid ((Grw.rfl' w).alloc (.cells #[.int .i64 0, .int .i64 0, .int .i64 0] 77))
  go_enter Tryz.func30, Tryz.ntmps30
  go_wp2_with fail
  exact bodyPost_ret (v := .tuple #[wv ⟨0, 0, 0⟩, .int .i64 1]) (by simp [results, Tryz.results30, go_sem, wv]) rfl ⟨rfl, G.out⟩
set_option maxHeartbeats 1000000 in
set_option maxRecDepth 100000 in
theorem take_some {p : Nat} {a room count : Int} {v : Value} {L : List Wt} {w : World} (h : QU w p a room count v L) {k : Nat} (hf : Fst a L k) (h0 : 0 ≤ count) (h1 : count ≤ 4611686018427387904) :
    Calls Tryz.prog 30 #[.pointer (some ⟨p, 0, none⟩)] w fun e w' => e = .returned (.tuple #[wv (gt L k), .int .i64 0]) ∧ ∃ v', QU w' p a room (count + 1) v' (rem L k) ∧ Frm (qf p v) w w' ∧ v'.ownBlock = v.ownBlock := by
  obtain ⟨n, hn⟩ : ∃ n, L.length = n + 1 := ⟨L.length - 1, by have := hf.lt; omega⟩
  have hps := World.block_lt_of_cell? _ _ h.c1
  simp only at hps
  have g0 : ∀ u, Grw w (w.alloc u) := fun u => (Grw.rfl' w).alloc u
  have Q0 := h.later (g0 (.cells #[.int .i64 0, .int .i64 0, .int .i64 0] 77))
  obtain ⟨Q1, f1⟩ := Q0.bump (count + 1)
  have c1 : ∀ u, (w.alloc u).cell? ⟨p, 1, none⟩ = some (.int .i64 count) := fun u => (g0 u).cell h.c1
  have z1 : ∀ u, (w.alloc u).frozen? ⟨p, 1, none⟩ = false := fun u => frz_frm ((g0 u).frm (fun _ => False)) h.c1 (fun e => e) h.f1
  obtain ⟨l, hl, hp, hh⟩ := Q1.line
  obtain ⟨l0, hl0, hp0, _⟩ := h.line
  have q1 : IntKind.i64.wrap (count + 1) = count + 1 := by simp [IntKind.wrap_i64]; omega
  have CL := Lib.hid ((hl0.keep ((g0 (.cells #[.int .i64 0, .int .i64 0, .int .i64 0] 77)).frm (fun _ => False)) (fun e => e) (fun _ _ e => e)).len (n := n + 1) (hp0.length_eq.trans hn))
  obtain ⟨m, hm⟩ : ∃ m, n + 1 = m := ⟨_, rfl⟩
  have e0 : ((m : Int) == 0) = false := by simp; omega
  rw [hm] at CL
  have PO := Lib.hid (heap_pop p 2 a v l n _ hl (hp.length_eq.trans hn) (by have := h.len; omega) (by rw [← hn, ← hp.length_eq]; exact hh))
  have R := Lib.hid (And.intro hp (And.intro hn hf))
  have F1 := Lib.hid ((g0 (.cells #[.int .i64 0, .int .i64 0, .int .i64 0] 77)).frm (qf p v) |>.trans f1 (fun k e => Or.inl e))
  have QQ := Lib.hid Q1
  have B0 : Hid (Bx ((w.alloc (.cells #[.int .i64 0, .int .i64 0, .int .i64 0] 77)).setCell ⟨p, 1, none⟩ (.int .i64 (count + 1))) w.heap.size (.int .i64 0) (.int .i64 0) (.int .i64 0) ∧ ∀ k, ((w.alloc (.cells #[.int .i64 0, .int .i64 0, .int .i64 0] 77)).setCell ⟨p, 1, none⟩ (.int .i64 (count + 1))).frozen? ⟨w.heap.size, k, none⟩ = false) :=
    (⟨⟨by simp [go_sem], by simp [go_sem], by simp [go_sem]⟩, fun k => by simp [go_sem]⟩ : Bx ((w.alloc (.cells #[.int .i64 0, .int .i64 0, .int .i64 0] 77)).setCell ⟨p, 1, none⟩ (.int .i64 (count + 1))) w.heap.size (.int .i64 0) (.int .i64 0) (.int .i64 0) ∧ ∀ k, ((w.alloc (.cells #[.int .i64 0, .int .i64 0, .int .i64 0] 77)).setCell ⟨p, 1, none⟩ (.int .i64 (count + 1))).frozen? ⟨w.heap.size, k, none⟩ = false)
  have OB : Hid (∀ k, v.ownBlock = some k → k < w.heap.size) := (fun k hk => (hl0.row.lt k hk).2 : ∀ k, v.ownBlock = some k → k < w.heap.size)
  have PS := Lib.hid hps
  clear h hl hp hh hl0 hp0 hn hm Q0 Q1 f1 hf hps g0
  go_enter Tryz.func30, Tryz.ntmps30
  go_wp2_with fail
  refine CL.out.mono ?_
  rintro _ w1 ⟨rfl, rfl⟩
  go_wp2_with fail
  refine PO.out.mono ?_
  rintro _ w3 ⟨x, rfl, v', l', hr⟩
  have HR := Lib.hid hr
  have nF : ¬ (w.heap.size = p ∨ v.ownBlock = some w.heap.size) := by
    rintro (e | e)
    · have := PS.out; omega
    · have := OB.out _ e; omega
  have x0 := hr.2.1.cell B0.out.1.c0 nF
  have x1 := hr.2.1.cell B0.out.1.c1 nF
  have x2 := hr.2.1.cell B0.out.1.c2 nF
  have y0 := frz_frm hr.2.1 B0.out.1.c0 nF (B0.out.2 0)
  have y1 := frz_frm hr.2.1 B0.out.1.c1 nF (B0.out.2 1)
  have y2 := frz_frm hr.2.1 B0.out.1.c2 nF (B0.out.2 2)
  clear hr nF
  obtain ⟨xi, xc, xm⟩ := x
  have as37 := assert37 (.agg #[.int .i64 xi, .int .i64 xc, .int .i64 xm])
  simp only [wv]
  go_wp2_with fail
  obtain ⟨hlv, hfr, hob, hpm, hhp, hln, hmin, hrs⟩ := HR.out
  obtain ⟨hp, hn, hf⟩ := R.out
  have hxe : (⟨xi, xc, xm⟩ : Wt) = gt L k := by
    refine least_is QQ.out.ids hf (hp.mem_iff.1 (hpm.mem_iff.1 (by simp))) (fun y hy => hmin y (hp.mem_iff.2 hy))
  have hpl : l'.Perm (rem L k) := by
    have := (hpm.trans hp).trans (rem_perm hf.lt)
    rw [hxe] at this
    exact (List.perm_append_right_iff _).1 this
  have Q3 : QU w3 p a room (count + 1) v' (rem L k) :=
    ⟨(hrs 0 (by decide)).1.trans QQ.out.c0, (hrs 1 (by decide)).1.trans QQ.out.c1, (hrs 1 (by decide)).2.trans QQ.out.f1, ⟨l', hlv, hpl, by rw [hln]; exact hhp⟩, ids_rem QQ.out.ids k hf.lt, by have := QQ.out.len; have := rem_len hf.lt; omega⟩
  have fS : ∀ u0 u1 u2, Frm (fun k => k = w.heap.size) w3 (((w3.setCell ⟨w.heap.size, 0, none⟩ u0).setCell ⟨w.heap.size, 1, none⟩ u1).setCell ⟨w.heap.size, 2, none⟩ u2) := fun u0 u1 u2 =>
    (((Frm.rfl' (fun k => k = w.heap.size) w3).set _ _ (Or.inl rfl)).set _ _ (Or.inl rfl)).set _ _ (Or.inl rfl)
  have hq : ∀ k, qf p v' k → ¬ k = w.heap.size := by
    rintro k (e | e) c
    · have := PS.out; omega
    · rw [hob] at e; have := OB.out _ e; omega
  refine bodyPost_ret (v := .tuple #[wv (gt L k), .int .i64 0]) (by rw [← hxe]; simp [results, Tryz.results30, go_sem, wv, x0, x1, x2]) rfl ⟨rfl, v', Q3.keep (fS _ _ _) hq, ?_, hob⟩
  exact (F1.out.trans (hfr.mono (G := qf p v) (fun k e => e)) (fun k e => Or.inl e)).trans (fS _ _ _) (fun k e => Or.inr (by omega))
set_option maxHeartbeats 1000000 in
set_option maxRecDepth 100000 in
theorem drop_nil (id : Int) (w : World) :
    Calls Tryz.prog 41 #[.pointer none, .int .i64 id] w fun e w' => e = .returned (.bool false) ∧ w = w' := by
  go_enter Tryz.func41, Tryz.ntmps41
  go_wp2_with fail
  go_ret
  exact ⟨rfl, rfl⟩
set_option maxHeartbeats 1000000 in
set_option maxRecDepth 100000 in
theorem drop_no {p : Nat} {a room count : Int} {v : Value} {L : List Wt} {w : World} (h : QU w p a room count v L) (id : Int) (ht : ∀ j, j < L.length → (gt L j).id ≠ id) :
    Calls Tryz.prog 41 #[.pointer (some ⟨p, 0, none⟩), .int .i64 id] w fun e w' => e = .returned (.bool false) ∧ Grw w w' := by
  obtain ⟨l, hl, hp, _⟩ := h.line
  have C := Lib.hid (place_is p 2 a v l id w hl (by have := hp.length_eq; have := h.len; omega))
  have HP := Lib.hid hp
  have HT := Lib.hid ht
  clear h hl hp ht
  go_enter Tryz.func41, Tryz.ntmps41
  go_wp2_with fail
  refine C.out.mono ?_
  rintro _ w1 ⟨r, rfl, ha, hw⟩
  have G := Lib.hid hw
  have d3 : decide (r < 0) = true := by
    rcases ha.perm HP.out with ⟨_, _, j, hj, e, _⟩ | ⟨c, _⟩
    · exact absurd e (HT.out j hj)
    · subst c; rfl
  clear ha hw
  go_wp2_with fail
  go_ret
  exact ⟨rfl, G.out⟩
set_option maxHeartbeats 1000000 in
set_option maxRecDepth 100000 in
theorem drop_yes {p : Nat} {a room count : Int} {v : Value} {L : List Wt} {w : World} (h : QU w p a room count v L) (id : Int) {j : Nat} (hj : j < L.length) (he : (gt L j).id = id) :
    Calls Tryz.prog 41 #[.pointer (some ⟨p, 0, none⟩), .int .i64 id] w fun e w' => e = .returned (.bool true) ∧ ∃ v', QU w' p a room count v' (rem L j) ∧ Frm (qf p v) w w' ∧ v'.ownBlock = v.ownBlock := by
  obtain ⟨l, hl, hp, hh⟩ := h.line
  obtain ⟨n, hn⟩ : ∃ n, L.length = n + 1 := ⟨L.length - 1, by omega⟩
  have C := Lib.hid (place_is p 2 a v l id w hl (by have := hp.length_eq; have := h.len; omega))
  have R := Lib.hid (And.intro hp (And.intro hn (And.intro hj he)))
  have H := Lib.hid h
  have RM := Lib.hid (fun i w1 (g : Grw w w1) hi => heap_remove p 2 a v l n i w1 (hl.keep (g.frm (fun _ => False)) (fun e => e) (fun _ _ e => e)) (hp.length_eq.trans hn) hi (by have := h.len; omega) (by rw [← hn, ← hp.length_eq]; exact hh))
  clear h hl hp hh hn hj he
  go_enter Tryz.func41, Tryz.ntmps41
  go_wp2_with fail
  refine C.out.mono ?_
  rintro _ w1 ⟨r, rfl, ha, hw⟩
  have G := Lib.hid hw
  obtain ⟨i, hi, hl', hg⟩ : ∃ i : Nat, r = i ∧ i < l.length ∧ gt L j = gt l i := by
    obtain ⟨hp, hn, hj, he⟩ := R.out
    rcases ha.perm hp with ⟨h0, h1, k, hk, e, e2⟩ | ⟨_, c⟩
    · obtain rfl := ids_inj H.out.ids hj hk (by rw [he, e])
      exact ⟨r.toNat, by omega, by omega, e2⟩
    · exact absurd he (c j hj)
  subst hi
  have d3 : decide ((i : Int) < 0) = false := by simp
  have HG := Lib.hid (And.intro hl' hg)
  have P1 := Lib.hid (RM.out i w1 hw (by have := R.out.1.length_eq; have := R.out.2.1; omega))
  clear ha hw hl' hg
  go_wp2_with fail
  refine P1.out.mono ?_
  rintro _ w2 ⟨u, rfl, v', l', hr⟩
  have HR := Lib.hid hr
  clear hr
  go_wp2_with fail
  go_ret
  obtain ⟨hlv, hfr, hob, hpm, hhp, hln, hrs⟩ := HR.out
  obtain ⟨hp, hn, hj, he⟩ := R.out
  have hpl : l'.Perm (rem L j) := by
    have := (hpm.trans hp).trans (rem_perm hj)
    rw [HG.out.2] at this
    exact (List.perm_append_right_iff _).1 this
  have Q1 := H.out.later G.out
  refine ⟨rfl, v', ⟨(hrs 0 (by decide)).1.trans Q1.c0, (hrs 1 (by decide)).1.trans Q1.c1, (hrs 1 (by decide)).2.trans Q1.f1, ⟨l', hlv, hpl, by rw [hln]; exact hhp⟩, ids_rem Q1.ids j hj, by have := Q1.len; have := rem_len hj; omega⟩, ?_, hob⟩
  exact (G.out.frm (qf p v)).trans (hfr.mono (G := qf p v) (fun k e => e)) (fun k e => Or.inl e)
end QQ
end Go.Proofs.YtlopijcpnfkcgaaGreat
