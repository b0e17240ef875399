/- heap.Push, Pop and Remove at the line. -/
import Derived.Test.YtlopijcpnfkcgaaQQd
namespace Go.Proofs.Ytlopijcpnfkcgaa
namespace QQ
open Go.RowKit
set_option linter.unusedSimpArgs false

theorem Hp.push {a : Int} {l : List Wt} (h : Hp a l l.length) (x : Wt) : HU a (l ++ [x]) (l.length + 1) l.length := by
  have e : ∀ k, k < l.length → gt (l ++ [x]) k = gt l k := fun k hk => by simp [gt, List.getD, List.getElem?_append_left hk]
  refine ⟨fun k h0 hk hn => ?_, fun k h0 hk hp hl => ?_⟩
  · rw [e k (by omega), e _ (by omega)]; exact h k h0 (by omega)
  · omega
theorem Near.frm {w w1 w2 : World} {b : Nat} {v v' : Value} {g : Nat} (hn : Near w v v') (hg : v'.ownBlock = some g) (f : Frm (fun k => k = b ∨ v.ownBlock = some k) w w1) (f' : Frm (fun k => k = g) w1 w2) : Frm (fun k => k = b ∨ v.ownBlock = some k) w w2 :=
  f.trans f' (fun k e => by
    subst e
    rcases hn with hn | ⟨k', hk, hw⟩
    · exact Or.inl (Or.inr (hn ▸ hg))
    · rw [hg] at hk; injection hk with hk; exact Or.inr (hk ▸ hw))
set_option maxHeartbeats 1000000 in
set_option maxRecDepth 100000 in
theorem heap_push (b o : Nat) (a : Int) (v : Value) (l : List Wt) (x : Wt) (w : World) (h : LV b o a v w l) (hb : l.length ≤ 100000) (hp : Hp a l l.length) :
    Calls Try.prog 38 #[.iface 92 (.pointer (some ⟨b, o, none⟩)), .iface 69 (wv x)] w fun e w' => e = .returned (.tuple #[]) ∧ ∃ v' l', LV b o a v' w' l' ∧ Frm (fun k => k = b ∨ v.ownBlock = some k) w w' ∧ Near w v v' ∧ l'.Perm (l ++ [x]) ∧ Hp a l' l'.length ∧ Rest b (o + 1) w w' := by
  have H := Lib.hid h
  have HP := Lib.hid hp
  have mP := meth_push b o
  have mN := meth_len b o
  obtain ⟨n, hn⟩ : ∃ n, l.length = n := ⟨_, rfl⟩
  have HN := Lib.hid hn
  rw [hn] at hb
  have q1 : IntKind.i64.wrap (((n + 1 : Nat) : Int) - 1) = (n : Int) := by simp [IntKind.wrap_i64]; omega
  obtain ⟨m, hm⟩ : ∃ m, n + 1 = m := ⟨_, rfl⟩
  have HM := Lib.hid hm
  rw [hm] at q1
  obtain ⟨xv, hxv⟩ : ∃ xv, wv x = xv := ⟨_, rfl⟩
  have PU := Lib.hid (fun w h => line_push b o a v l x w h (by omega))
  rw [hxv] at PU ⊢
  clear h hp hn hm hxv
  go_enter Try.func38, Try.ntmps38
  go_wp2_with fail
  refine (PU.out _ H.out).mono ?_
  rintro _ w1 ⟨rfl, v1, h1, f1, n1, r1⟩
  have R1 := Lib.hid r1
  have H1 := Lib.hid h1
  have F1 := Lib.hid f1
  have N1 := Lib.hid n1
  clear h1 f1 n1 r1
  go_wp2_with fail
  refine (H1.out.len (n := m) (by rw [List.length_append, HN.out]; exact HM.out)).mono ?_
  rintro _ w2 ⟨rfl, rfl⟩
  obtain ⟨g, cap, hv, hr⟩ := H1.out.lr (by simp)
  have hlen : (l ++ [x]).length = m := by rw [List.length_append, HN.out]; exact HM.out
  have UP := Lib.hid (up_is b o a g cap m n (l ++ [x]) w1 hr (by rw [hlen]; exact Nat.le_refl _) (by rw [hlen]; have := HM.out; omega) (by have := HM.out; omega) (by have := HP.out.push x; rw [HN.out, HM.out] at this; exact this))
  have HV := Lib.hid hv
  have HL := Lib.hid hlen
  clear hv hr hlen
  go_wp2_with fail
  refine UP.out.mono ?_
  rintro _ w3 ⟨rfl, l', h1, f1, p1, hp1, _⟩
  have R := Lib.hid (And.intro h1 (And.intro f1 (And.intro p1 hp1)))
  clear h1 f1 p1 hp1
  go_wp2_with fail
  go_end0
  obtain ⟨h1, f1, p1, hp1⟩ := R.out
  have e : l'.length = m := p1.length_eq.trans HL.out
  have hv1 : v1.ownBlock = some g := by rw [HV.out]; rfl
  refine ⟨rfl, _, l', h1.lv, N1.out.frm hv1 F1.out f1, ?_, p1, by rw [e]; exact hp1, R1.out.trans (Rest.frm f1 (World.block_lt_of_cell? _ _ H1.out.c1) (fun e => H1.out.ne (by rw [hv1, e])))⟩
  rcases N1.out with c | ⟨k, hk, hw⟩
  · left; rw [← c, hv1]; rfl
  · right; exact ⟨k, by rw [hv1] at hk; exact hk, hw⟩

theorem gt_take {l : List Wt} {n k : Nat} (h : k < n) : gt (l.take n) k = gt l k := by
  simp [gt, List.getD, List.getElem?_take, h]
theorem Hp.take {a : Int} {l : List Wt} {n : Nat} (h : Hp a l n) : Hp a (l.take n) n := fun k h0 hk => by
  rw [gt_take hk, gt_take (by omega)]; exact h k h0 hk
/-- the first is the least. -/
theorem Hp.root {a : Int} {l : List Wt} {n : Nat} (h : Hp a l n) : ∀ k, k < n → les a (gt l k) (gt l 0) = false := by
  intro k
  induction k using Nat.strongRecOn with
  | ind k ih =>
    intro hk
    by_cases c : k = 0
    · subst c; exact les_irr _ _
    · exact les_neg (ih ((k - 1) / 2) (by omega) (by omega)) (h k (by omega) hk)
theorem Hp.cut {a : Int} {l : List Wt} {n i : Nat} (h : Hp a l (n + 1)) (hl : l.length = n + 1) (hi : i < n) : HD a (swp l i n) n i i := by
  have S := swp_gt (l := l) (i := i) (j := n) (by omega) (by omega)
  refine ⟨fun k h0 hk hp hki => ?_, fun k h0 hk hp hi0 => ?_⟩
  · rcases hki with hki | hki
    · rw [S k, S ((k - 1) / 2), if_neg (by omega), if_neg hki, if_neg (by omega), if_neg hp]
      exact h k h0 (by omega)
    · omega
  · rw [S k, S ((i - 1) / 2), if_neg (by omega), if_neg (by omega), if_neg (by omega), if_neg (by omega)]
    have h1 := h k h0 (by omega)
    rw [hp] at h1
    exact les_neg (h i hi0 (by omega)) h1
/-- what is left, and what was taken. -/
theorem perm_last {l m : List Wt} {n : Nat} (h : l.Perm m) (hl : l.length = n + 1) : (l.take n ++ [gt l n]).Perm m := by
  have : l.take n ++ [gt l n] = l := by
    rw [gt_at (by omega)]
    rw [List.take_append_getElem, List.take_of_length_le (by omega)]
  rw [this]; exact h
set_option maxHeartbeats 1000000 in
set_option maxRecDepth 100000 in
theorem heap_pop (b o : Nat) (a : Int) (v : Value) (l : List Wt) (n : Nat) (w : World) (h : LV b o a v w l) (hn : l.length = n + 1) (hb : n ≤ 100000) (hp : Hp a l (n + 1)) :
    Calls Try.prog 39 #[.iface 92 (.pointer (some ⟨b, o, none⟩))] w fun e w' => ∃ x, e = .returned (.iface 69 (wv x)) ∧ ∃ v' l', LV b o a v' w' l' ∧ Frm (fun k => k = b ∨ v.ownBlock = some k) w w' ∧ v'.ownBlock = v.ownBlock ∧ (l' ++ [x]).Perm l ∧ Hp a l' n ∧ l'.length = n ∧ (∀ y ∈ l, les a y x = false) ∧ Rest b (o + 1) w w' := by
  obtain ⟨g, cap, hv, hr⟩ := h.lr (by intro e; rw [e] at hn; simp at hn)
  have H := Lib.hid h
  have HR := Lib.hid hr
  have HV := Lib.hid hv
  have HP := Lib.hid hp
  have HN := Lib.hid hn
  have mS := meth_swap b o
  have mN := meth_len b o
  have mP := meth_pop b o
  have q1 : IntKind.i64.wrap (((n + 1 : Nat) : Int) - 1) = (n : Int) := by simp [IntKind.wrap_i64]; omega
  obtain ⟨m, hm⟩ : ∃ m, n + 1 = m := ⟨_, rfl⟩
  have HM := Lib.hid hm
  rw [hm] at q1
  clear h hr hv hp hn hm
  go_enter Try.func39, Try.ntmps39
  go_wp2_with fail
  refine (H.out.len (n := m) (by rw [HN.out]; exact HM.out)).mono ?_
  rintro _ w2 ⟨rfl, rfl⟩
  go_wp2_with fail
  refine (line_swap b o a g cap l 0 n w HR.out (by have := HN.out; omega) (by have := HN.out; omega)).mono ?_
  rintro _ w1 ⟨rfl, h1, f1⟩
  have H1 := Lib.hid h1
  have F1 := Lib.hid f1
  clear h1 f1
  go_wp2_with fail
  refine (down_is b o a g cap n 0 (swp l 0 n) w1 H1.out (by rw [swp_len]; have := HN.out; omega) (by rw [swp_len]; have := HN.out; omega) (Nat.zero_le _) ?_).mono ?_
  · by_cases c : n = 0
    · subst c; exact ⟨fun k h0 hk => by omega, fun k h0 hk => by omega⟩
    · exact HP.out.cut HN.out (by omega)
  rintro _ w2 ⟨t, rfl, l2, h2, f2, p2, t2, u2, k2⟩
  have hl2 : l2.length = n + 1 := by rw [p2.length_eq, swp_len]; exact HN.out
  have PO := Lib.hid (line_pop b o a g cap n l2 w2 h2 hl2 (by omega))
  have hh : Hp a l2 n := by
    cases t with
    | true => exact t2 rfl
    | false => exact (u2 rfl).top
  have R := Lib.hid (And.intro p2 (And.intro hh (And.intro hl2 (k2 n (Nat.le_refl _)))))
  have F2 := Lib.hid (F1.out.trans f2 (fun k e => Or.inl e))
  clear h2 f2 p2 t2 u2 k2 hl2 hh
  go_wp2_with fail
  refine PO.out.mono ?_
  rintro _ w3 ⟨rfl, h3, f3⟩
  have H3 := Lib.hid (And.intro h3 f3)
  clear h3 f3
  go_wp2_with fail
  go_ret
  obtain ⟨p2, hh, hl2, k2⟩ := R.out
  obtain ⟨h3, f3⟩ := H3.out
  have hgl : gt l2 n = gt l 0 := by
    rw [k2, swp_gt (by have := HN.out; omega) (by have := HN.out; omega), if_pos rfl]
  refine ⟨gt l2 n, rfl, _, l2.take n, h3.lv, ?_, ?_, perm_last (p2.trans (swp_perm (by have := HN.out; omega) (by have := HN.out; omega))) hl2, hh.take, by rw [List.length_take, hl2]; omega, fun y hy => ?_, (Rest.frm F2.out (World.block_lt_of_cell? _ _ HR.out.c1) (fun e => HR.out.ne e.symm)).trans f3.2⟩
  · refine (F2.out.mono (G := fun k => k = b ∨ v.ownBlock = some k) (fun k e => ?_)).trans f3.1 (fun k e => Or.inl (Or.inl e))
    right; rw [HV.out, e]; rfl
  · rw [HV.out]; rfl
  · rw [hgl]
    obtain ⟨k, hk, e⟩ := List.mem_iff_getElem.1 hy
    rw [← e, ← gt_at hk]
    exact HP.out.root k (by rw [← HN.out]; exact hk)

set_option maxHeartbeats 2000000 in
set_option maxRecDepth 100000 in
theorem heap_remove (b o : Nat) (a : Int) (v : Value) (l : List Wt) (n i : Nat) (w : World) (h : LV b o a v w l) (hn : l.length = n + 1) (hi : i ≤ n) (hb : n ≤ 100000) (hp : Hp a l (n + 1)) :
    Calls Try.prog 41 #[.iface 92 (.pointer (some ⟨b, o, none⟩)), .int .i64 i] w fun e w' => ∃ u, e = .returned u ∧ ∃ v' l', LV b o a v' w' l' ∧ Frm (fun k => k = b ∨ v.ownBlock = some k) w w' ∧ v'.ownBlock = v.ownBlock ∧ (l' ++ [gt l i]).Perm l ∧ Hp a l' n ∧ l'.length = n ∧ Rest b (o + 1) w w' := by
  obtain ⟨g, cap, hv, hr⟩ := h.lr (by intro e; rw [e] at hn; simp at hn)
  have H := Lib.hid h
  have HR := Lib.hid hr
  have HV := Lib.hid hv
  have HP := Lib.hid hp
  have HN := Lib.hid hn
  have mS := meth_swap b o
  have mN := meth_len b o
  have mP := meth_pop b o
  have q1 : IntKind.i64.wrap (((n + 1 : Nat) : Int) - 1) = (n : Int) := by simp [IntKind.wrap_i64]; omega
  obtain ⟨m, hm⟩ : ∃ m, n + 1 = m := ⟨_, rfl⟩
  have HM := Lib.hid hm
  rw [hm] at q1
  have W1 : Hid (∀ {x x' : World}, Frm (fun k => k = g) w x → Frm (fun k => k = b) x x' → Frm (fun k => k = b ∨ v.ownBlock = some k) w x') :=
    (fun f1 f3 => (f1.mono (G := fun k => k = b ∨ v.ownBlock = some k) (fun k e => by right; rw [hv, e]; rfl)).trans f3 (fun k e => Or.inl (Or.inl e)) : ∀ {x x' : World}, Frm (fun k => k = g) w x → Frm (fun k => k = b) x x' → Frm (fun k => k = b ∨ v.ownBlock = some k) w x')
  clear h hr hv hp hn hm
  by_cases c : i = n
  · subst c
    have e1 : ((i : Int) != (i : Int)) = false := by simp
    go_enter Try.func41, Try.ntmps41
    go_wp2_with fail
    refine (H.out.len (n := m) (by rw [HN.out]; exact HM.out)).mono ?_
    rintro _ w2 ⟨rfl, rfl⟩
    go_wp2_with fail
    refine (line_pop b o a g cap i l w HR.out HN.out (by omega)).mono ?_
    rintro _ w3 ⟨rfl, h3, f3⟩
    have H3 := Lib.hid (And.intro h3 f3)
    clear h3 f3
    go_wp2_with fail
    go_ret
    obtain ⟨h3, f3⟩ := H3.out
    refine ⟨_, rfl, _, l.take i, h3.lv, W1.out (Frm.rfl' _ _) f3.1, ?_, perm_last (List.Perm.refl _) HN.out, ?_, by rw [List.length_take, HN.out]; omega, f3.2⟩
    · rw [HV.out]; rfl
    · exact Hp.take (fun k h0 hk => HP.out k h0 (by omega))
  · have e1 : ((n : Int) != (i : Int)) = true := by simp; omega
    go_enter Try.func41, Try.ntmps41
    go_wp2_with fail
    refine (H.out.len (n := m) (by rw [HN.out]; exact HM.out)).mono ?_
    rintro _ w2 ⟨rfl, rfl⟩
    go_wp2_with fail
    refine (line_swap b o a g cap l i n w HR.out (by have := HN.out; omega) (by have := HN.out; omega)).mono ?_
    rintro _ w1 ⟨rfl, h1, f1⟩
    have H1 := Lib.hid h1
    have F1 := Lib.hid f1
    clear h1 f1
    go_wp2_with fail
    refine (down_is b o a g cap n i (swp l i n) w1 H1.out (by rw [swp_len]; have := HN.out; omega) (by rw [swp_len]; have := HN.out; omega) (by omega) (HP.out.cut HN.out (by omega))).mono ?_
    rintro _ w2 ⟨t, rfl, l2, h2, f2, p2, t2, u2, k2⟩
    have hl2 : l2.length = n + 1 := by rw [p2.length_eq, swp_len]; exact HN.out
    have F2 := Lib.hid (F1.out.trans f2 (fun k e => Or.inl e))
    have fin : Hid (∀ (l3 : List Wt) (x x' : World), LR b o a g cap x l3 → Frm (fun k => k = g) w x → l3.Perm l2 → gt l3 n = gt l2 n → Hp a l3 n → LR b o a g cap x' (l3.take n) → (Frm (fun k => k = b) x x' ∧ Rest b (o + 1) x x') → ∃ v' l', LV b o a v' x' l' ∧ Frm (fun k => k = b ∨ v.ownBlock = some k) w x' ∧ v'.ownBlock = v.ownBlock ∧ (l' ++ [gt l i]).Perm l ∧ Hp a l' n ∧ l'.length = n ∧ Rest b (o + 1) w x') :=
      (fun l3 x x' _ f3 p3 g3 hh h4 f4 => by
        have hl3 : l3.length = n + 1 := p3.length_eq.trans hl2
        have hgl : gt l3 n = gt l i := by
          rw [g3, k2 n (Nat.le_refl _), swp_gt (by have := HN.out; omega) (by have := HN.out; omega), if_pos rfl]
        refine ⟨_, l3.take n, h4.lv, W1.out f3 f4.1, by rw [HV.out]; rfl, ?_, hh.take, by rw [List.length_take, hl3]; omega, (Rest.frm f3 (World.block_lt_of_cell? _ _ HR.out.c1) (fun e => HR.out.ne e.symm)).trans f4.2⟩
        rw [← hgl]
        exact perm_last (p3.trans (p2.trans (swp_perm (by have := HN.out; omega) (by have := HN.out; omega)))) hl3 :
        ∀ (l3 : List Wt) (x x' : World), LR b o a g cap x l3 → Frm (fun k => k = g) w x → l3.Perm l2 → gt l3 n = gt l2 n → Hp a l3 n → LR b o a g cap x' (l3.take n) → (Frm (fun k => k = b) x x' ∧ Rest b (o + 1) x x') → ∃ v' l', LV b o a v' x' l' ∧ Frm (fun k => k = b ∨ v.ownBlock = some k) w x' ∧ v'.ownBlock = v.ownBlock ∧ (l' ++ [gt l i]).Perm l ∧ Hp a l' n ∧ l'.length = n ∧ Rest b (o + 1) w x')
    have H2 := Lib.hid h2
    cases t with
    | true =>
      have T := Lib.hid (t2 rfl)
      clear h2 f2 p2 t2 u2 k2
      go_wp2_with fail
      refine (line_pop b o a g cap n l2 w2 H2.out hl2 (by omega)).mono ?_
      rintro _ w3 ⟨rfl, h3, f3⟩
      have H3 := Lib.hid (And.intro h3 f3)
      clear h3 f3
      go_wp2_with fail
      go_ret
      exact ⟨_, rfl, fin.out l2 w2 w3 H2.out F2.out (List.Perm.refl _) rfl T.out H3.out.1 H3.out.2⟩
    | false =>
      have T := Lib.hid (u2 rfl)
      clear h2 f2 p2 t2 u2 k2
      go_wp2_with fail
      refine (up_is b o a g cap n i l2 w2 H2.out (by omega) (by omega) (by omega) T.out).mono ?_
      rintro _ w3 ⟨rfl, l3, h3, f3, p3, q3, k3⟩
      have hl3 : l3.length = n + 1 := p3.length_eq.trans hl2
      have R3 := Lib.hid (And.intro h3 (And.intro (F2.out.trans f3 (fun k e => Or.inl e)) (And.intro p3 (And.intro q3 (k3 n (Nat.le_refl _))))))
      clear h3 f3 p3 q3 k3
      go_wp2_with fail
      refine (line_pop b o a g cap n l3 w3 R3.out.1 hl3 (by omega)).mono ?_
      rintro _ w4 ⟨rfl, h4, f4⟩
      have H4 := Lib.hid (And.intro h4 f4)
      clear h4 f4
      go_wp2_with fail
      go_ret
      exact ⟨_, rfl, fin.out l3 w3 w4 R3.out.1 R3.out.2.1 R3.out.2.2.1 R3.out.2.2.2.2 R3.out.2.2.2.1 H4.out.1 H4.out.2⟩
end QQ
end Go.Proofs.Ytlopijcpnfkcgaa
