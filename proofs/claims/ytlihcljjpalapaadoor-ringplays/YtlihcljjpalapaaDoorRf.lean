/- The contracts of slices.Insert at every place, slices.Delete (one timer), slices.Clone at this program. -/
import Derived.Test.YtlihcljjpalapaaDoorRe
import Derived.Lib.SliceRun
namespace Go.Proofs.YtlihcljjpalapaaDoor
open Go.RowKit MK
open RG (Du)
set_option linter.unusedSimpArgs false

theorem insert_any (v : Value) (p : Nat) (l : List Du) (d : Du) (g : Nat) (w : World) (ho : w.ownsRow 0 31 2 v l.length (cd l)) (hb : l.length ≤ 1000000)
    (hp : p ≤ l.length) (hgb : w.heap[g]? = some (.cells (cd [d]).toArray 31 (0, 0))) (hne : v.ownBlock ≠ some g) :
    Calls Tryd.prog 26 #[v, .int .i64 p, .slice (some ⟨g, 0, none⟩) 1 1] w (RowQ v (l.take p ++ d :: l.drop p) w) := by
  by_cases hpn : p = l.length
  · subst hpn
    have := insert_end v l d g w ho hb hgb
    simpa using this
  · rcases ho.2 with ⟨h1, h2⟩ | ⟨b, cap, cur, h1, _, h3, h4, h5, _⟩
    · omega
    · subst h1
      by_cases hroom : l.length + 1 ≤ cap
      · exact insert_shift b cap p l d g w ho hb (by omega) hroom hgb (fun e => hne (by rw [e]; rfl))
      · obtain rfl : cap = l.length := by omega
        exact insert_grow b p l d g w ho hb (by omega) hgb

theorem clone_nil (w : World) : Calls Tryd.prog 30 #[.slice none 0 0] w fun e w' => e = .returned (.slice none 0 0) ∧ w = w' := by
  have q42 : ∀ (w : World) (a : Option Addr) (n c n' c' : Nat), (binOp .eql 42 (.slice a n c) (.slice none n' c')).run Tryd.prog w = .ok (.bool a.isNone) w := fun w a n c n' c' => Lib.run_eql_slice_nil w _ _ a n c n' c' Tryd.underlying42
  go_enter Tryd.func30, Tryd.ntmps30
  go_wp2_with fail
  go_ret
  exact ⟨rfl, rfl⟩
def CloneQ (l : List Du) (w : World) (e : Ending) (w' : World) : Prop := ∃ v', e = .returned v' ∧ w'.ownsRow w.heap.size 31 2 v' l.length (cd l) ∧ Grw w w'
theorem empty_row (w : World) : (w.alloc (.cells #[] 31)).ownsRow w.heap.size 31 2 (.slice (some ⟨w.heap.size, 0, none⟩) 0 0) 0 [] :=
  World.ownsRow_lit w #[] 0 (Nat.le_refl _) (by unfold maxLen; omega) rfl
set_option maxHeartbeats 1000000 in
set_option maxRecDepth 100000 in
theorem clone_some (a : Addr) (cap : Nat) (l : List Du) (w : World) (hl : Lies w (some a) (cd l)) (hb : l.length ≤ 1000000) :
    Calls Tryd.prog 30 #[.slice (some a) l.length cap] w (CloneQ l w) := by
  obtain ⟨i0, hi, hz0, hz1, hz2⟩ := info_parts Tryd.info31
  have D1 := Lib.hid (cd_len l)
  have D2 := Lib.hid (cd_one l)
  have C : Hid (∀ j u, (cd l)[j]? = some u → (w.alloc (.cells #[] 31)).cell? (a.add j) = some u) := (fun j u hj => by
    rcases hl with h | ⟨b, off, e, _, hc⟩
    · rw [h] at hj; cases hj
    · injection e with e
      subst e
      rw [Addr.add_lit]
      exact ((Grw.rfl' w).alloc _).cell (hc j u hj) : ∀ j u, (cd l)[j]? = some u → (w.alloc (.cells #[] 31)).cell? (a.add j) = some u)
  have O := Lib.hid (empty_row w)
  obtain ⟨n, hn⟩ : ∃ n, l.length = n := ⟨_, rfl⟩
  obtain ⟨xs, hxs⟩ : ∃ xs, cd l = xs := ⟨_, rfl⟩
  have HN := Lib.hid (And.intro hn hxs)
  rw [hn] at D1 hb ⊢
  rw [hxs] at D1 D2 C
  clear hl hn hxs
  have q42 : ∀ (w : World) (a : Option Addr) (n c n' c' : Nat), (binOp .eql 42 (.slice a n c) (.slice none n' c')).run Tryd.prog w = .ok (.bool a.isNone) w := fun w a n c n' c' => Lib.run_eql_slice_nil w _ _ a n c n' c' Tryd.underlying42
  go_enter Tryd.func30, Tryd.ntmps30
  go_wp2_with (at_builtin; refine wpList_append_own _ rfl _ _ 42 rfl w.heap.size 31 i0 _ 2 16 Tryd.underlying42 hi hz0 hz1 hz2 rfl (by decide) _ _ _ rfl O.out a n cap xs rfl D1.out C.out D2.out (by unfold maxLen; omega) (by omega) (by simp) ?_)
  intro v' w2 hown' hgrow _
  have U := Lib.hid (And.intro hown' (Below.grown (B := w.heap.size) (a := w) ((Grw.rfl' w).alloc (.cells #[] 31)) hgrow (by rw [size_new]; omega) (fun k e => by injection e with e; rw [← e]; exact Nat.le_refl _)))
  clear hown' hgrow
  go_wp2_with fail
  go_ret
  refine ⟨_, rfl, ?_, U.out.2⟩
  rw [HN.out.1, HN.out.2]
  simpa using U.out.1
theorem clone_any (v : Value) (l : List Du) (w : World) (ho : w.ownsRow 0 31 2 v l.length (cd l)) (hb : l.length ≤ 1000000) : Calls Tryd.prog 30 #[v] w (CloneQ l w) := by
  rcases ho.2 with ⟨h1, h2⟩ | ⟨b, cap, cur, h1, _⟩
  · subst h1
    have hl : l = [] := List.eq_nil_of_length_eq_zero h2
    subst hl
    exact (clone_nil w).mono fun e w' ⟨he, hw⟩ => ⟨_, he, by subst hw; exact World.ownsRow_nil _ _ _ _, by subst hw; exact Grw.rfl' _⟩
  · subst h1
    obtain ⟨ao, cap', e, r⟩ := ownsRow_lies ho
    injection e with e1 _ e3
    subst e1
    exact clone_some _ _ l w r hb

/-- the row behind append and clear. -/
theorem del_rows (cur xs : List Value) (p m c : Nat) (hc : cur.length = c * 2) (hx : cur.take ((p + m + 1) * 2) = xs) (hxl : xs.length = (p + m + 1) * 2) (hn : p + m + 1 ≤ c) (z : List Value) (hz : z.length = 2) :
    (splice (splice cur (p * 2) (xs.drop ((p + 1) * 2))) ((p + m) * 2) z).take ((p + m) * 2) = xs.take (p * 2) ++ xs.drop ((p + 1) * 2) ∧ (splice (splice cur (p * 2) (xs.drop ((p + 1) * 2))) ((p + m) * 2) z).length = c * 2 ∧ (splice cur (p * 2) (xs.drop ((p + 1) * 2))).length = c * 2 := by
  have l1 : (splice cur (p * 2) (xs.drop ((p + 1) * 2))).length = c * 2 := by rw [length_splice _ _ _ (by simp; omega), hc]
  have l2 : (splice (splice cur (p * 2) (xs.drop ((p + 1) * 2))) ((p + m) * 2) z).length = c * 2 := by rw [length_splice _ _ _ (by omega), l1]
  refine ⟨?_, l2, l1⟩
  have e0 : (splice (splice cur (p * 2) (xs.drop ((p + 1) * 2))) ((p + m) * 2) z).take ((p + m) * 2) = (splice cur (p * 2) (xs.drop ((p + 1) * 2))).take ((p + m) * 2) := by
    show ((splice cur (p * 2) (xs.drop ((p + 1) * 2))).take ((p + m) * 2) ++ _).take _ = _
    rw [List.take_append_of_le_length (by rw [List.length_take, l1]; omega), List.take_take, Nat.min_self]
  rw [e0]
  unfold splice
  rw [← List.append_assoc, List.take_left' (by simp; omega)]
  congr 1
  rw [← hx, List.take_take]
  congr 1; omega
/-- append where there is room, as one step of a region that draws: the row behind it, whole. -/
theorem step_append_two {ops : Array Oper} {o : Oper} {a : Act} {w : World} {K : Act → World → Prop} {Q : Exit → Act → World → Prop} {E : Prop} (hgd : o.guard = none) (s x : Operand)
    (ho : o.op = .call { callee := .builtin .append, args := #[s, x], argTypes := #[42, 42] })
    (g n cap : Nat) (hs : a.eval s = .slice (some ⟨g, 0, none⟩) n cap) (ad : Addr) (m c : Nat) (hx : a.eval x = .slice (some ad) m c)
    (cur : List Value) (hg : w.heap[g]? = some (.cells cur.toArray 31 (0, 0))) (news : List Value) (hn : news.length = m * 2)
    (hsrc : ∀ j v, news[j]? = some v → w.cell? (ad.add j) = some v) (h1 : ∀ v ∈ news, v.oneCell' = true) (hroom : n + m ≤ cap) (hfit : n * 2 + news.length ≤ cur.length)
    (h : ∀ w', Hid (w'.heap[g]? = some (.cells (splice cur (n * 2) news).toArray 31 (0, 0))) → Hid (Frm (fun k => k = g) w w') → K (a.put o.dst (.slice (some ⟨g, 0, none⟩) (n + m) cap)) w') :
    if Region.wanted o (yielded ops a.tmps) = true then Oper.wp Tryd.prog o a w K Q else E := by
  obtain ⟨i0, hi, hz0, hz1, hz2⟩ := info_parts Tryd.info31
  have hw : Region.wanted o (yielded ops a.tmps) = true := by simp [Region.wanted, hgd]
  rw [if_pos hw]
  have hrun := run_append_room (P := Tryd.prog) w 42 o.type 31 i0 Tryd.underlying42 hi g n cap cur.toArray hg ad m c news (by rw [hz1]; exact hn) hsrc h1 hroom (by rw [hz1]; simpa using hfit)
  rw [hz1] at hrun
  unfold Oper.wp
  simp [execOp, ho, resolve, invoke, builtin, hs, hx, hrun, Result.andThen]
  exact h _ (show _ = _ by simpa [splice] using setRow_heap w g _ _ 31 _ hg) (show Frm _ _ _ from frm_setRow w g _ rfl)
theorem clear_ex (w : World) (g off c : Nat) (cur : List Value) (hg : w.heap[g]? = some (.cells cur.toArray 31 (0, 0))) (hfit : off + 2 ≤ cur.length) :
    ∃ w', (∀ ty, (Builtin.clear_ #[42] ty #[.slice (some ⟨g, off, none⟩) 1 c]).run Tryd.prog w = .ok (.tuple #[]) w') ∧ Hid (w'.heap[g]? = some (.cells (splice cur off [.int .i64 0, .int .u64 0]).toArray 31 (0, 0))) ∧ Hid (Frm (fun k => k = g) w w') := by
  have hst := run_storeCells_at Tryd.prog g off 31 [Value.int .i64 0, Value.int .u64 0] 0 cur.toArray w hg (by simpa using hfit) (by intro v hv; simp at hv; rcases hv with rfl | rfl <;> rfl)
  refine ⟨w.setRow g (cur.take off ++ [Value.int .i64 0, Value.int .u64 0] ++ cur.drop (off + 2)).toArray, fun ty => ?_, (show _ = _ by simpa [splice] using setRow_heap w g _ _ 31 _ hg), (show Frm _ _ _ from frm_setRow w g _ rfl)⟩
  have hz : (Builtin.zeroCells (Value.agg #[.int .i64 0, .int .u64 0]).cells 1).toList = [Value.int .i64 0, Value.int .u64 0] := by simp [Builtin.zeroCells, Value.cells, List.range_succ]
  simp only [Nat.add_zero, List.length_cons, List.length_nil] at hst
  simp [Builtin.clear_, run_underlying Tryd.underlying42, Tryd.zeroValue31, hz]
  simpa using congrArg (fun r => r.andThen fun _ w' => Result.ok (Value.tuple #[]) w') hst
def DelQ (v : Value) (l : List Du) (w : World) (e : Ending) (w' : World) : Prop :=
  ∃ v', e = .returned v' ∧ w'.ownsRow 0 31 2 v' l.length (cd l) ∧ Frm (fun k => v.ownBlock = some k) w w' ∧ v'.ownBlock = v.ownBlock
set_option maxHeartbeats 4000000 in
set_option maxRecDepth 100000 in
theorem delete_any (v : Value) (p m : Nat) (l : List Du) (w : World) (ho : w.ownsRow 0 31 2 v l.length (cd l)) (hb : l.length ≤ 1000000) (hp : l.length = p + m + 1) :
    Calls Tryd.prog 28 #[v, .int .i64 p, .int .i64 ((p : Int) + 1)] w (DelQ v (l.take p ++ l.drop (p + 1)) w) := by
  obtain ⟨b, cap, cur, rfl, hblk, hroom, hcap, hsz, htake⟩ : ∃ b cap, ∃ cur : List Value, v = .slice (some ⟨b, 0, none⟩) l.length cap ∧ w.heap[b]? = some (.cells cur.toArray 31 (0, 0)) ∧ l.length ≤ cap ∧ cap ≤ maxLen ∧ cur.length = cap * 2 ∧ cur.take (l.length * 2) = cd l := by
    rcases ho.2 with ⟨_, h2⟩ | ⟨g', cap', cur, h1, _, h3, h4, h5, h6, h7⟩
    · omega
    · exact ⟨g', cap', cur.toList, h1, by simpa using h3, h4, h5, by simpa using h6, by simpa using h7⟩
  have hxl := cd_len l
  rw [hp] at hxl htake hroom hb
  have T := Lib.hid (del_rows cur (cd l) p m cap hsz htake hxl hroom [.int .i64 0, .int .u64 0] rfl)
  have P := Lib.hid (show cd (l.take p ++ l.drop (p + 1)) = (cd l).take (p * 2) ++ (cd l).drop ((p + 1) * 2) by rw [cd_app, cd_take, cd_drop])
  have PL := Lib.hid (show (l.take p ++ l.drop (p + 1)).length = p + m by simp; omega)
  have X2 := Lib.hid (cd_one l)
  rw [hp]
  obtain ⟨xs, hxs⟩ : ∃ xs, cd l = xs := ⟨_, rfl⟩
  rw [hxs] at T P X2 hxl htake
  obtain ⟨x2, hx2⟩ : ∃ x2, xs.drop ((p + 1) * 2) = x2 := ⟨_, rfl⟩
  have X3 : Hid (∀ u ∈ x2, u.oneCell' = true) := (fun u hu => X2.out u (by rw [← hx2] at hu; exact List.mem_of_mem_drop hu) : ∀ u ∈ x2, u.oneCell' = true)
  have X4 : Hid (x2.length = m * 2) := (by rw [← hx2, List.length_drop, hxl]; omega : x2.length = m * 2)
  have X5 : Hid (∀ j u, x2[j]? = some u → w.cell? ((⟨b, (p + 1) * 2, none⟩ : Addr).add j) = some u) := (fun j u hj => by
    rw [Addr.add_lit]
    rw [← hx2, List.getElem?_drop, ← htake, List.getElem?_take] at hj
    split at hj
    · simp [World.cell?, hblk, hj]
    · exact absurd hj (by simp) : ∀ j u, x2[j]? = some u → w.cell? ((⟨b, (p + 1) * 2, none⟩ : Addr).add j) = some u)
  rw [hx2] at T P
  have B := Lib.hid hblk
  have CS := Lib.hid hsz
  have hc63 : cap ≤ 9223372036854775807 := by unfold maxLen at hcap; omega
  have hw1 : IntKind.i64.wrap ((p : Int) + 1) = (p : Int) + 1 := by rw [IntKind.wrap_i64]; omega
  have hb1 : (0 : Int) ≤ (p : Int) + 1 := by omega
  have htn : ((p : Int) + 1).toNat = p + 1 := by omega
  have hb3 : (p : Int) ≤ (p : Int) + 1 := by omega
  have hb4 : (p : Int) + 1 ≤ (p : Int) + (m : Int) + 1 := by omega
  have hb5 : ¬ ((p : Int) = (p : Int) + 1) := by omega
  have hb6 : ¬ (cap = p) := by omega
  have hb7 : ¬ (cap = p + m) := by omega
  have hpc : p ≤ cap := by omega
  have hpm : p + m ≤ cap := by omega
  have hpm1 : p + m + 1 ≤ cap := by omega
  have M2 : Hid (p * 2 + x2.length ≤ cur.length) := (by rw [X4.out, CS.out]; omega : p * 2 + x2.length ≤ cur.length)
  have M3 : Hid (p + m ≤ cap) := (by omega : p + m ≤ cap)
  clear ho hblk hsz htake hxl hxs hx2 hcap hp
  by_cases hcp : cap = p + 1
  · subst hcp
    obtain rfl : m = 0 := by omega
    have X6 : Hid (∀ j u, x2[j]? = some u → w.cell? ((⟨b, 0, none⟩ : Addr).add j) = some u) := (fun j u hj => by
      have := X4.out
      rw [List.eq_nil_of_length_eq_zero (show x2.length = 0 by omega)] at hj
      cases hj
      done : ∀ j u, x2[j]? = some u → w.cell? ((⟨b, 0, none⟩ : Addr).add j) = some u)
    go_enter Tryd.func28, Tryd.ntmps28
    go_wp2_with fail
    go_region_law (refine step_append_two rfl (.tmp 22) (.tmp 25) rfl b p (p + 1) (by simp [Act.eval, Act.put]) ⟨b, 0, none⟩ 0 0 (by simp [Act.eval, Act.put]) cur B.out x2 X4.out X6.out X3.out M3.out M2.out ?_; intro w1 H1 F1)
    obtain ⟨w2, hclr, H2, F2⟩ := clear_ex w1 b (p * 2) 1 _ H1.out (by have := T.out.2.2; omega)
    go_wp2_with (simp only [hclr])
    go_ret
    refine ⟨_, rfl, ?_, ?_, rfl⟩
    · rw [PL.out, P.out]
      refine ⟨by rw [← T.out.1, List.length_take, T.out.2.1]; omega, Or.inr ⟨b, p + 1, _, rfl, Nat.zero_le _, H2.out, M3.out, by unfold maxLen; omega, by simpa using T.out.2.1, by simpa using T.out.1⟩⟩
    · exact (((Frm.rfl' _ w).drew).trans F1.out (fun k e => Or.inl (by rw [e]; rfl))).trans F2.out (fun k e => Or.inl (by rw [e]; rfl))
  · go_enter Tryd.func28, Tryd.ntmps28
    go_wp2_with fail
    go_region_law (refine step_append_two rfl (.tmp 22) (.tmp 25) rfl b p cap (by simp [Act.eval, Act.put]) ⟨b, (p + 1) * 2, none⟩ m (cap - (p + 1)) (by simp [Act.eval, Act.put]) cur B.out x2 X4.out X5.out X3.out M3.out M2.out ?_; intro w1 H1 F1)
    obtain ⟨w2, hclr, H2, F2⟩ := clear_ex w1 b ((p + m) * 2) (cap - (p + m)) _ H1.out (by rw [T.out.2.2]; omega)
    go_wp2_with (simp only [hclr])
    go_ret
    refine ⟨_, rfl, ?_, ?_, rfl⟩
    · rw [PL.out, P.out]
      refine ⟨by rw [← T.out.1, List.length_take, T.out.2.1]; omega, Or.inr ⟨b, cap, _, rfl, Nat.zero_le _, H2.out, M3.out, by unfold maxLen; omega, by simpa using T.out.2.1, by simpa using T.out.1⟩⟩
    · exact (((Frm.rfl' _ w).drew).trans F1.out (fun k e => Or.inl (by rw [e]; rfl))).trans F2.out (fun k e => Or.inl (by rw [e]; rfl))
end Go.Proofs.YtlihcljjpalapaaDoor
