/- append as one step of a region that draws, at rows of timers; the contract of Dues. -/
import Derived.Test.YtjkhgpdhhnfmlaaDoorRb
namespace Go.Proofs.YtjkhgpdhhnfmlaaDoor
open Go.RowKit MK
open RG (Du)
set_option linter.unusedSimpArgs false

theorem step_append_run {P : Program} {ops : Array Oper} {o : Oper} {a : Act} {w : World} {K : Act → World → Prop} {Q : Exit → Act → World → Prop} {E : Prop} (hgd : o.guard = none) (s x : Operand) (t : TypeId)
    (ho : o.op = .call { callee := .builtin .append, args := #[s, x], argTypes := #[t, t] }) (vs vx : Value) (hs : a.eval s = vs) (hx : a.eval x = vx) {v' : Value} {w' : World}
    (hr : (Builtin.append_ #[t, t] o.type #[vs, vx]).run P w = .ok v' w') (h : K (a.put o.dst v') w') :
    if Region.wanted o (yielded ops a.tmps) = true then Oper.wp P o a w K Q else E := by
  have hw : Region.wanted o (yielded ops a.tmps) = true := by simp [Region.wanted, hgd]
  rw [if_pos hw]
  unfold Oper.wp
  simp [execOp, ho, resolve, invoke, builtin, hs, hx, hr, Result.andThen]
  exact h
/-- a slice without room, whatever it lies in, and more than nothing: a new row. -/
theorem append_fresh {P : Program} (t e : TypeId) (z : Value) (size bytes : Nat) (ht : P.underlying t = some (.slice e)) (hinfo : (P.info? e).map (fun i => (i.zero, i.size, i.bytes)) = some (some z, size, bytes)) (hzs : z.cells.size = size)
    (w : World) (ty : TypeId) (ao : Option Addr) (k : Nat) (hnil : ao = none → k = 0) (ys : List Value) (hy : ys.length = k * size) (hl : Lies w ao ys) (ad : Addr) (m c : Nat) (news : List Value) (hn : news.length = m * size)
    (hnews : ∀ j u, news[j]? = some u → w.cell? (ad.add j) = some u) (hm : 0 < m) (h63 : k + m ≤ 1000000) (hbytes : (k + m) * bytes ≤ 140737488355328) :
    ∃ v' w', (Builtin.append_ #[t, t] ty #[.slice ao k k, .slice (some ad) m c]).run P w = .ok v' w' ∧ w'.ownsRow w.heap.size e size v' (k + m) (ys ++ news) ∧ Grw w w' := by
  obtain ⟨i, hi, hz, hsize, hby⟩ := info_parts hinfo
  subst hsize
  subst hby
  have hge := grownCap_ge w (k + m) k e
  have hcm := grownCap_le_maxLen w (k + m) k e (by unfold maxLen; omega)
  have hlen : (ys ++ news).length = (k + m) * i.size := by rw [List.length_append, hy, hn, Nat.add_mul]
  have fin : (w.drew.alloc (.cells (ys.toArray ++ news.toArray ++ Builtin.zeroCells z.cells (grownCap w (k + m) k e - (k + m))) e)).ownsRow w.heap.size e i.size (.slice (some ⟨w.heap.size, 0, none⟩) (k + m) (grownCap w (k + m) k e)) (k + m) (ys ++ news) := by
    refine ⟨hlen, .inr ⟨w.heap.size, _, _, rfl, Nat.le_refl _, heap_alloc_new w.drew _, hge, hcm, ?_, ?_⟩⟩
    · simp only [Array.size_append, List.size_toArray, size_zeroCells, hzs, hy, hn, ← Nat.add_mul]
      congr 1
      omega
    · simp only [Array.toList_append, List.append_assoc]
      rw [← List.append_assoc, ← hlen]
      exact List.take_left
  cases ao with
  | none =>
    have hk := hnil rfl
    subst hk
    have hye : ys = [] := List.eq_nil_of_length_eq_zero (by simpa using hy)
    subst hye
    have hr := run_append_nil (P := P) w t ty e i z ht hi hz ad m c news hn hnews hm (by omega) (by simp only [Nat.zero_add] at hbytes; omega)
    simp only [Nat.zero_add, List.nil_append, Array.empty_append] at fin ⊢
    exact ⟨_, _, hr, fin, ((Grw.rfl' w).drew).alloc _⟩
  | some a =>
    have holds : ∀ j u, ys[j]? = some u → w.cell? (a.add j) = some u := fun j u hj => by
      rcases hl with h | ⟨b, off, e, _, hc⟩
      · rw [h] at hj; cases hj
      · injection e with e
        subst e
        rw [Addr.add_lit]
        exact hc j u hj
    have hr := run_append_grow (P := P) w t ty e i z ht hi hz a k k ys hy holds ad m c news hn hnews (by omega) (by omega) (growslice_fits (by omega) hbytes)
    exact ⟨_, _, hr, fin, ((Grw.rfl' w).drew).alloc _⟩
theorem step_append_fresh {P : Program} {ops : Array Oper} {o : Oper} {a : Act} {w : World} {K : Act → World → Prop} {Q : Exit → Act → World → Prop} {E : Prop} (hgd : o.guard = none) (s x : Operand) (t : TypeId)
    (ho : o.op = .call { callee := .builtin .append, args := #[s, x], argTypes := #[t, t] }) (e : TypeId) (z : Value) (size bytes : Nat) (ht : P.underlying t = some (.slice e)) (hinfo : (P.info? e).map (fun i => (i.zero, i.size, i.bytes)) = some (some z, size, bytes)) (hzs : z.cells.size = size)
    (ao : Option Addr) (k : Nat) (hs : a.eval s = .slice ao k k) (hnil : ao = none → k = 0) (ys : List Value) (hy : ys.length = k * size) (hl : Lies w ao ys) (ad : Addr) (m c : Nat) (hx : a.eval x = .slice (some ad) m c) (news : List Value) (hn : news.length = m * size)
    (hnews : ∀ j u, news[j]? = some u → w.cell? (ad.add j) = some u) (hm : 0 < m) (h63 : k + m ≤ 1000000) (hbytes : (k + m) * bytes ≤ 140737488355328)
    (h : ∀ v' w', Hid (w'.ownsRow w.heap.size e size v' (k + m) (ys ++ news)) → Grw w w' → K (a.put o.dst v') w') :
    if Region.wanted o (yielded ops a.tmps) = true then Oper.wp P o a w K Q else E := by
  obtain ⟨v', w', hr, h1, h2⟩ := append_fresh t e z size bytes ht hinfo hzs w o.type ao k hnil ys hy hl ad m c news hn hnews hm h63 hbytes
  exact step_append_run hgd s x t ho _ _ hs hx hr (h v' w' h1 h2)

set_option maxHeartbeats 1000000 in
set_option maxRecDepth 100000 in
theorem dues_same (u v : Value) (l : List Du) (w : World) (hb : l.length ≤ 1000000) (ha : RowD w u l) (hv : RowD w v l) :
    Calls Tryd.prog 17 #[u, v] w fun e w' => e = .returned (.bool true) ∧ Grw w w' := by
  obtain ⟨ao, ca, rfl, ra⟩ := ha
  obtain ⟨bo, cb, rfl, rb⟩ := hv
  have RA := Lib.hid ra
  have RB := Lib.hid rb
  obtain ⟨n, hn⟩ : ∃ n, l.length = n := ⟨_, rfl⟩
  rw [hn] at hb ⊢
  have HN := Lib.hid hn
  clear ra rb hn
  go_enter Tryd.func17, Tryd.ntmps17
  go_wp2_with fail
  go_loopw [5] (fun i wr => ∃ k : Nat, k ≤ n ∧ i = .int .i64 k ∧ Grw w wr) (fun i _ => n - (intOf i).toNat)
  case atStart => exact ⟨0, Nat.zero_le _, rfl, Grw.rfl' _⟩
  case round =>
    obtain ⟨k, hk, rfl, hg⟩ := hrel
    by_cases hk' : k < n
    · have hki : (k : Int) < (n : Int) := by omega
      have hkl : k < l.length := by rw [HN.out]; exact hk'
      obtain ⟨b, off, rfl, c0, c1⟩ := lies_at (RA.out.later hg) hkl
      obtain ⟨b2, off2, rfl, e0, e1⟩ := lies_at (RB.out.later hg) hkl
      obtain ⟨x, hx⟩ : ∃ x, l[k] = x := ⟨_, rfl⟩
      rw [hx] at c0 c1 e0 e1
      obtain ⟨xi, xt⟩ := x
      simp only at c0 c1 e0 e1
      have G := Lib.hid hg
      clear hx hg
      go_wp2_with fail
      go_quiet (fail)
      go_wp2_with fail
      go_roundw
      case rel => exact ⟨k + 1, by omega, by go_num, G.out.drewN _⟩
      case measure => simp [intOf]; omega
    · have hki : ¬ (k : Int) < (n : Int) := by omega
      go_wp2_with fail
      go_ret
      exact ⟨rfl, hg⟩
end Go.Proofs.YtjkhgpdhhnfmlaaDoor
