/- append([]api.Grant{}, l...), then one more: the runs. -/
import Derived.Test.YtlopijcpnfkcgaaGreatLRw
import Derived.Test.YtlopijcpnfkcgaaGreatLTb
import Derived.OwnWalk
import Derived.Laws.OwnMore
import Derived.Deep.RegionLaw
namespace Go.Proofs.YtlopijcpnfkcgaaGreat
namespace LE
open Go.RowKit
set_option linter.unusedSimpArgs false
theorem Tryz.info91 : (Tryz.prog.info? 91).map (fun i => (i.zero, i.size, i.bytes)) = some (some (.agg #[.int .i64 0, .int .i64 0, .int .u64 0]), 3, 24) := by kernel_rfl
theorem Grw.row {a w x : World} {v : Value} {n : Nat} {xs : List Value} (g : Grw a w) (h : w.grownBy x v.ownBlock) (o : w.ownsRow a.heap.size 91 3 v n xs) : Grw a x :=
  Frm.grw g (grownBy_frm h) (fun k e => by
    rcases o.2 with ⟨h1, _⟩ | ⟨b, cap, cur, h1, hb, _⟩
    · rw [h1] at e; cases e
    · rw [h1] at e; have e : some b = some k := e; injection e with e; omega)

theorem step_append_run {P : Program} {ops : Array Oper} {o : Oper} {a : Act} {w : World} {K : Act → World → Prop} {Q : Exit → Act → World → Prop} {E : Prop} (hgd : o.guard = none) (s x : Operand) (t : TypeId)
    (ho : o.op = .call { callee := .builtin .append, args := #[s, x], argTypes := #[t, t] }) (vs vx : Value) (hs : a.eval s = vs) (hx : a.eval x = vx) {v' : Value} {w' : World}
    (hr : (Builtin.append_ #[t, t] o.type #[vs, vx]).run P w = .ok v' w') (h : K (a.put o.dst v') w') :
    if Region.wanted o (yielded ops a.tmps) = true then Oper.wp P o a w K Q else E := by
  have hw : Region.wanted o (yielded ops a.tmps) = true := by simp [Region.wanted, hgd]
  rw [if_pos hw]
  unfold Oper.wp
  simp [execOp, ho, resolve, invoke, builtin, hs, hx, hr, Result.andThen]
  exact h
theorem blk_cells {w : World} {g : Nat} {xs : List Value} {t : TypeId} (h : w.heap[g]? = some (.cells xs.toArray t (0, 0))) : ∀ j u, xs[j]? = some u → w.cell? ((⟨g, 0, none⟩ : Addr).add j) = some u := by
  intro j u hj
  rw [Addr.add_lit, Nat.zero_add]
  simp [World.cell?, h, hj]
set_option maxRecDepth 100000 in
theorem app_copy (base b cap n : Nat) (ao : Option Addr) (L : List Gr) (u : World) (hb : u.ownsRow base 91 3 (.slice (some ⟨b, 0, none⟩) 0 0) 0 []) (hl : Lies u ao (cg L)) (hn : L.length = n) (hz : ao = none → n = 0 ∧ cap = 0) (hL : L.length ≤ 1000000) (hbase : base ≤ u.heap.size) :
    ∃ v1 u1, (Builtin.append_ #[65, 65] 65 #[.slice (some ⟨b, 0, none⟩) 0 0, .slice ao n cap]).run Tryz.prog u = .ok v1 u1 ∧ u1.ownsRow base 91 3 v1 n (cg L) ∧ Frm (fun k => k = b) u u1 := by
  obtain ⟨i0, hi, hz0, hz1, hz2⟩ := info_parts Tryz.info91
  cases ao with
  | none =>
    obtain ⟨rfl, rfl⟩ := hz rfl
    have e : L = [] := List.eq_nil_of_length_eq_zero hn
    subst e
    have hr := run_append_owned_none (P := Tryz.prog) (w := u) base 65 65 91 i0 3 Tryz.underlying65 hi _ 0 [] hb
    exact ⟨_, _, hr, hb, Frm.rfl' _ _⟩
  | some ad =>
    have C : ∀ j x, (cg L)[j]? = some x → u.cell? (ad.add j) = some x := fun j x hj => by
      rcases hl with h | ⟨b', off, e, _, hc⟩
      · rw [h] at hj; cases hj
      · injection e with e
        subst e
        rw [Addr.add_lit]
        exact hc j x hj
    obtain ⟨v1, u1, h1, h2, h3, _⟩ := run_append_own (P := Tryz.prog) u base 65 65 91 i0 _ 3 24 Tryz.underlying65 hi hz0 hz1 hz2 rfl (by decide) _ 0 [] hb ad n cap (cg L) (by rw [cg_len, hn]) C (cg_one L) (by unfold maxLen; omega) (by omega) hbase
    refine ⟨v1, u1, h1, ?_, (grownBy_frm h3).mono (fun k e => by injection e with e; exact e.symm)⟩
    simpa using h2
theorem empty_row (w u : World) (b : Nat) (hb : w.heap.size ≤ b) (h : u.heap[b]? = some (.cells #[] 91)) : u.ownsRow w.heap.size 91 3 (.slice (some ⟨b, 0, none⟩) 0 0) 0 [] :=
  ⟨rfl, .inr ⟨b, 0, _, rfl, hb, h, Nat.le_refl _, by unfold maxLen; omega, rfl, rfl⟩⟩
set_option maxRecDepth 100000 in
/-- the copy, then one more. -/
theorem app_two (w u : World) (b b1 cap n : Nat) (ao : Option Addr) (L : List Gr) (x : Gr) (hg : Grw w u) (hb : w.heap.size ≤ b) (h : u.heap[b]? = some (.cells #[] 91)) (hl : Lies w ao (cg L)) (hn : L.length = n) (hz : ao = none → n = 0 ∧ cap = 0) (hL : L.length ≤ 100000)
    (hb1 : u.heap[b1]? = some (.cells #[.int .i64 x.n, .int .i64 x.j, .int .u64 (x.u : Nat)] 91)) (hne : b1 ≠ b) :
    ∃ v1 u1 v2 u2, (Builtin.append_ #[65, 65] 65 #[.slice (some ⟨b, 0, none⟩) 0 0, .slice ao n cap]).run Tryz.prog u = .ok v1 u1 ∧ (Builtin.append_ #[65, 65] 65 #[v1, .slice (some ⟨b1, 0, none⟩) 1 1]).run Tryz.prog u1 = .ok v2 u2 ∧
      Grw w u1 ∧ Grw w u2 ∧ u2.ownsRow w.heap.size 91 3 v2 (n + 1) (cg (L ++ [x])) := by
  obtain ⟨i0, hi, hz0, hz1, hz2⟩ := info_parts Tryz.info91
  obtain ⟨v1, u1, r1, o1, f1⟩ := app_copy w.heap.size b cap n ao L u (empty_row w u b hb h) (hl.later hg) hn hz (by omega) (Below.size hg)
  have hbk : u1.heap[b1]? = some (.cells #[.int .i64 x.n, .int .i64 x.j, .int .u64 (x.u : Nat)] 91) := (f1.block b1 (Array.getElem?_eq_some_iff.1 hb1).1 hne).trans hb1
  have g1 : Grw w u1 := f1.grw hg (fun k e => e ▸ hb)
  obtain ⟨v2, u2, r2, o2, f2, _⟩ := run_append_own (P := Tryz.prog) u1 w.heap.size 65 65 91 i0 _ 3 24 Tryz.underlying65 hi hz0 hz1 hz2 rfl (by decide) v1 n (cg L) o1 ⟨b1, 0, none⟩ 1 1 (cg [x]) (cg_len [x]) (blk_cells (xs := cg [x]) hbk) (cg_one [x]) (by unfold maxLen; omega) (by omega) (Below.size g1)
  refine ⟨v1, u1, v2, u2, r1, r2, g1, (grownBy_frm f2).grw g1 (fun k e => (o1.lt k e).1), ?_⟩
  rw [cg_app]
  exact o2
set_option maxRecDepth 100000 in
/-- the copy, then one more that is made behind the copy. -/
theorem app_three (w u : World) (b cap n : Nat) (ao : Option Addr) (L : List Gr) (x : Gr) (hg : Grw w u) (hb : w.heap.size ≤ b) (h : u.heap[b]? = some (.cells #[] 91)) (hl : Lies w ao (cg L)) (hn : L.length = n) (hz : ao = none → n = 0 ∧ cap = 0) (hL : L.length ≤ 100000) :
    ∃ v1 u1 v2 u2, (Builtin.append_ #[65, 65] 65 #[.slice (some ⟨b, 0, none⟩) 0 0, .slice ao n cap]).run Tryz.prog u = .ok v1 u1 ∧ (Builtin.append_ #[65, 65] 65 #[v1, .slice (some ⟨u1.heap.size, 0, none⟩) 1 1]).run Tryz.prog (u1.alloc (.cells #[.int .i64 x.n, .int .i64 x.j, .int .u64 (x.u : Nat)] 91)) = .ok v2 u2 ∧
      Grw w u1 ∧ Grw w u2 ∧ u2.ownsRow w.heap.size 91 3 v2 (n + 1) (cg (L ++ [x])) := by
  obtain ⟨i0, hi, hz0, hz1, hz2⟩ := info_parts Tryz.info91
  obtain ⟨v1, u1, r1, o1, f1⟩ := app_copy w.heap.size b cap n ao L u (empty_row w u b hb h) (hl.later hg) hn hz (by omega) (Below.size hg)
  have g1 : Grw w u1 := f1.grw hg (fun k e => e ▸ hb)
  obtain ⟨v2, u2, r2, o2, f2, _⟩ := run_append_own (P := Tryz.prog) (u1.alloc (.cells #[.int .i64 x.n, .int .i64 x.j, .int .u64 (x.u : Nat)] 91)) w.heap.size 65 65 91 i0 _ 3 24 Tryz.underlying65 hi hz0 hz1 hz2 rfl (by decide) v1 n (cg L) (World.ownsRow.alloc o1 _) ⟨u1.heap.size, 0, none⟩ 1 1 (cg [x]) (cg_len [x]) (blk_cells (xs := cg [x]) (heap_alloc_new u1 _)) (cg_one [x]) (by unfold maxLen; omega) (by omega) (Below.size (g1.alloc _))
  refine ⟨v1, u1, v2, u2, r1, r2, g1, (grownBy_frm f2).grw (g1.alloc _) (fun k e => (o1.lt k e).1), ?_⟩
  rw [cg_app]
  exact o2
end LE
end Go.Proofs.YtlopijcpnfkcgaaGreat

/- The document's table in memory: Look, Of. -/
namespace Go.Proofs.YtlopijcpnfkcgaaGreat
namespace LE
open Go.RowKit
set_option linter.unusedSimpArgs false
variable {X : Nat → Value → Prop}

/-- the document's table at block r: its leases in a row of its own, the last number. -/
structure RT (X : Nat → Value → Prop) (w : World) (r last : Nat) (v : Value) (L : List Gr) : Prop where
  c0 : w.cell? ⟨r, 4, none⟩ = some v
  c1 : w.cell? ⟨r, 5, none⟩ = some (.int .i64 (last : Nat))
  f0 : w.frozen? ⟨r, 4, none⟩ = false
  f1 : w.frozen? ⟨r, 5, none⟩ = false
  row : w.ownsRow 0 91 3 v L.length (cg L)
  ne : v.ownBlock ≠ some r
  len : L.length ≤ 10000
  ex : ∀ j u, X j u → (j ≠ 4 ∧ j ≠ 5) ∧ w.cell? ⟨r, j, none⟩ = some u ∧ w.frozen? ⟨r, j, none⟩ = false
def rf (r : Nat) (v : Value) (k : Nat) : Prop := k = r ∨ v.ownBlock = some k
theorem RT.keep {w x : World} {r last : Nat} {v : Value} {L : List Gr} (h : RT X w r last v L) {F : Nat → Prop} (f : Frm F w x) (hf : ∀ k, rf r v k → ¬ F k) : RT X x r last v L :=
  ⟨f.cell h.c0 (hf r (Or.inl rfl)), f.cell h.c1 (hf r (Or.inl rfl)), frz_frm f h.c0 (hf r (Or.inl rfl)) h.f0, frz_frm f h.c1 (hf r (Or.inl rfl)) h.f1, ownsRow_frm h.row f (fun k hk => hf k (Or.inr hk)), h.ne, h.len, fun j u hx => ⟨(h.ex j u hx).1, f.cell (h.ex j u hx).2.1 (hf r (Or.inl rfl)), frz_frm f (h.ex j u hx).2.1 (hf r (Or.inl rfl)) (h.ex j u hx).2.2⟩⟩
theorem RT.later {w x : World} {r last : Nat} {v : Value} {L : List Gr} (h : RT X w r last v L) (g : Grw w x) : RT X x r last v L := h.keep (g.frm (fun _ => False)) (fun _ _ e => e)
/-- what was found, or nothing. -/
def fv (o : Option Gr) : Value := .agg #[.int .i64 (o.getD g0).n, .int .i64 (o.getD g0).j, .int .u64 ((o.getD g0).u : Nat), .bool o.isSome]
theorem find_at {p : Gr → Bool} {L : List Gr} {k : Nat} (hk : k < L.length) (hno : ∀ i (h : i < L.length), i < k → p L[i] = false) (hp : p L[k] = true) : L.find? p = some L[k] := by
  induction L generalizing k with
  | nil => cases hk
  | cons a L ih =>
    cases k with
    | zero => simp at hp; simp [List.find?_cons, hp]
    | succ k =>
      have h0 := hno 0 (by simp) (by omega)
      simp at h0
      rw [List.find?_cons, h0]
      simp only [List.getElem_cons_succ] at hp ⊢
      exact ih (by simpa using hk) (fun i h hi => by have := hno (i + 1) (by simpa using h) (by omega); simpa using this) hp
theorem find_no {p : Gr → Bool} {L : List Gr} (hno : ∀ i (h : i < L.length), p L[i] = false) : L.find? p = none := by
  rw [List.find?_eq_none]
  intro x hx
  obtain ⟨i, hi, rfl⟩ := List.mem_iff_getElem.1 hx
  simp [hno i hi]
set_option maxHeartbeats 2000000 in
set_option maxRecDepth 100000 in
theorem rof_is {w : World} {r last : Nat} {v : Value} {L : List Gr} (h : RT X w r last v L) (x : Int) :
    Calls Tryz.prog 45 #[.pointer (some ⟨r, 4, none⟩), .int .i64 x] w fun e w' => e = .returned (fv (byJ L x)) ∧ Grw w w' := by
  obtain ⟨ao, cap, hv, hl⟩ := ownsRow_lies h.row
  subst hv
  have c0 := h.c0
  have LI := Lib.hid hl
  have hb := h.len
  obtain ⟨n, hn⟩ : ∃ n, L.length = n := ⟨_, rfl⟩
  obtain ⟨W0, hW0⟩ : ∃ W0, w.alloc (.cells #[.int .i64 0, .int .i64 0, .int .u64 0, .bool false] 93) = W0 := ⟨_, rfl⟩
  have g0' : Grw w W0 := by rw [← hW0]; exact (Grw.rfl' w).alloc _
  have z0 : W0.cell? ⟨w.heap.size, 0, none⟩ = some (.int .i64 0) := by rw [← hW0]; simp [go_sem]
  have z1 : W0.cell? ⟨w.heap.size, 1, none⟩ = some (.int .i64 0) := by rw [← hW0]; simp [go_sem]
  have z2 : W0.cell? ⟨w.heap.size, 2, none⟩ = some (.int .u64 0) := by rw [← hW0]; simp [go_sem]
  have z3 : W0.cell? ⟨w.heap.size, 3, none⟩ = some (.bool false) := by rw [← hW0]; simp [go_sem]
  have zf : ∀ i, W0.frozen? ⟨w.heap.size, i, none⟩ = false := fun i => by rw [← hW0]; simp [go_sem]
  have zl : w.heap.size < W0.heap.size := by rw [← hW0, size_new]; omega
  have ZZ : Hid (∀ u, Grw W0 u → u.cell? ⟨r, 4, none⟩ = some (.slice ao n cap) ∧ u.cell? ⟨w.heap.size, 0, none⟩ = some (.int .i64 0) ∧ u.cell? ⟨w.heap.size, 1, none⟩ = some (.int .i64 0) ∧ u.cell? ⟨w.heap.size, 2, none⟩ = some (.int .u64 0) ∧ u.cell? ⟨w.heap.size, 3, none⟩ = some (.bool false) ∧ u.frozen? ⟨w.heap.size, 0, none⟩ = false ∧ u.frozen? ⟨w.heap.size, 1, none⟩ = false ∧ u.frozen? ⟨w.heap.size, 2, none⟩ = false ∧ u.frozen? ⟨w.heap.size, 3, none⟩ = false) :=
    (fun u g => ⟨by rw [← hn]; exact (g0'.trans g).cell c0, g.cell z0, g.cell z1, g.cell z2, g.cell z3, by rw [Below.frozen g zl]; exact zf 0, by rw [Below.frozen g zl]; exact zf 1, by rw [Below.frozen g zl]; exact zf 2, by rw [Below.frozen g zl]; exact zf 3⟩ : ∀ u, Grw W0 u → u.cell? ⟨r, 4, none⟩ = some (.slice ao n cap) ∧ u.cell? ⟨w.heap.size, 0, none⟩ = some (.int .i64 0) ∧ u.cell? ⟨w.heap.size, 1, none⟩ = some (.int .i64 0) ∧ u.cell? ⟨w.heap.size, 2, none⟩ = some (.int .u64 0) ∧ u.cell? ⟨w.heap.size, 3, none⟩ = some (.bool false) ∧ u.frozen? ⟨w.heap.size, 0, none⟩ = false ∧ u.frozen? ⟨w.heap.size, 1, none⟩ = false ∧ u.frozen? ⟨w.heap.size, 2, none⟩ = false ∧ u.frozen? ⟨w.heap.size, 3, none⟩ = false)
  have HN := Lib.hid hn
  have G0 := Lib.hid g0'
  rw [hn] at hb
  clear h hl hn c0 g0' z0 z1 z2 z3 zf zl
  go_enter Tryz.func45, Tryz.ntmps45
  go_wp2_with fail
  clear hW0
  go_loopw [5] (fun i wr => ∃ k : Nat, i = .int .i64 k ∧ k ≤ n ∧ Grw W0 wr ∧ ∀ i (h : i < L.length), i < k → decide (L[i].j = x) = false) (fun i _ => n - (intOf i).toNat)
  case atStart => exact ⟨0, rfl, Nat.zero_le _, Grw.rfl' _, fun j _ hj => by omega⟩
  case round =>
    obtain ⟨k, rfl, hk, hg, hno⟩ := hrel
    have G := Lib.hid (G0.out.trans hg)
    have GK := Lib.hid hg
    have NO := Lib.hid hno
    obtain ⟨cr, z0, z1, z2, z3, f0, f1, f2, f3⟩ := ZZ.out _ hg
    clear hno
    by_cases ck : k < n
    · have d1 : decide (k < n) = true := by simp [ck]
      have d2 : (k : Int) < (n : Int) := by omega
      have hkl : k < L.length := by rw [HN.out]; exact ck
      obtain ⟨b, off, rfl, c0, c1, c2⟩ := glies_at (LI.out.later G.out) hkl
      obtain ⟨y, hy⟩ : ∃ z, L[k]'hkl = z := ⟨_, rfl⟩
      have HY := Lib.hid hy
      rw [hy] at c0 c1 c2
      obtain ⟨yn, yj, yu⟩ := y
      simp only at c0 c1 c2
      obtain ⟨t, ht⟩ : ∃ t, (yj == x) = t := ⟨_, rfl⟩
      have HT := Lib.hid ht
      clear hy hg
      cases t with
      | true =>
        have hfind : byJ L x = some ⟨yn, yj, yu⟩ := by
          have := find_at (p := fun g => decide (g.j = x)) hkl (fun i h hi => NO.out i h hi) (by rw [HY.out]; have := HT.out; simpa using this)
          rw [HY.out] at this
          exact this
        have HF := Lib.hid hfind
        clear hfind
        go_wp2_with fail
        exact bodyPost_ret (v := .agg #[.int .i64 yn, .int .i64 yj, .int .u64 (yu : Nat), .bool true]) (by simp [results, Tryz.results45, go_sem, z0, z1, z2, z3]) rfl ⟨by rw [HF.out]; rfl, by repeat (first | exact G.out | with_reducible refine Grw.set ?_ (Nat.le_refl _) _)⟩
      | false =>
        have q7 : IntKind.i64.wrap ((k : Int) + 1) = ((k + 1 : Nat) : Int) := by simp [IntKind.wrap_i64]; omega
        go_wp2_with fail
        go_roundw
        case rel =>
          refine ⟨k + 1, by go_num, by omega, GK.out, fun j h hj => ?_⟩
          by_cases cjk : j = k
          · subst cjk; rw [HY.out]; have := HT.out; simpa using this
          · exact NO.out j h (by omega)
        case measure => simp [intOf]; omega
    · have d1 : decide (k < n) = false := by simp [ck]
      have d2 : ¬ (k : Int) < (n : Int) := by omega
      have hfind : byJ L x = none := find_no (p := fun g => decide (g.j = x)) (fun i h => NO.out i h (by have := HN.out; omega))
      have HF := Lib.hid hfind
      clear hfind hg
      go_wp2_with fail
      exact bodyPost_ret (v := .agg #[.int .i64 0, .int .i64 0, .int .u64 0, .bool false]) (by simp [results, Tryz.results45, go_sem, z0, z1, z2, z3]) rfl ⟨by rw [HF.out]; rfl, by repeat (first | exact G.out | with_reducible refine Grw.set ?_ (Nat.le_refl _) _)⟩
set_option maxHeartbeats 2000000 in
set_option maxRecDepth 100000 in
theorem rlook_is {w : World} {r last : Nat} {v : Value} {L : List Gr} (h : RT X w r last v L) (x : Int) :
    Calls Tryz.prog 59 #[.pointer (some ⟨r, 4, none⟩), .int .i64 x] w fun e w' => e = .returned (fv (byN L x)) ∧ Grw w w' := by
  obtain ⟨ao, cap, hv, hl⟩ := ownsRow_lies h.row
  subst hv
  have c0 := h.c0
  have LI := Lib.hid hl
  have hb := h.len
  obtain ⟨n, hn⟩ : ∃ n, L.length = n := ⟨_, rfl⟩
  obtain ⟨W0, hW0⟩ : ∃ W0, w.alloc (.cells #[.int .i64 0, .int .i64 0, .int .u64 0, .bool false] 93) = W0 := ⟨_, rfl⟩
  have g0' : Grw w W0 := by rw [← hW0]; exact (Grw.rfl' w).alloc _
  have z0 : W0.cell? ⟨w.heap.size, 0, none⟩ = some (.int .i64 0) := by rw [← hW0]; simp [go_sem]
  have z1 : W0.cell? ⟨w.heap.size, 1, none⟩ = some (.int .i64 0) := by rw [← hW0]; simp [go_sem]
  have z2 : W0.cell? ⟨w.heap.size, 2, none⟩ = some (.int .u64 0) := by rw [← hW0]; simp [go_sem]
  have z3 : W0.cell? ⟨w.heap.size, 3, none⟩ = some (.bool false) := by rw [← hW0]; simp [go_sem]
  have zf : ∀ i, W0.frozen? ⟨w.heap.size, i, none⟩ = false := fun i => by rw [← hW0]; simp [go_sem]
  have zl : w.heap.size < W0.heap.size := by rw [← hW0, size_new]; omega
  have ZZ : Hid (∀ u, Grw W0 u → u.cell? ⟨r, 4, none⟩ = some (.slice ao n cap) ∧ u.cell? ⟨w.heap.size, 0, none⟩ = some (.int .i64 0) ∧ u.cell? ⟨w.heap.size, 1, none⟩ = some (.int .i64 0) ∧ u.cell? ⟨w.heap.size, 2, none⟩ = some (.int .u64 0) ∧ u.cell? ⟨w.heap.size, 3, none⟩ = some (.bool false) ∧ u.frozen? ⟨w.heap.size, 0, none⟩ = false ∧ u.frozen? ⟨w.heap.size, 1, none⟩ = false ∧ u.frozen? ⟨w.heap.size, 2, none⟩ = false ∧ u.frozen? ⟨w.heap.size, 3, none⟩ = false) :=
    (fun u g => ⟨by rw [← hn]; exact (g0'.trans g).cell c0, g.cell z0, g.cell z1, g.cell z2, g.cell z3, by rw [Below.frozen g zl]; exact zf 0, by rw [Below.frozen g zl]; exact zf 1, by rw [Below.frozen g zl]; exact zf 2, by rw [Below.frozen g zl]; exact zf 3⟩ : ∀ u, Grw W0 u → u.cell? ⟨r, 4, none⟩ = some (.slice ao n cap) ∧ u.cell? ⟨w.heap.size, 0, none⟩ = some (.int .i64 0) ∧ u.cell? ⟨w.heap.size, 1, none⟩ = some (.int .i64 0) ∧ u.cell? ⟨w.heap.size, 2, none⟩ = some (.int .u64 0) ∧ u.cell? ⟨w.heap.size, 3, none⟩ = some (.bool false) ∧ u.frozen? ⟨w.heap.size, 0, none⟩ = false ∧ u.frozen? ⟨w.heap.size, 1, none⟩ = false ∧ u.frozen? ⟨w.heap.size, 2, none⟩ = false ∧ u.frozen? ⟨w.heap.size, 3, none⟩ = false)
  have HN := Lib.hid hn
  have G0 := Lib.hid g0'
  rw [hn] at hb
  clear h hl hn c0 g0' z0 z1 z2 z3 zf zl
  go_enter Tryz.func59, Tryz.ntmps59
  go_wp2_with fail
  clear hW0
  go_loopw [5] (fun i wr => ∃ k : Nat, i = .int .i64 k ∧ k ≤ n ∧ Grw W0 wr ∧ ∀ i (h : i < L.length), i < k → decide (L[i].n = x) = false) (fun i _ => n - (intOf i).toNat)
  case atStart => exact ⟨0, rfl, Nat.zero_le _, Grw.rfl' _, fun j _ hj => by omega⟩
  case round =>
    obtain ⟨k, rfl, hk, hg, hno⟩ := hrel
    have G := Lib.hid (G0.out.trans hg)
    have GK := Lib.hid hg
    have NO := Lib.hid hno
    obtain ⟨cr, z0, z1, z2, z3, f0, f1, f2, f3⟩ := ZZ.out _ hg
    clear hno
    by_cases ck : k < n
    · have d1 : decide (k < n) = true := by simp [ck]
      have d2 : (k : Int) < (n : Int) := by omega
      have hkl : k < L.length := by rw [HN.out]; exact ck
      obtain ⟨b, off, rfl, c0, c1, c2⟩ := glies_at (LI.out.later G.out) hkl
      obtain ⟨y, hy⟩ : ∃ z, L[k]'hkl = z := ⟨_, rfl⟩
      have HY := Lib.hid hy
      rw [hy] at c0 c1 c2
      obtain ⟨yn, yj, yu⟩ := y
      simp only at c0 c1 c2
      obtain ⟨t, ht⟩ : ∃ t, (yn == x) = t := ⟨_, rfl⟩
      have HT := Lib.hid ht
      clear hy hg
      cases t with
      | true =>
        have hfind : byN L x = some ⟨yn, yj, yu⟩ := by
          have := find_at (p := fun g => decide (g.n = x)) hkl (fun i h hi => NO.out i h hi) (by rw [HY.out]; have := HT.out; simpa using this)
          rw [HY.out] at this
          exact this
        have HF := Lib.hid hfind
        clear hfind
        go_wp2_with fail
        exact bodyPost_ret (v := .agg #[.int .i64 yn, .int .i64 yj, .int .u64 (yu : Nat), .bool true]) (by simp [results, Tryz.results59, go_sem, z0, z1, z2, z3]) rfl ⟨by rw [HF.out]; rfl, by repeat (first | exact G.out | with_reducible refine Grw.set ?_ (Nat.le_refl _) _)⟩
      | false =>
        have q7 : IntKind.i64.wrap ((k : Int) + 1) = ((k + 1 : Nat) : Int) := by simp [IntKind.wrap_i64]; omega
        go_wp2_with fail
        go_roundw
        case rel =>
          refine ⟨k + 1, by go_num, by omega, GK.out, fun j h hj => ?_⟩
          by_cases cjk : j = k
          · subst cjk; rw [HY.out]; have := HT.out; simpa using this
          · exact NO.out j h (by omega)
        case measure => simp [intOf]; omega
    · have d1 : decide (k < n) = false := by simp [ck]
      have d2 : ¬ (k : Int) < (n : Int) := by omega
      have hfind : byN L x = none := find_no (p := fun g => decide (g.n = x)) (fun i h => NO.out i h (by have := HN.out; omega))
      have HF := Lib.hid hfind
      clear hfind hg
      go_wp2_with fail
      exact bodyPost_ret (v := .agg #[.int .i64 0, .int .i64 0, .int .u64 0, .bool false]) (by simp [results, Tryz.results59, go_sem, z0, z1, z2, z3]) rfl ⟨by rw [HF.out]; rfl, by repeat (first | exact G.out | with_reducible refine Grw.set ?_ (Nat.le_refl _) _)⟩
end LE
end Go.Proofs.YtlopijcpnfkcgaaGreat
