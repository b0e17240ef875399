/- The document's table in memory: Look, Of. -/
import Derived.Test.YtoejmopppkjaoaaVa
namespace Go.Proofs.Ytoejmopppkjaoaa
open Go.RowKit
set_option linter.unusedSimpArgs false

/-- the document's table at block r: its leases in a row of its own, the last number. -/
structure RT (w : World) (r last : Nat) (v : Value) (L : List Gr) : Prop where
  c0 : w.cell? ⟨r, 0, none⟩ = some v
  c1 : w.cell? ⟨r, 1, none⟩ = some (.int .i64 (last : Nat))
  f0 : w.frozen? ⟨r, 0, none⟩ = false
  f1 : w.frozen? ⟨r, 1, none⟩ = false
  row : w.ownsRow 0 39 3 v L.length (cg L)
  ne : v.ownBlock ≠ some r
  len : L.length ≤ 10000
def rf (r : Nat) (v : Value) (k : Nat) : Prop := k = r ∨ v.ownBlock = some k
theorem RT.keep {w x : World} {r last : Nat} {v : Value} {L : List Gr} (h : RT w r last v L) {F : Nat → Prop} (f : Frm F w x) (hf : ∀ k, rf r v k → ¬ F k) : RT x r last v L :=
  ⟨f.cell h.c0 (hf r (Or.inl rfl)), f.cell h.c1 (hf r (Or.inl rfl)), frz_frm f h.c0 (hf r (Or.inl rfl)) h.f0, frz_frm f h.c1 (hf r (Or.inl rfl)) h.f1, ownsRow_frm h.row f (fun k hk => hf k (Or.inr hk)), h.ne, h.len⟩
theorem RT.later {w x : World} {r last : Nat} {v : Value} {L : List Gr} (h : RT w r last v L) (g : Grw w x) : RT x r last v L := h.keep (g.frm (fun _ => False)) (fun _ _ e => e)
/-- what was found, or nothing. -/
def fv (o : Option Gr) : Value := .agg #[.int .i64 (o.getD g0).n, .int .i64 (o.getD g0).j, .int .u64 ((o.getD g0).u : Nat), .bool o.isSome]
theorem find_at {p : Gr → Bool} {L : List Gr} {k : Nat} (hk : k < L.length) (hno : ∀ i (h : i < L.length), i < k → p L[i] = false) (hp : p L[k] = true) : L.find? p = some L[k] := by
  induction L generalizing k with
  | nil => cases hk
  | cons a L ih =>
    cases k with
    | zero => simp at hp; simp [List.find?_cons, hp]
    | succ k =>
      have h0 := hno 0 (by simp) (by omega)
      simp at h0
      rw [List.find?_cons, h0]
      simp only [List.getElem_cons_succ] at hp ⊢
      exact ih (by simpa using hk) (fun i h hi => by have := hno (i + 1) (by simpa using h) (by omega); simpa using this) hp
theorem find_no {p : Gr → Bool} {L : List Gr} (hno : ∀ i (h : i < L.length), p L[i] = false) : L.find? p = none := by
  rw [List.find?_eq_none]
  intro x hx
  obtain ⟨i, hi, rfl⟩ := List.mem_iff_getElem.1 hx
  simp [hno i hi]
set_option maxHeartbeats 2000000 in
set_option maxRecDepth 100000 in
theorem rof_is {w : World} {r last : Nat} {v : Value} {L : List Gr} (h : RT w r last v L) (x : Int) :
    Calls Try.prog 20 #[.pointer (some ⟨r, 0, none⟩), .int .i64 x] w fun e w' => e = .returned (fv (byJ L x)) ∧ Grw w w' := by
  obtain ⟨ao, cap, hv, hl⟩ := ownsRow_lies h.row
  subst hv
  have c0 := h.c0
  have LI := Lib.hid hl
  have hb := h.len
  obtain ⟨n, hn⟩ : ∃ n, L.length = n := ⟨_, rfl⟩
  obtain ⟨W0, hW0⟩ : ∃ W0, w.alloc (.cells #[.int .i64 0, .int .i64 0, .int .u64 0, .bool false] 41) = W0 := ⟨_, rfl⟩
  have g0' : Grw w W0 := by rw [← hW0]; exact (Grw.rfl' w).alloc _
  have z0 : W0.cell? ⟨w.heap.size, 0, none⟩ = some (.int .i64 0) := by rw [← hW0]; simp [go_sem]
  have z1 : W0.cell? ⟨w.heap.size, 1, none⟩ = some (.int .i64 0) := by rw [← hW0]; simp [go_sem]
  have z2 : W0.cell? ⟨w.heap.size, 2, none⟩ = some (.int .u64 0) := by rw [← hW0]; simp [go_sem]
  have z3 : W0.cell? ⟨w.heap.size, 3, none⟩ = some (.bool false) := by rw [← hW0]; simp [go_sem]
  have zf : ∀ i, W0.frozen? ⟨w.heap.size, i, none⟩ = false := fun i => by rw [← hW0]; simp [go_sem]
  have zl : w.heap.size < W0.heap.size := by rw [← hW0, size_new]; omega
  have ZZ : Hid (∀ u, Grw W0 u → u.cell? ⟨r, 0, none⟩ = some (.slice ao n cap) ∧ u.cell? ⟨w.heap.size, 0, none⟩ = some (.int .i64 0) ∧ u.cell? ⟨w.heap.size, 1, none⟩ = some (.int .i64 0) ∧ u.cell? ⟨w.heap.size, 2, none⟩ = some (.int .u64 0) ∧ u.cell? ⟨w.heap.size, 3, none⟩ = some (.bool false) ∧ u.frozen? ⟨w.heap.size, 0, none⟩ = false ∧ u.frozen? ⟨w.heap.size, 1, none⟩ = false ∧ u.frozen? ⟨w.heap.size, 2, none⟩ = false ∧ u.frozen? ⟨w.heap.size, 3, none⟩ = false) :=
    (fun u g => ⟨by rw [← hn]; exact (g0'.trans g).cell c0, g.cell z0, g.cell z1, g.cell z2, g.cell z3, by rw [Below.frozen g zl]; exact zf 0, by rw [Below.frozen g zl]; exact zf 1, by rw [Below.frozen g zl]; exact zf 2, by rw [Below.frozen g zl]; exact zf 3⟩ : ∀ u, Grw W0 u → u.cell? ⟨r, 0, none⟩ = some (.slice ao n cap) ∧ u.cell? ⟨w.heap.size, 0, none⟩ = some (.int .i64 0) ∧ u.cell? ⟨w.heap.size, 1, none⟩ = some (.int .i64 0) ∧ u.cell? ⟨w.heap.size, 2, none⟩ = some (.int .u64 0) ∧ u.cell? ⟨w.heap.size, 3, none⟩ = some (.bool false) ∧ u.frozen? ⟨w.heap.size, 0, none⟩ = false ∧ u.frozen? ⟨w.heap.size, 1, none⟩ = false ∧ u.frozen? ⟨w.heap.size, 2, none⟩ = false ∧ u.frozen? ⟨w.heap.size, 3, none⟩ = false)
  have HN := Lib.hid hn
  have G0 := Lib.hid g0'
  rw [hn] at hb
  clear h hl hn c0 g0' z0 z1 z2 z3 zf zl
  go_enter Try.func20, Try.ntmps20
  go_wp2_with fail
  clear hW0
  go_loopw [5] (fun i wr => ∃ k : Nat, i = .int .i64 k ∧ k ≤ n ∧ Grw W0 wr ∧ ∀ i (h : i < L.length), i < k → decide (L[i].j = x) = false) (fun i _ => n - (intOf i).toNat)
  case atStart => exact ⟨0, rfl, Nat.zero_le _, Grw.rfl' _, fun j _ hj => by omega⟩
  case round =>
    obtain ⟨k, rfl, hk, hg, hno⟩ := hrel
    have G := Lib.hid (G0.out.trans hg)
    have GK := Lib.hid hg
    have NO := Lib.hid hno
    obtain ⟨cr, z0, z1, z2, z3, f0, f1, f2, f3⟩ := ZZ.out _ hg
    clear hno
    by_cases ck : k < n
    · have d1 : decide (k < n) = true := by simp [ck]
      have d2 : (k : Int) < (n : Int) := by omega
      have hkl : k < L.length := by rw [HN.out]; exact ck
      obtain ⟨b, off, rfl, c0, c1, c2⟩ := glies_at (LI.out.later G.out) hkl
      obtain ⟨y, hy⟩ : ∃ z, L[k]'hkl = z := ⟨_, rfl⟩
      have HY := Lib.hid hy
      rw [hy] at c0 c1 c2
      obtain ⟨yn, yj, yu⟩ := y
      simp only at c0 c1 c2
      obtain ⟨t, ht⟩ : ∃ t, (yj == x) = t := ⟨_, rfl⟩
      have HT := Lib.hid ht
      clear hy hg
      cases t with
      | true =>
        have hfind : byJ L x = some ⟨yn, yj, yu⟩ := by
          have := find_at (p := fun g => decide (g.j = x)) hkl (fun i h hi => NO.out i h hi) (by rw [HY.out]; have := HT.out; simpa using this)
          rw [HY.out] at this
          exact this
        have HF := Lib.hid hfind
        clear hfind
        go_wp2_with fail
        exact bodyPost_ret (v := .agg #[.int .i64 yn, .int .i64 yj, .int .u64 (yu : Nat), .bool true]) (by simp [results, Try.results20, go_sem, z0, z1, z2, z3]) rfl ⟨by rw [HF.out]; rfl, by repeat (first | exact G.out | with_reducible refine Grw.set ?_ (Nat.le_refl _) _)⟩
      | false =>
        have q7 : IntKind.i64.wrap ((k : Int) + 1) = ((k + 1 : Nat) : Int) := by simp [IntKind.wrap_i64]; omega
        go_wp2_with fail
        go_roundw
        case rel =>
          refine ⟨k + 1, by go_num, by omega, GK.out, fun j h hj => ?_⟩
          by_cases cjk : j = k
          · subst cjk; rw [HY.out]; have := HT.out; simpa using this
          · exact NO.out j h (by omega)
        case measure => simp [intOf]; omega
    · have d1 : decide (k < n) = false := by simp [ck]
      have d2 : ¬ (k : Int) < (n : Int) := by omega
      have hfind : byJ L x = none := find_no (p := fun g => decide (g.j = x)) (fun i h => NO.out i h (by have := HN.out; omega))
      have HF := Lib.hid hfind
      clear hfind hg
      go_wp2_with fail
      exact bodyPost_ret (v := .agg #[.int .i64 0, .int .i64 0, .int .u64 0, .bool false]) (by simp [results, Try.results20, go_sem, z0, z1, z2, z3]) rfl ⟨by rw [HF.out]; rfl, by repeat (first | exact G.out | with_reducible refine Grw.set ?_ (Nat.le_refl _) _)⟩
set_option maxHeartbeats 2000000 in
set_option maxRecDepth 100000 in
theorem rlook_is {w : World} {r last : Nat} {v : Value} {L : List Gr} (h : RT w r last v L) (x : Int) :
    Calls Try.prog 19 #[.pointer (some ⟨r, 0, none⟩), .int .i64 x] w fun e w' => e = .returned (fv (byN L x)) ∧ Grw w w' := by
  obtain ⟨ao, cap, hv, hl⟩ := ownsRow_lies h.row
  subst hv
  have c0 := h.c0
  have LI := Lib.hid hl
  have hb := h.len
  obtain ⟨n, hn⟩ : ∃ n, L.length = n := ⟨_, rfl⟩
  obtain ⟨W0, hW0⟩ : ∃ W0, w.alloc (.cells #[.int .i64 0, .int .i64 0, .int .u64 0, .bool false] 41) = W0 := ⟨_, rfl⟩
  have g0' : Grw w W0 := by rw [← hW0]; exact (Grw.rfl' w).alloc _
  have z0 : W0.cell? ⟨w.heap.size, 0, none⟩ = some (.int .i64 0) := by rw [← hW0]; simp [go_sem]
  have z1 : W0.cell? ⟨w.heap.size, 1, none⟩ = some (.int .i64 0) := by rw [← hW0]; simp [go_sem]
  have z2 : W0.cell? ⟨w.heap.size, 2, none⟩ = some (.int .u64 0) := by rw [← hW0]; simp [go_sem]
  have z3 : W0.cell? ⟨w.heap.size, 3, none⟩ = some (.bool false) := by rw [← hW0]; simp [go_sem]
  have zf : ∀ i, W0.frozen? ⟨w.heap.size, i, none⟩ = false := fun i => by rw [← hW0]; simp [go_sem]
  have zl : w.heap.size < W0.heap.size := by rw [← hW0, size_new]; omega
  have ZZ : Hid (∀ u, Grw W0 u → u.cell? ⟨r, 0, none⟩ = some (.slice ao n cap) ∧ u.cell? ⟨w.heap.size, 0, none⟩ = some (.int .i64 0) ∧ u.cell? ⟨w.heap.size, 1, none⟩ = some (.int .i64 0) ∧ u.cell? ⟨w.heap.size, 2, none⟩ = some (.int .u64 0) ∧ u.cell? ⟨w.heap.size, 3, none⟩ = some (.bool false) ∧ u.frozen? ⟨w.heap.size, 0, none⟩ = false ∧ u.frozen? ⟨w.heap.size, 1, none⟩ = false ∧ u.frozen? ⟨w.heap.size, 2, none⟩ = false ∧ u.frozen? ⟨w.heap.size, 3, none⟩ = false) :=
    (fun u g => ⟨by rw [← hn]; exact (g0'.trans g).cell c0, g.cell z0, g.cell z1, g.cell z2, g.cell z3, by rw [Below.frozen g zl]; exact zf 0, by rw [Below.frozen g zl]; exact zf 1, by rw [Below.frozen g zl]; exact zf 2, by rw [Below.frozen g zl]; exact zf 3⟩ : ∀ u, Grw W0 u → u.cell? ⟨r, 0, none⟩ = some (.slice ao n cap) ∧ u.cell? ⟨w.heap.size, 0, none⟩ = some (.int .i64 0) ∧ u.cell? ⟨w.heap.size, 1, none⟩ = some (.int .i64 0) ∧ u.cell? ⟨w.heap.size, 2, none⟩ = some (.int .u64 0) ∧ u.cell? ⟨w.heap.size, 3, none⟩ = some (.bool false) ∧ u.frozen? ⟨w.heap.size, 0, none⟩ = false ∧ u.frozen? ⟨w.heap.size, 1, none⟩ = false ∧ u.frozen? ⟨w.heap.size, 2, none⟩ = false ∧ u.frozen? ⟨w.heap.size, 3, none⟩ = false)
  have HN := Lib.hid hn
  have G0 := Lib.hid g0'
  rw [hn] at hb
  clear h hl hn c0 g0' z0 z1 z2 z3 zf zl
  go_enter Try.func19, Try.ntmps19
  go_wp2_with fail
  clear hW0
  go_loopw [5] (fun i wr => ∃ k : Nat, i = .int .i64 k ∧ k ≤ n ∧ Grw W0 wr ∧ ∀ i (h : i < L.length), i < k → decide (L[i].n = x) = false) (fun i _ => n - (intOf i).toNat)
  case atStart => exact ⟨0, rfl, Nat.zero_le _, Grw.rfl' _, fun j _ hj => by omega⟩
  case round =>
    obtain ⟨k, rfl, hk, hg, hno⟩ := hrel
    have G := Lib.hid (G0.out.trans hg)
    have GK := Lib.hid hg
    have NO := Lib.hid hno
    obtain ⟨cr, z0, z1, z2, z3, f0, f1, f2, f3⟩ := ZZ.out _ hg
    clear hno
    by_cases ck : k < n
    · have d1 : decide (k < n) = true := by simp [ck]
      have d2 : (k : Int) < (n : Int) := by omega
      have hkl : k < L.length := by rw [HN.out]; exact ck
      obtain ⟨b, off, rfl, c0, c1, c2⟩ := glies_at (LI.out.later G.out) hkl
      obtain ⟨y, hy⟩ : ∃ z, L[k]'hkl = z := ⟨_, rfl⟩
      have HY := Lib.hid hy
      rw [hy] at c0 c1 c2
      obtain ⟨yn, yj, yu⟩ := y
      simp only at c0 c1 c2
      obtain ⟨t, ht⟩ : ∃ t, (yn == x) = t := ⟨_, rfl⟩
      have HT := Lib.hid ht
      clear hy hg
      cases t with
      | true =>
        have hfind : byN L x = some ⟨yn, yj, yu⟩ := by
          have := find_at (p := fun g => decide (g.n = x)) hkl (fun i h hi => NO.out i h hi) (by rw [HY.out]; have := HT.out; simpa using this)
          rw [HY.out] at this
          exact this
        have HF := Lib.hid hfind
        clear hfind
        go_wp2_with fail
        exact bodyPost_ret (v := .agg #[.int .i64 yn, .int .i64 yj, .int .u64 (yu : Nat), .bool true]) (by simp [results, Try.results19, go_sem, z0, z1, z2, z3]) rfl ⟨by rw [HF.out]; rfl, by repeat (first | exact G.out | with_reducible refine Grw.set ?_ (Nat.le_refl _) _)⟩
      | false =>
        have q7 : IntKind.i64.wrap ((k : Int) + 1) = ((k + 1 : Nat) : Int) := by simp [IntKind.wrap_i64]; omega
        go_wp2_with fail
        go_roundw
        case rel =>
          refine ⟨k + 1, by go_num, by omega, GK.out, fun j h hj => ?_⟩
          by_cases cjk : j = k
          · subst cjk; rw [HY.out]; have := HT.out; simpa using this
          · exact NO.out j h (by omega)
        case measure => simp [intOf]; omega
    · have d1 : decide (k < n) = false := by simp [ck]
      have d2 : ¬ (k : Int) < (n : Int) := by omega
      have hfind : byN L x = none := find_no (p := fun g => decide (g.n = x)) (fun i h => NO.out i h (by have := HN.out; omega))
      have HF := Lib.hid hfind
      clear hfind hg
      go_wp2_with fail
      exact bodyPost_ret (v := .agg #[.int .i64 0, .int .i64 0, .int .u64 0, .bool false]) (by simp [results, Try.results19, go_sem, z0, z1, z2, z3]) rfl ⟨by rw [HF.out]; rfl, by repeat (first | exact G.out | with_reducible refine Grw.set ?_ (Nat.le_refl _) _)⟩
end Go.Proofs.Ytoejmopppkjaoaa
