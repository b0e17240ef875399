/- Signs of a guard, third part: what is read step by step; signs as cells of a row. Nothing of the program is named here but the table's texts. -/
import Derived.Test.YtiocnagbcbhggaaDoorWc
namespace Go.Proofs.YtiocnagbcbhggaaDoor
open Go.RowKit SM
set_option linter.unusedSimpArgs false

/-- signs read already, and what is read of the rest. -/
def F (acc : List Sg) (y : List Sg × Nat) : List Sg × Nat := if y.2 = 0 then (acc ++ y.1, 0) else ([], y.2)
theorem F_ok (acc l : List Sg) : F acc (l, 0) = (acc ++ l, 0) := by simp [F]
theorem F_err (acc : List Sg) (l : List Sg) (e : Nat) (h : e ≠ 0) : F acc (l, e) = ([], e) := by simp [F, h]
theorem F_F (a b : List Sg) (y : List Sg × Nat) : F a (F b y) = F (a ++ b) y := by
  unfold F
  by_cases h : y.2 = 0
  · simp [h]
  · simp [h]
theorem F_nil (l : List UInt8) : F [] (lx l) = lx l := by
  unfold F
  split
  · next h => exact Prod.ext (by simp) h.symm
  · next h => exact Prod.ext (lx_err l h).symm rfl
theorem lx_F {l r : List UInt8} {s : Sg} (h : nx l = .sg s r) : lx l = F [s] (lx r) := by rw [lx_sg h]; rfl
theorem lx_zero (t : List UInt8) : lx (48 :: t) = if bd t then ([], 2) else F [⟨1, 0⟩] (lx t) := by
  have h32 : ¬ (48 : UInt8) = 32 := by decide
  have hl : isL 48 = false := by decide
  have hd : isD 48 = true := by decide
  have hds : ds (48 :: t) = 48 :: ds t := by unfold ds; rw [List.takeWhile_cons_of_pos hd]
  have hbh : bh (48 :: t) = bh t := by unfold bh; rw [List.dropWhile_cons_of_pos hd]
  rcases hb : bd t with _ | _
  · have h0 : ds t = [] ∧ bh t = t := by
      cases t with
      | nil => exact ⟨rfl, rfl⟩
      | cons c t =>
        have hb' : isD c = false := hb
        unfold ds bh
        rw [List.takeWhile_cons_of_neg (by rw [hb']; simp), List.dropWhile_cons_of_neg (by rw [hb']; simp)]
        exact ⟨rfl, rfl⟩
    have hn : nx (48 :: t) = .sg ⟨1, 0⟩ t := by
      simp only [nx, if_neg h32, hl, hd, Bool.false_eq_true, if_false, if_true, hds, hbh, h0.1, h0.2]
      rfl
    rw [lx_F hn]; rfl
  · obtain ⟨c, u, rfl⟩ : ∃ c u, t = c :: u := by
      cases t with
      | nil => cases hb
      | cons c u => exact ⟨c, u, rfl⟩
    have hb' : isD c = true := hb
    have hn : nx (48 :: c :: u) = .bad 2 := by
      have : ds (c :: u) = c :: ds u := by unfold ds; rw [List.takeWhile_cons_of_pos hb']
      simp only [nx, if_neg h32, hl, hd, Bool.false_eq_true, if_false, if_true, hds, this]
      simp
    rw [lx_bad hn]; rfl
/-- a number, of which the digits d are read. -/
def Nd (d : List UInt8) (r : List UInt8) : List Sg × Nat := if maxN < nval (d ++ ds r) then ([], 3) else F [⟨1, nval (d ++ ds r)⟩] (lx (bh r))
theorem Nd_step (d : List UInt8) (c : UInt8) (t : List UInt8) (h : isD c = true) : Nd d (c :: t) = Nd (d ++ [c]) t := by
  have hds : ds (c :: t) = c :: ds t := by unfold ds; rw [List.takeWhile_cons_of_pos h]
  have hbh : bh (c :: t) = bh t := by unfold bh; rw [List.dropWhile_cons_of_pos h]
  unfold Nd
  rw [hds, hbh]
  simp
theorem Nd_end (d : List UInt8) (t : List UInt8) (h : bd t = false) : Nd d t = if maxN < nval d then ([], 3) else F [⟨1, nval d⟩] (lx t) := by
  have h0 : ds t = [] ∧ bh t = t := by
    cases t with
    | nil => exact ⟨rfl, rfl⟩
    | cons c t =>
      have hb' : isD c = false := h
      unfold ds bh
      rw [List.takeWhile_cons_of_neg (by rw [hb']; simp), List.dropWhile_cons_of_neg (by rw [hb']; simp)]
      exact ⟨rfl, rfl⟩
  unfold Nd
  rw [h0.1, h0.2, List.append_nil]
theorem lx_digit (c : UInt8) (t : List UInt8) (h : isD c = true) (h48 : c ≠ 48) : lx (c :: t) = Nd [] (c :: t) := by
  obtain ⟨hl, h32⟩ := notL h
  unfold Nd
  have hn : nx (c :: t) = if maxN < nval (ds (c :: t)) then .bad 3 else .sg ⟨1, nval (ds (c :: t))⟩ (bh (c :: t)) := by
    simp only [nx, if_neg h32, hl, h, Bool.false_eq_true, if_false, if_true]
    rw [if_neg (fun e => h48 e.1)]
  rw [List.nil_append]
  split
  · next g => rw [if_pos g] at hn; exact lx_bad hn
  · next g => rw [if_neg g] at hn; exact lx_F hn
theorem lx_letter (c : UInt8) (t : List UInt8) (h : isL c = true) : lx (c :: t) = F [⟨2, c.toNat - 97⟩] (lx t) := by
  have h32 : ¬ c = 32 := fun e => by subst e; revert h; decide
  exact lx_F (by simp only [nx, if_neg h32, h, if_true])
theorem lx_mark (c : UInt8) (t : List UInt8) (h32 : c ≠ 32) (hl : isL c = false) (hd : isD c = false) : lx (c :: t) = if op (c :: t) = 0 then ([], 2) else F [⟨op (c :: t), 0⟩] (lx ((c :: t).drop (tx ⟨op (c :: t), 0⟩).length)) := by
  have hn := nx_op c t h32 hl hd
  split
  · next g => rw [if_pos g] at hn; exact lx_bad hn
  · next g => rw [if_neg g] at hn; exact lx_F hn
theorem op_in (l : List UInt8) : op l = 0 ∨ (3 ≤ op l ∧ op l ≤ 18) := by rw [← fs_is]; exact fs_in l 16 (by omega)
theorem op_pre (l : List UInt8) (h : op l ≠ 0) : (mk (op l)).length ≤ l.length ∧ (mk (op l)).length = (tx ⟨op l, 0⟩).length ∧ 1 ≤ (mk (op l)).length := by
  have hin := (op_in l).resolve_left h
  have e : mk (op l) = tx ⟨op l, 0⟩ := mk_in hin
  have h1 := mk_len (op l)
  refine ⟨?_, by rw [e], ?_⟩
  · cases l with
    | nil => exact absurd rfl h
    | cons c t =>
      cases t with
      | nil =>
        have ho : op [c] = sg1 c := rfl
        rw [e, ho, sg1_len c (by rw [← ho]; exact h)]; simp
      | cons d t => have := h1.1; simp only [List.length_cons]; omega
  · rcases Nat.eq_zero_or_pos (mk (op l)).length with c | c
    · exact absurd hin (h1.2.1 c)
    · exact c

/-! ### signs as cells -/
def cz : List Sg → List Value
  | [] => []
  | d :: l => .int .i64 (d.k : Nat) :: .int .i64 (d.n : Nat) :: cz l
theorem cz_len (l : List Sg) : (cz l).length = l.length * 2 := by
  induction l with
  | nil => rfl
  | cons d l ih => simp only [cz, List.length_cons, ih]; omega
theorem cz_app (l k : List Sg) : cz (l ++ k) = cz l ++ cz k := by
  induction l with
  | nil => rfl
  | cons d l ih => simp only [cz, List.cons_append, ih]
theorem cz_one (l : List Sg) : ∀ u ∈ cz l, u.oneCell' = true := by
  induction l with
  | nil => intro u h; cases h
  | cons d l ih =>
    intro u h
    simp only [cz, List.mem_cons] at h
    rcases h with rfl | rfl | h
    · rfl
    · rfl
    · exact ih u h
theorem cz_0 (l : List Sg) (j : Nat) (h : j < l.length) : (cz l)[j * 2]? = some (.int .i64 (l[j].k : Nat)) := by
  induction l generalizing j with
  | nil => simp at h
  | cons d l ih =>
    cases j with
    | zero => rfl
    | succ j => rw [show (j + 1) * 2 = j * 2 + 1 + 1 by omega]; simp only [cz, List.getElem?_cons_succ, List.getElem_cons_succ]; exact ih j (by simpa using h)
theorem cz_1 (l : List Sg) (j : Nat) (h : j < l.length) : (cz l)[j * 2 + 1]? = some (.int .i64 (l[j].n : Nat)) := by
  induction l generalizing j with
  | nil => simp at h
  | cons d l ih =>
    cases j with
    | zero => rfl
    | succ j => rw [show (j + 1) * 2 + 1 = (j * 2 + 1) + 1 + 1 by omega]; simp only [cz, List.getElem?_cons_succ, List.getElem_cons_succ]; exact ih j (by simpa using h)
theorem Tryd.info35 : (Tryd.prog.info? 35).map (fun i => (i.zero, i.size, i.bytes)) = some (some (.agg #[.int .i64 0, .int .i64 0]), 2, 16) := by kernel_rfl
theorem blk_cells {w : World} {g : Nat} {xs : List Value} {t : TypeId} (h : w.heap[g]? = some (.cells xs.toArray t (0, 0))) : ∀ j u, xs[j]? = some u → w.cell? ((⟨g, 0, none⟩ : Addr).add j) = some u := by
  intro j u hj
  rw [Addr.add_lit, Nat.zero_add]
  simp [World.cell?, h, hj]
theorem heap_new (w : World) (o : Obj) : (w.alloc o).heap[w.heap.size]? = some o := by
  show (w.heap.push o)[w.heap.size]? = _
  simp
theorem one_sg (w : World) (k n : Nat) : ∀ (j : Nat) (u : Value), (cz [⟨k, n⟩])[j]? = some u → (w.alloc (.cells #[.int .i64 (k : Nat), .int .i64 (n : Nat)] 35)).cell? ((⟨w.heap.size, 0, none⟩ : Addr).add j) = some u :=
  blk_cells (xs := cz [⟨k, n⟩]) (t := 35) (heap_new w _)
theorem own_later {w x : World} {B : Nat} {v : Value} {n : Nat} {xs : List Value} (h : w.ownsRow B 35 2 v n xs) (g : Grw w x) : x.ownsRow B 35 2 v n xs :=
  ownsRow_frm h (g.frm (fun _ => False)) (fun _ _ e => e)
theorem grown_own {w0 w x : World} {v : Value} {n : Nat} {xs : List Value} (h : w.ownsRow w0.heap.size 35 2 v n xs) (g : Grw w0 w) (hg : w.grownBy x v.ownBlock) : Grw w0 x :=
  (grownBy_frm hg).grw g (fun k hk => (World.ownsRow.lt h k hk).1)
/-- what Lex hands back: a row made since w that holds the signs. -/
def LexQ (w : World) (l : List UInt8) (e : Ending) (w' : World) : Prop := ∃ v, e = .returned (.tuple #[v, .int .i64 ((if 60 < l.length then 15 else (lx l).2 : Nat) : Int)]) ∧
  w'.ownsRow w.heap.size 35 2 v (if 60 < l.length then [] else (lx l).1).length (cz (if 60 < l.length then [] else (lx l).1)) ∧ Grw w w'
theorem lexQ_ok {w w' : World} {l : List UInt8} {v : Value} {acc : List Sg} (hl : l.length ≤ 60) (h : lx l = (acc, 0)) (ho : w'.ownsRow w.heap.size 35 2 v acc.length (cz acc)) (hg : Grw w w') : LexQ w l (.returned (.tuple #[v, .int .i64 0])) w' := by
  have c : ¬ 60 < l.length := by omega
  refine ⟨v, ?_, ?_, hg⟩
  · rw [if_neg c, h]; rfl
  · rw [if_neg c, h]; exact ho
theorem lexQ_err {w w' : World} {l : List UInt8} {e : Nat} (hl : l.length ≤ 60) (h : lx l = ([], e)) (hg : Grw w w') : LexQ w l (.returned (.tuple #[.slice none 0 0, .int .i64 (e : Int)])) w' := by
  have c : ¬ 60 < l.length := by omega
  refine ⟨.slice none 0 0, ?_, ?_, hg⟩
  · rw [if_neg c, h]
  · rw [if_neg c, h]; exact World.ownsRow_nil _ _ _ _
theorem lexQ_long {w w' : World} {l : List UInt8} (hl : 60 < l.length) (hg : Grw w w') : LexQ w l (.returned (.tuple #[.slice none 0 0, .int .i64 15])) w' := by
  refine ⟨.slice none 0 0, ?_, ?_, hg⟩
  · rw [if_pos hl]; rfl
  · rw [if_pos hl]; exact World.ownsRow_nil _ _ _ _
end Go.Proofs.YtiocnagbcbhggaaDoor
