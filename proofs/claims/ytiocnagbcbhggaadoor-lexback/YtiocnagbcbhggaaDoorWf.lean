/- Rows of signs; the contracts of lex.Text, of the document's Text, and of the comparison of two rows at this program. -/
import Derived.Test.YtiocnagbcbhggaaDoorWe
import Derived.Test.YtiocnagbcbhggaaDoorWd
namespace Go.Proofs.YtiocnagbcbhggaaDoor
open Go.RowKit SM Go.Sort
set_option linter.unusedSimpArgs false

/-- signs, cell by cell. -/
def cs : List Zs → List Value
  | [] => []
  | d :: l => .int .i64 d.k :: .int .i64 d.n :: cs l
theorem cs_len (l : List Zs) : (cs l).length = l.length * 2 := by
  induction l with
  | nil => rfl
  | cons d l ih => simp only [cs, List.length_cons, ih]; omega
theorem cs_up (l : List Sg) : cs (l.map up) = cz l := by
  induction l with
  | nil => rfl
  | cons d l ih => simp only [List.map_cons, cs, cz, ih]; rfl
theorem cs_0 (l : List Zs) (j : Nat) (h : j < l.length) : (cs l)[j * 2]? = some (.int .i64 l[j].k) := by
  induction l generalizing j with
  | nil => simp at h
  | cons d l ih =>
    cases j with
    | zero => rfl
    | succ j => rw [show (j + 1) * 2 = j * 2 + 1 + 1 by omega]; simp only [cs, List.getElem?_cons_succ, List.getElem_cons_succ]; exact ih j (by simpa using h)
theorem cs_1 (l : List Zs) (j : Nat) (h : j < l.length) : (cs l)[j * 2 + 1]? = some (.int .i64 l[j].n) := by
  induction l generalizing j with
  | nil => simp at h
  | cons d l ih =>
    cases j with
    | zero => rfl
    | succ j => rw [show (j + 1) * 2 + 1 = (j * 2 + 1) + 1 + 1 by omega]; simp only [cs, List.getElem?_cons_succ, List.getElem_cons_succ]; exact ih j (by simpa using h)
theorem slies_at {w : World} {ao : Option Addr} {l : List Zs} (h : Lies w ao (cs l)) {j : Nat} (hj : j < l.length) :
    ∃ b off, ao = some ⟨b, off, none⟩ ∧ w.cell? ⟨b, off + j * 2, none⟩ = some (.int .i64 l[j].k) ∧ w.cell? ⟨b, off + j * 2 + 1, none⟩ = some (.int .i64 l[j].n) := by
  rcases h with h | ⟨b, off, e, _, hc⟩
  · have := cs_len l
    rw [h] at this
    simp at this
    omega
  · refine ⟨b, off, e, hc _ _ (cs_0 l j hj), ?_⟩
    have := hc _ _ (cs_1 l j hj)
    rwa [← Nat.add_assoc] at this

/-! ### the table of the powers of ten -/
def Tab (w : World) : Prop := Lib.TabIs Tryd.prog w "internal/strconv.uint64pow10" .u64 Lib.pow10Tab
theorem tab_grw {w x : World} (h : Grw w x) (t : Tab w) : Tab x := by
  unfold Tab Lib.TabIs World.var? at *
  cases hg : Tryd.prog.globalNamed "internal/strconv.uint64pow10" with
  | none => simp [hg] at t
  | some g =>
    simp only [hg, Option.bind_some] at t ⊢
    have hlt : g < w.heap.size := by
      rcases Nat.lt_or_ge g w.heap.size with h' | h'
      · exact h'
      · rw [Array.getElem?_eq_none h'] at t; simp at t
    rw [h.block hlt]
    exact t
theorem grw_grow (w : World) (k : Nat) (os : Array Obj) : Grw w (grow (w.drewN k) os) := by
  refine ⟨rfl, rfl, rfl, ?_, fun i hi => ?_⟩
  · simp [grow, World.drewN]
  · simp [grow, World.drewN, Array.getElem?_append, hi]
theorem itoa_ba (n : Nat) (b : ByteArray) (w : World) (h : n ≤ 2147483647) (t : Tab w) (hb : b.data.toList = Lib.decDigits n) :
    Calls Tryd.prog 25 #[.int .i64 n] w fun e w' => e = .returned (.string b) ∧ Grw w w' := by
  have e : (⟨(Lib.itoa n).toArray⟩ : ByteArray) = b := ba_ext (by rw [hb]; simp [Lib.itoa])
  have g := Tryd.strconv_Itoa n (by omega) (by omega) w t
  rw [e] at g
  refine g.mono ?_
  rintro _ _ ⟨rfl, k, os, rfl⟩
  exact ⟨rfl, grw_grow w k os⟩

set_option maxHeartbeats 1000000 in
set_option maxRecDepth 100000 in
theorem text_no (k n : Int) (w : World) (t : Mks w) (h : gz ⟨k, n⟩ = false) :
    Calls Tryd.prog 14 #[.agg #[.int .i64 k, .int .i64 n]] w fun e w' => e = .returned (.tuple #[.string ⟨#[]⟩, .bool false]) ∧ Grw w w' := by
  have I := Lib.hid (fun w (t : Mks w) => good_is k n false w t h)
  have HT := Lib.hid t
  clear t h
  go_enter Tryd.func14, Tryd.ntmps14
  go_wp2_with fail
  refine (I.out _ (mks_grw (by first | exact (Grw.rfl' _).alloc _ | exact ((Grw.rfl' _).alloc _).drew | exact ((Grw.rfl' _).alloc _).drewN _) HT.out)).mono ?_
  rintro _ w2 ⟨rfl, hw2⟩
  go_wp2_with fail
  go_ret2
  exact ⟨rfl, Grw.two hw2⟩

theorem enc_letter (n : Nat) (h : n < 26) : Utf8.encode (97 + (n : Int)) = ⟨#[UInt8.ofNat (97 + n)]⟩ := by
  have : ∀ n : Fin 26, Utf8.encode (97 + ((n.1 : Nat) : Int)) = ⟨#[UInt8.ofNat (97 + n.1)]⟩ := by decide
  exact this ⟨n, h⟩

set_option maxHeartbeats 2000000 in
set_option maxRecDepth 100000 in
theorem text_yes (s : Sg) (b : ByteArray) (w : World) (t : Mks w) (tt : Tab w) (h : gs s = true) (hb : b.data.toList = tx s) :
    Calls Tryd.prog 14 #[.agg #[.int .i64 ((s.k : Nat) : Int), .int .i64 ((s.n : Nat) : Int)]] w fun e w' => e = .returned (.tuple #[.string b, .bool true]) ∧ Grw w w' := by
  have I := Lib.hid (fun w (t : Mks w) => good_is s.k s.n true w t (by have := gz_up s; rw [h] at this; exact this))
  have HT := Lib.hid t
  have HTT := Lib.hid tt
  obtain ⟨k, n⟩ := s
  simp only at I ⊢
  have hg : (k = 1 ∧ n ≤ 2147483647) ∨ (k = 2 ∧ n < 26) ∨ (3 ≤ k ∧ k ≤ 18 ∧ n = 0) := by
    unfold gs maxN at h
    simp only [Bool.or_eq_true, Bool.and_eq_true, beq_iff_eq, decide_eq_true_eq] at h
    omega
  clear t tt h
  rcases hg with ⟨rfl, hn⟩ | ⟨rfl, hn⟩ | ⟨h3, h18, rfl⟩
  · have A := Lib.hid (fun w (tt : Tab w) => itoa_ba n b w hn tt hb)
    clear hb
    go_enter Tryd.func14, Tryd.ntmps14
    go_wp2_with fail
    refine (I.out _ (mks_grw (by first | exact (Grw.rfl' _).alloc _ | exact ((Grw.rfl' _).alloc _).drew | exact ((Grw.rfl' _).alloc _).drewN _) HT.out)).mono ?_
    rintro _ w2 ⟨rfl, hw2⟩
    have T := Two.grown hw2
    have c0 := T.c0
    have c1 := T.c1
    have G := Lib.hid (Grw.two hw2)
    clear hw2 T I
    go_wp2_with fail
    refine (A.out _ (tab_grw G.out HTT.out)).mono ?_
    rintro _ w3 ⟨rfl, hw3⟩
    go_wp2_with fail
    go_ret2
    exact ⟨rfl, G.out.trans hw3⟩
  · have en : Utf8.encode (97 + (n : Int)) = b := by
      rw [enc_letter n hn]
      exact ba_ext (by rw [hb]; rfl)
    have w1 : IntKind.i32.wrap (97 + (n : Int)) = 97 + n := by simp only [IntKind.wrap_i32]; omega
    have w2 : IntKind.i64.wrap (97 + (n : Int)) = 97 + n := by simp only [IntKind.wrap_i64]; omega
    clear hb
    go_enter Tryd.func14, Tryd.ntmps14
    go_wp2_with fail
    refine (I.out _ (mks_grw (by first | exact (Grw.rfl' _).alloc _ | exact ((Grw.rfl' _).alloc _).drew | exact ((Grw.rfl' _).alloc _).drewN _) HT.out)).mono ?_
    rintro _ w2 ⟨rfl, hw2⟩
    have T := Two.grown hw2
    have c0 := T.c0
    have c1 := T.c1
    have G := Lib.hid (Grw.two hw2)
    clear hw2 T I
    go_wp2_with fail
    go_ret2
    exact ⟨rfl, G.out⟩
  · have eb : mb k = b := ba_ext (by rw [hb, mb_list, mk_in ⟨h3, h18⟩])
    have CM := Lib.hid (fun w (t : Mks w) => mks_cell t (show k < 19 by omega))
    rw [eb] at CM
    have b1 : ((k : Int) == 1) = false := by simp; omega
    have b2 : ((k : Int) == 2) = false := by simp; omega
    have kl : k < 19 := by omega
    clear hb eb h3 h18
    go_enter Tryd.func14, Tryd.ntmps14
    go_wp2_with fail
    refine (I.out _ (mks_grw (by first | exact (Grw.rfl' _).alloc _ | exact ((Grw.rfl' _).alloc _).drew | exact ((Grw.rfl' _).alloc _).drewN _) HT.out)).mono ?_
    rintro _ w2 ⟨rfl, hw2⟩
    have T := Two.grown hw2
    have c0 := T.c0
    have c1 := T.c1
    have G := Lib.hid (Grw.two hw2)
    have cc := CM.out _ (mks_grw G.out HT.out)
    clear hw2 T I CM
    go_wp2_with fail
    go_ret2
    exact ⟨rfl, G.out⟩

/-! ### the document's -/
set_option maxHeartbeats 4000000 in
set_option maxRecDepth 100000 in
theorem of_is (k : Nat) (b : ByteArray) (w : World) (h3 : 3 ≤ k) (h18 : k ≤ 18) (hb : b.data.toList = tx ⟨k, 0⟩) :
    Calls Tryd.prog 23 #[.int .i64 k] w fun e w' => e = .returned (.string b) ∧ Grw w w' := by
  have hk : k = 3 ∨ k = 4 ∨ k = 5 ∨ k = 6 ∨ k = 7 ∨ k = 8 ∨ k = 9 ∨ k = 10 ∨ k = 11 ∨ k = 12 ∨ k = 13 ∨ k = 14 ∨ k = 15 ∨ k = 16 ∨ k = 17 ∨ k = 18 := by omega
  have e : b = ⟨(tx ⟨k, 0⟩).toArray⟩ := ba_ext (by rw [hb])
  clear h3 h18 hb
  rcases hk with rfl | rfl | rfl | rfl | rfl | rfl | rfl | rfl | rfl | rfl | rfl | rfl | rfl | rfl | rfl | rfl
  all_goals
    subst e
    go_enter Tryd.func23, Tryd.ntmps23
    go_wp2_with fail
    go_ret
    exact ⟨rfl, by first | exact (Grw.rfl' _).alloc _ | exact ((Grw.rfl' _).alloc _).drewN _⟩

set_option maxHeartbeats 1000000 in
set_option maxRecDepth 100000 in
theorem rtext_no (k n : Int) (w : World) (h : gz ⟨k, n⟩ = false) :
    Calls Tryd.prog 17 #[.agg #[.int .i64 k, .int .i64 n]] w fun e w' => e = .returned (.string ⟨#[]⟩) ∧ Grw w w' := by
  have I := Lib.hid (fun w => rgood_is k n false w h)
  clear h
  go_enter Tryd.func17, Tryd.ntmps17
  go_wp2_with fail
  refine (I.out _).mono ?_
  rintro _ w2 ⟨rfl, hw2⟩
  go_wp2_with fail
  go_ret
  exact ⟨rfl, Grw.two hw2⟩

set_option maxHeartbeats 2000000 in
set_option maxRecDepth 100000 in
theorem rtext_yes (s : Sg) (b : ByteArray) (w : World) (h : gs s = true) (hb : b.data.toList = tx s) :
    Calls Tryd.prog 17 #[.agg #[.int .i64 ((s.k : Nat) : Int), .int .i64 ((s.n : Nat) : Int)]] w fun e w' => e = .returned (.string b) ∧ Grw w w' := by
  have I := Lib.hid (fun w => rgood_is s.k s.n true w (by have := gz_up s; rw [h] at this; exact this))
  obtain ⟨k, n⟩ := s
  simp only at I ⊢
  have hg : (k = 1 ∧ n ≤ 2147483647) ∨ (k = 2 ∧ n < 26) ∨ (3 ≤ k ∧ k ≤ 18 ∧ n = 0) := by
    unfold gs maxN at h
    simp only [Bool.or_eq_true, Bool.and_eq_true, beq_iff_eq, decide_eq_true_eq] at h
    omega
  clear h
  rcases hg with ⟨rfl, hn⟩ | ⟨rfl, hn⟩ | ⟨h3, h18, rfl⟩
  · have A := Lib.hid (fun w => digits_ba n b w (by omega) hb)
    have w1 : IntKind.u64.wrap (n : Int) = n := by simp only [IntKind.wrap_u64]; omega
    clear hb
    go_enter Tryd.func17, Tryd.ntmps17
    go_wp2_with fail
    refine (I.out _).mono ?_
    rintro _ w2 ⟨rfl, hw2⟩
    have T := Two.grown hw2
    have c0 := T.c0
    have c1 := T.c1
    have G := Lib.hid (Grw.two hw2)
    clear hw2 T I
    go_wp2_with fail
    refine (A.out _).mono ?_
    rintro _ w3 ⟨rfl, hw3⟩
    go_wp2_with fail
    go_ret
    exact ⟨rfl, G.out.trans hw3⟩
  · obtain ⟨c, hc⟩ : ∃ c, UInt8.ofNat (97 + n) = c := ⟨_, rfl⟩
    have hcn : (c.toNat : Int) = 97 + n := by
      rw [← hc]
      have : (UInt8.ofNat (97 + n)).toNat = 97 + n := by simp; omega
      omega
    have eb : b = ⟨#[c]⟩ := ba_ext (by rw [hb, ← hc]; rfl)
    have w1 : IntKind.u8.wrap (97 + (n : Int)) = 97 + n := by simp only [IntKind.wrap_u8]; omega
    have w2 : IntKind.i64.wrap (97 + (n : Int)) = 97 + n := by simp only [IntKind.wrap_i64]; omega
    have CV := Lib.hid (fun (w : World) => conv_one (w.alloc (.cells #[.int .u8 (97 + (n : Int))] 5)) w.heap.size c (by rw [hcn]; simp [go_sem]))
    rw [← eb] at CV
    clear hb eb hc hcn
    go_enter Tryd.func17, Tryd.ntmps17
    go_wp2_with fail
    refine (I.out _).mono ?_
    rintro _ w2 ⟨rfl, hw2⟩
    have T := Two.grown hw2
    have c0 := T.c0
    have c1 := T.c1
    have G := Lib.hid (Grw.two hw2)
    have cv := CV.out w2
    clear hw2 T I CV
    go_wp2_with fail
    go_ret
    exact ⟨rfl, G.out.alloc _⟩
  · have A := Lib.hid (fun w => of_is k b w h3 h18 hb)
    have b1 : ((k : Int) == 1) = false := by simp; omega
    have b2 : ((k : Int) == 2) = false := by simp; omega
    clear hb h3 h18
    go_enter Tryd.func17, Tryd.ntmps17
    go_wp2_with fail
    refine (I.out _).mono ?_
    rintro _ w2 ⟨rfl, hw2⟩
    have T := Two.grown hw2
    have c0 := T.c0
    have c1 := T.c1
    have G := Lib.hid (Grw.two hw2)
    clear hw2 T I
    go_wp2_with fail
    refine (A.out _).mono ?_
    rintro _ w3 ⟨rfl, hw3⟩
    go_wp2_with fail
    go_ret
    exact ⟨rfl, G.out.trans hw3⟩

set_option maxHeartbeats 1000000 in
set_option maxRecDepth 100000 in
theorem signs_same (ao bo : Option Addr) (ca cb n : Nat) (l : List Zs) (w : World) (hb : n ≤ 1000000) (hn : l.length = n) (ha : Lies w ao (cs l)) (hv : Lies w bo (cs l)) :
    Calls Tryd.prog 13 #[.slice ao n ca, .slice bo n cb] w fun e w' => e = .returned (.bool true) ∧ Grw w w' := by
  have RA := Lib.hid ha
  have RB := Lib.hid hv
  have HN := Lib.hid hn
  clear ha hv hn
  go_enter Tryd.func13, Tryd.ntmps13
  go_wp2_with fail
  go_loopw [5] (fun i wr => ∃ k : Nat, k ≤ n ∧ i = .int .i64 k ∧ Grw w wr) (fun i _ => n - (intOf i).toNat)
  case atStart => exact ⟨0, Nat.zero_le _, rfl, Grw.rfl' _⟩
  case round =>
    obtain ⟨k, hk, rfl, hg⟩ := hrel
    by_cases hk' : k < n
    · have hki : (k : Int) < (n : Int) := by omega
      have hkl : k < l.length := by rw [HN.out]; exact hk'
      obtain ⟨b, off, rfl, c0, c1⟩ := slies_at (RA.out.later hg) hkl
      obtain ⟨b2, off2, rfl, e0, e1⟩ := slies_at (RB.out.later hg) hkl
      obtain ⟨x, hx⟩ : ∃ x, l[k] = x := ⟨_, rfl⟩
      rw [hx] at c0 c1 e0 e1
      obtain ⟨xi, xt⟩ := x
      simp only at c0 c1 e0 e1
      have G := Lib.hid hg
      clear hx hg
      go_wp2_with fail
      go_big_quiet (fail)
      go_wp2_with fail
      go_roundw
      case rel => exact ⟨k + 1, by omega, by go_num, G.out.drewN _⟩
      case measure => simp [intOf]; omega
    · have hki : ¬ (k : Int) < (n : Int) := by omega
      go_wp2_with fail
      go_ret
      exact ⟨rfl, hg⟩
end Go.Proofs.YtiocnagbcbhggaaDoor
