/- The contracts of lex.Print and of the document's Print at this program. -/
import Derived.Test.YtiocnagbcbhggaaDoorWf
import Derived.OwnWalk
namespace Go.Proofs.YtiocnagbcbhggaaDoor
open Go.RowKit SM
set_option linter.unusedSimpArgs false

def dn (z : Zs) : Sg := ⟨z.k.toNat, z.n.toNat⟩
theorem dn_up (s : Sg) : dn (up s) = s := by unfold dn up; simp
/-! ### a row of strings of one's own -/
def bs (f : Nat → ByteArray) (n : Nat) : List Value := (List.range n).map fun k => Value.string (f k)
theorem bs_at {f : Nat → ByteArray} {n k : Nat} (h : k < n) : (bs f n)[k]? = some (.string (f k)) := by simp [bs, h]
theorem bs_len (f : Nat → ByteArray) (n : Nat) : (bs f n).length = n := by simp [bs]
structure Str (w : World) (b n : Nat) (f : Nat → ByteArray) : Prop where
  own : w.ownsRow 0 9 1 (.slice (some ⟨b, 0, none⟩) n n) n (bs f n)
theorem Str.cell {w : World} {b n : Nat} {f : Nat → ByteArray} (h : Str w b n f) {k : Nat} (hk : k < n) : w.cell? ⟨b, k, none⟩ = some (.string (f k)) := by
  rw [h.own.cellAt k (by omega), bs_at hk]
theorem Str.fz {w : World} {b n : Nat} {f : Nat → ByteArray} (h : Str w b n f) (k : Nat) : w.frozen? ⟨b, k, none⟩ = false := h.own.frozenAt k
theorem Str.lt {w : World} {b n : Nat} {f : Nat → ByteArray} (h : Str w b n f) : b < w.heap.size := (h.own.lt b rfl).2
theorem Str.later {w x : World} {b n : Nat} {f : Nat → ByteArray} (h : Str w b n f) (g : Grw w x) : Str x b n f :=
  ⟨ownsRow_frm h.own (g.frm (fun _ => False)) (fun _ _ e => e)⟩
theorem Str.set {w : World} {b n : Nat} {f g : Nat → ByteArray} (h : Str w b n f) (k : Nat) (v : ByteArray) (e : ∀ q, q < n → g q = if q = k then v else f q) : Str (w.setCell ⟨b, k, none⟩ (.string v)) b n g := by
  obtain ⟨h1, _⟩ := h.own.stored k (.string v)
  have hs : (bs f n).set k (.string v) = bs g n := by
    refine List.ext_getElem? fun q => ?_
    by_cases hq : q < n
    · rw [bs_at hq, e q hq, List.getElem?_set]
      by_cases c : k = q
      · subst c; simp [bs, hq]
      · rw [if_neg c, bs_at hq, if_neg (fun d => c d.symm)]
    · rw [List.getElem?_eq_none (by simp [bs]; omega), List.getElem?_eq_none (by simp [bs]; omega)]
  rw [hs] at h1
  exact ⟨h1⟩
theorem bs_none (n : Nat) (f : Nat → ByteArray) (h : ∀ k, k < n → f k = ByteArray.empty) : bs f n = List.replicate n (.string ByteArray.empty) := by
  refine List.ext_getElem? fun k => ?_
  by_cases hk : k < n
  · rw [bs_at hk, h k hk, List.getElem?_replicate, if_pos hk]
  · rw [List.getElem?_eq_none (by simp [bs]; omega), List.getElem?_eq_none (by simp; omega)]
theorem Tryd.info9 : (Tryd.prog.info? 9).map (fun i => (i.zero, i.size, i.bytes)) = some (some (.string ByteArray.empty), 1, 16) := by kernel_rfl

/-! ### what is written -/
theorem tx_len {s : Sg} (h : gs s = true) : (tx s).length ≤ 20 := by
  obtain ⟨k, n⟩ := s
  unfold gs maxN at h
  simp only [Bool.or_eq_true, Bool.and_eq_true, beq_iff_eq, decide_eq_true_eq] at h
  rcases h with (⟨rfl, h⟩ | ⟨rfl, h⟩) | ⟨⟨h1, h2⟩, rfl⟩
  · exact dec_len n (by omega)
  · show ([UInt8.ofNat (97 + n)] : List UInt8).length ≤ 20
    simp
  · have := (mk_len k).1
    rw [mk_in ⟨h1, h2⟩] at this
    omega
theorem pr_len : ∀ (l : List Sg), (∀ s ∈ l, gs s = true) → (pr l).length ≤ l.length * 21
  | [], _ => by simp [pr]
  | [s], h => by have := tx_len (h s (by simp)); simp only [pr, List.length_cons, List.length_nil]; omega
  | s :: t :: l, h => by
    have h1 := tx_len (h s (by simp))
    have h2 := pr_len (t :: l) (fun x hx => h x (by simp at hx ⊢; exact Or.inr hx))
    simp only [pr, List.length_append, List.length_cons] at h2 ⊢
    omega
theorem pr_join : ∀ l : List Sg, pr l = Lib.join (l.map tx) [32]
  | [] => rfl
  | [s] => by simp [pr, Lib.join, List.intercalate]
  | s :: t :: l => by
    have ih := pr_join (t :: l)
    rw [pr, ih]
    simp [Lib.join, List.intercalate, List.intersperse]
/-- the k-th text. -/
def tb (l : List Zs) (k : Nat) : ByteArray := ⟨(((l[k]?).map fun z => tx (dn z)).getD []).toArray⟩
theorem tb_at {l : List Zs} {k : Nat} (h : k < l.length) : (tb l k).data.toList = tx (dn l[k]) := by simp [tb, h]
theorem tb_map (l : List Zs) : ((List.range l.length).map (tb l)).map (·.data.toList) = (l.map dn).map tx := by
  refine List.ext_getElem? fun k => ?_
  by_cases h : k < l.length
  · simp [h, tb]
  · rw [List.getElem?_eq_none (by simp; omega), List.getElem?_eq_none (by simp; omega)]

theorem join_row (l : List Zs) (b n : Nat) (r : ByteArray) (w : World) (hn : l.length = n) (hn2 : n ≤ 1000000) (hg : ∀ z ∈ l, gz z = true) (h : Str w b n (tb l)) (hr : r.data.toList = pr (l.map dn)) :
    Calls Tryd.prog 24 #[.slice (some ⟨b, 0, none⟩) n n, .string ⟨#[32]⟩] w fun e w' => e = .returned (.string r) ∧ Grw w w' := by
  have g := Tryd.strings_Join b 0 n ((List.range n).map (tb l)) ⟨#[32]⟩ w (fun j x hx => by
      have hj : j < n := by have := (List.getElem?_eq_some_iff.1 hx).1; simpa using this
      rw [Nat.zero_add, h.cell hj]
      simp [hj] at hx
      rw [hx]) h.lt (by simp; omega) (by simp) (by
      have e : (((List.range n).map (tb l)).map (·.data.toList)) = (l.map dn).map tx := by rw [← hn]; exact tb_map l
      rw [e]
      show (Lib.join ((l.map dn).map tx) [32]).length ≤ _
      rw [← pr_join]
      have := pr_len (l.map dn) (fun s hs => by
        obtain ⟨z, hz, rfl⟩ := List.mem_map.1 hs
        obtain ⟨s, hs', rfl⟩ := gz_good (hg z hz)
        rw [dn_up]; exact hs')
      rw [List.length_map] at this
      omega)
  have e : (((List.range n).map (tb l)).map (·.data.toList)) = (l.map dn).map tx := by rw [← hn]; exact tb_map l
  have e2 : (⟨(Lib.join (((List.range n).map (tb l)).map (·.data.toList)) [32]).toArray⟩ : ByteArray) = r := ba_ext (by rw [e, hr, ← pr_join])
  have e3 : ((⟨#[32]⟩ : ByteArray).data.toList) = [32] := rfl
  rw [e3, e2] at g
  have e4 : ((List.range n).map (tb l)).length = n := by simp
  rw [e4] at g
  exact g

set_option maxHeartbeats 4000000 in
set_option maxRecDepth 100000 in
theorem print_is (l : List Zs) (ao : Option Addr) (ca n : Nat) (r : ByteArray) (ok : Bool) (w : World) (t : Mks w) (tt : Tab w) (hn : l.length = n) (hn2 : n ≤ 1000000) (ha : Lies w ao (cs l))
    (hok : ok = l.all gz) (hr : r.data.toList = if ok then pr (l.map dn) else []) :
    Calls Tryd.prog 11 #[.slice ao n ca] w fun e w' => e = .returned (.tuple #[.string r, .bool ok]) ∧ Grw w w' := by
  obtain ⟨i9, hi, hz0, hz1, hz2⟩ := info_parts Tryd.info9
  have HT := Lib.hid t
  have HTT := Lib.hid tt
  have RA := Lib.hid ha
  have HN := Lib.hid hn
  have HO := Lib.hid hok
  have HR := Lib.hid hr
  clear t tt ha hn hok hr
  go_enter Tryd.func11, Tryd.ntmps11
  go_wp2_with (at_make; refine wpList_make_full _ rfl _ _ 53 rfl 0 9 i9 _ 1 Tryd.underlying53 hi hz0 hz1 .i64 .i64 _ _ n rfl rfl rfl rfl (by rw [hz2]; omega) (by unfold maxLen; omega) (Nat.zero_le _) ?_)
  intro w1 hown hgrow
  have g1 : Grw w w1 := (grownBy_frm hgrow).grw (Grw.rfl' w) (fun k hk => by cases hk)
  obtain ⟨b, hb⟩ : ∃ b, w.heap.size = b := ⟨_, rfl⟩
  rw [hb] at hown ⊢
  have T0 : Hid (Str w1 b n (fun k => if k < 0 then tb l k else ByteArray.empty)) := Lib.hid ⟨by
    rw [bs_none n _ (fun k hk => by simp)]
    rw [← toList_madeCells_one, ← Nat.mul_one n]
    simpa using hown⟩
  have HB := Lib.hid hb
  have G1 := Lib.hid g1
  clear hown hgrow g1 hi hz0 hz1 hz2 hb
  go_wp2_with fail
  go_loopw [14] (fun i wr => ∃ k : Nat, k ≤ n ∧ i = .int .i64 k ∧ (∀ q (h : q < l.length), q < k → gz l[q] = true) ∧ Str wr b n (fun j => if j < k then tb l j else ByteArray.empty) ∧ Grw w wr) (fun i _ => n - (intOf i).toNat)
  case atStart => exact ⟨0, Nat.zero_le _, rfl, fun q _ hq => by omega, T0.out, G1.out⟩
  case round =>
    obtain ⟨k, hk, rfl, hgd, hst, hg⟩ := hrel
    have GD := Lib.hid hgd
    have ST := Lib.hid hst
    have G := Lib.hid hg
    by_cases hk' : k < n
    · have hki : (k : Int) < (n : Int) := by omega
      have hkl : k < l.length := by rw [HN.out]; exact hk'
      obtain ⟨ab, off, rfl, c0, c1⟩ := slies_at (RA.out.later hg) hkl
      obtain ⟨z, hz⟩ : ∃ z, l[k] = z := ⟨_, rfl⟩
      rw [hz] at c0 c1
      have HZ := Lib.hid hz
      obtain ⟨zk, zn⟩ := z
      simp only at c0 c1
      rcases hgz : gz ⟨zk, zn⟩ with _ | _
      · have I := Lib.hid (fun w (t : Mks w) => text_no zk zn w t hgz)
        have okf : ok = false := by
          rw [HO.out, Bool.eq_false_iff]
          intro e
          have := List.all_eq_true.1 e _ (List.getElem_mem hkl)
          rw [hz, hgz] at this
          cases this
        have rf : r = ⟨#[]⟩ := ba_ext (by rw [HR.out, okf]; rfl)
        have OKF := Lib.hid okf
        have RF := Lib.hid rf
        clear hgd hst hg hgz okf rf hz
        go_wp2_with fail
        refine (I.out _ (mks_grw (by first | exact (G.out.alloc _) | exact (G.out.alloc _).set2 (by simpa using Below.size G.out) _ _) HT.out)).mono ?_
        rintro _ w2 ⟨rfl, hw2⟩
        go_wp2_with fail
        go_ret2
        exact ⟨by rw [OKF.out, RF.out]; rfl, by first | exact (G.out.alloc _).trans hw2 | exact ((G.out.alloc _).set2 (by simpa using Below.size G.out) _ _).trans hw2⟩
      · obtain ⟨s, hs, hzs⟩ := gz_good hgz
        have hzk : zk = s.k := by have := congrArg Zs.k hzs; exact this
        have hzn : zn = s.n := by have := congrArg Zs.n hzs; exact this
        have htb : (tb l k).data.toList = tx s := by rw [tb_at hkl, hz, hzs, dn_up]
        have I := fun w (t : Mks w) (tt : Tab w) => text_yes s (tb l k) w t tt hs htb
        rw [← hzk, ← hzn] at I
        obtain ⟨tx0, htx⟩ : ∃ q, tb l k = q := ⟨_, rfl⟩
        rw [htx] at I
        replace I := Lib.hid I
        have HX := Lib.hid htx
        have HG := Lib.hid hgz
        clear hgd hst hg hgz hz hs hzs hzk hzn htb htx
        go_wp2_with fail
        have GA : Hid (Grw w (wr.alloc (.cells #[.int .i64 zk, .int .i64 zn] 35))) := Lib.hid (G.out.alloc _)
        refine (I.out _ (mks_grw GA.out HT.out) (tab_grw GA.out HTT.out)).mono ?_
        rintro _ w2 ⟨rfl, hw2⟩
        have S2 := Lib.hid ((ST.out.later ((Grw.rfl' wr).alloc _)).later hw2)
        have G2 := Lib.hid (GA.out.trans hw2)
        have cc := S2.out.cell hk'
        have cf := S2.out.fz k
        have hbw := Lib.hid (show w.heap.size ≤ b by rw [HB.out]; exact Nat.le_refl _)
        clear hw2 c0 c1
        go_wp2_with fail
        go_roundw
        case rel => exact ⟨k + 1, by omega, by go_num, fun q h hq => by
            by_cases e : q = k
            · subst e; rw [HZ.out]; exact HG.out
            · exact GD.out q h (by omega), S2.out.set k _ (fun q hq => by
            by_cases e : q = k
            · subst e; rw [if_pos (by omega), if_pos rfl, HX.out]
            · rw [if_neg e]
              by_cases e2 : q < k
              · rw [if_pos (by omega), if_pos e2]
              · rw [if_neg (by omega), if_neg e2]), G2.out.set hbw.out _⟩
        case measure => simp [intOf]; omega
    · have hki : ¬ (k : Int) < (n : Int) := by omega
      obtain rfl : k = n := by omega
      have hall : ∀ z ∈ l, gz z = true := fun z hz => by
        obtain ⟨q, hq, rfl⟩ := List.getElem_of_mem hz
        exact hgd q hq (by rw [HN.out] at hq; exact hq)
      have okt : ok = true := by rw [HO.out, List.all_eq_true]; exact hall
      have S2 : Str wr b k (tb l) := ⟨by
        have : bs (tb l) k = bs (fun j => if j < k then tb l j else ByteArray.empty) k := by
          refine List.ext_getElem? fun q => ?_
          by_cases hq : q < k
          · rw [bs_at hq, bs_at hq, if_pos hq]
          · rw [List.getElem?_eq_none (by simp [bs]; omega), List.getElem?_eq_none (by simp [bs]; omega)]
        rw [this]; exact hst.own⟩
      have J := Lib.hid (join_row l b k r wr HN.out hn2 hall S2 (by rw [HR.out, okt]; rfl))
      have OKT := Lib.hid okt
      clear hgd hst hg hall okt S2
      go_wp2_with fail
      refine J.out.mono ?_
      rintro _ w2 ⟨rfl, hw2⟩
      go_wp2_with fail
      go_ret2
      exact ⟨by rw [OKT.out]; rfl, G.out.trans hw2⟩
end Go.Proofs.YtiocnagbcbhggaaDoor
