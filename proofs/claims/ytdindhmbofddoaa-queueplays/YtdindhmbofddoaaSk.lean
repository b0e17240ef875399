/- Two rows alike; a line in turn is one only. -/
import Derived.Test.YtdindhmbofddoaaSj
import Derived.Test.YtdindhmbofddoaaQj
namespace Go.Proofs.Ytdindhmbofddoaa
open Go.RowKit
set_option linter.unusedSimpArgs false

set_option maxHeartbeats 1000000 in
set_option maxRecDepth 100000 in
theorem waits_same (ao bo : Option Addr) (ca cb : Nat) (l : List Wt) (w : World) (hb : l.length ≤ 1000000) (ra : Lies w ao (cw l)) (rb : Lies w bo (cw l)) :
    Calls Try.prog 20 #[.slice ao l.length ca, .slice bo l.length cb] w fun e w' => e = .returned (.bool true) ∧ Grw w w' := by
  have RA := Lib.hid ra
  have RB := Lib.hid rb
  obtain ⟨n, hn⟩ : ∃ n, l.length = n := ⟨_, rfl⟩
  rw [hn] at hb ⊢
  have HN := Lib.hid hn
  clear ra rb hn
  go_enter Try.func20, Try.ntmps20
  go_wp2_with fail
  go_loopw [5] (fun i wr => ∃ k : Nat, k ≤ n ∧ i = .int .i64 k ∧ Grw w wr) (fun i _ => n - (intOf i).toNat)
  case atStart => exact ⟨0, Nat.zero_le _, rfl, Grw.rfl' _⟩
  case round =>
    obtain ⟨k, hk, rfl, hg⟩ := hrel
    by_cases hk' : k < n
    · have hki : (k : Int) < (n : Int) := by omega
      have hkl : k < l.length := by rw [HN.out]; exact hk'
      obtain ⟨b, off, rfl, c0, c1, c2⟩ := wlies_at (RA.out.later hg) hkl
      obtain ⟨b2, off2, rfl, e0, e1, e2⟩ := wlies_at (RB.out.later hg) hkl
      obtain ⟨x, hx⟩ : ∃ x, l[k] = x := ⟨_, rfl⟩
      rw [hx] at c0 c1 c2 e0 e1 e2
      obtain ⟨xi, xt, xc⟩ := x
      simp only at c0 c1 c2 e0 e1 e2
      have G := Lib.hid hg
      clear hx hg
      go_wp2_with fail
      go_quiet (fail)
      go_wp2_with fail
      go_roundw
      case rel => exact ⟨k + 1, by omega, by go_num, G.out.drewN _⟩
      case measure => simp [intOf]; omega
    · have hki : ¬ (k : Int) < (n : Int) := by omega
      go_wp2_with fail
      go_ret
      exact ⟨rfl, hg⟩

/-- in turn, as pairs. -/
theorem Srtd.pw {a : Int} {l : List Wt} (h : Srtd a 0 l.length l) : l.Pairwise fun x y => les a y x = false := by
  rw [List.pairwise_iff_getElem]
  intro i j hi hj hij
  have := h i j (Nat.zero_le _) hij hj
  rw [gt_at hi, gt_at hj] at this
  exact this
theorem one_order {a : Int} : ∀ {l m : List Wt}, l.Perm m → (l.map Wt.id).Nodup → (l.Pairwise fun x y => les a y x = false) → (m.Pairwise fun x y => les a y x = false) → l = m
  | [], m, hp, _, _, _ => (List.eq_nil_of_length_eq_zero hp.length_eq.symm).symm
  | x :: l, [], hp, _, _, _ => by have := hp.length_eq; simp at this
  | x :: l, y :: m, hp, hn, h1, h2 => by
    have hx : x = y := by
      rcases List.mem_cons.1 (hp.mem_iff.1 (List.mem_cons_self ..)) with e | e
      · exact e
      · rcases List.mem_cons.1 (hp.symm.mem_iff.1 (List.mem_cons_self (a := y) (l := m))) with e' | e'
        · exact e'.symm
        · have f1 := (List.pairwise_cons.1 h2).1 x e
          have f2 := (List.pairwise_cons.1 h1).1 y e'
          have hne : x.id ≠ y.id := fun c => by
            rw [List.map_cons, List.nodup_cons] at hn
            exact hn.1 (c ▸ List.mem_map_of_mem e')
          have := les_tot f1 hne
          rw [f2] at this
          cases this
    subst hx
    rw [List.map_cons, List.nodup_cons] at hn
    rw [one_order ((List.perm_cons x).1 hp) hn.2 (List.pairwise_cons.1 h1).2 (List.pairwise_cons.1 h2).2]
theorem LQ.one {a : Int} {L : List Wt} {w w1 x x1 : World} {u v : Value} {s t : List Wt} (h : LQ a L w u s x) (k : LQ a L w1 v t x1) (hn : (L.map Wt.id).Nodup) : s = t :=
  one_order (h.perm.trans k.perm.symm) (((h.perm.map Wt.id).nodup_iff).2 hn) h.srt.pw k.srt.pw
/-- where nobody was let in twice there is a first one. -/
theorem fst_ex (a : Int) : ∀ (L : List Wt), 0 < L.length → (L.map Wt.id).Nodup → ∃ k, Fst a L k := by
  intro L h0 hn
  have key : ∀ n, 0 < n → n ≤ L.length → ∃ k, k < n ∧ ∀ i, i < n → les a (gt L i) (gt L k) = false := by
    intro n
    induction n with
    | zero => intro h; omega
    | succ n ih =>
      intro _ h2
      by_cases c : n = 0
      · exact ⟨0, by omega, fun i hi => by have : i = 0 := by omega
                                           subst this; exact les_irr _ _⟩
      · obtain ⟨k, hk, hf⟩ := ih (by omega) (by omega)
        cases e : les a (gt L n) (gt L k) with
        | false => exact ⟨k, by omega, fun i hi => by
            by_cases ci : i = n
            · subst ci; exact e
            · exact hf i (by omega)⟩
        | true => exact ⟨n, by omega, fun i hi => by
            by_cases ci : i = n
            · subst ci; exact les_irr _ _
            · have := hf i (by omega)
              exact les_neg (les_asym e) this⟩
  obtain ⟨k, hk, hf⟩ := key L.length h0 (Nat.le_refl _)
  have hf' : ∀ i (hi : i < L.length), les a L[i] L[k] = false := fun i hi => by have := hf i hi; rw [gt_at hi, gt_at hk] at this; exact this
  refine ⟨k, hk, hf', fun i hi hik => les_tot (hf' i hi) fun c => ?_⟩
  have := ids_inj hn hi hk (by rw [gt_at hi, gt_at hk]; exact c)
  omega
/-- who is let in one after another. -/
def ln : Nat → List Wt
  | 0 => []
  | k + 1 => ln k ++ [⟨(k : Int), (k : Int) % 8, 0⟩]
theorem ln_len (k : Nat) : (ln k).length = k := by
  induction k with
  | zero => rfl
  | succ k ih => simp [ln, ih]
theorem ln_mem {k : Nat} {x : Wt} (h : x ∈ ln k) : 0 ≤ x.id ∧ x.id < (k : Int) := by
  induction k with
  | zero => cases h
  | succ k ih =>
    unfold ln at h
    rcases List.mem_append.1 h with h | h
    · have := ih h; omega
    · simp at h; subst h; simp only; omega
theorem ln_gt {n : Nat} : ∀ {k : Nat}, k < n → (gt (ln n) k).id = (k : Int) := by
  induction n with
  | zero => intro k h; omega
  | succ n ih =>
    intro k h
    by_cases c : k < n
    · have := ih c
      rw [gt_at (by rw [ln_len]; omega)]
      rw [gt_at (by rw [ln_len]; omega)] at this
      simp only [ln]
      rw [List.getElem_append_left (by rw [ln_len]; exact c)]
      exact this
    · have e : k = n := by omega
      subst e
      rw [gt_at (by rw [ln_len]; omega)]
      simp only [ln]
      rw [List.getElem_append_right (by rw [ln_len]; omega)]
      simp
theorem ln_no {n : Nat} {id : Int} (h : (n : Int) ≤ id) : ∀ j, j < (ln n).length → (gt (ln n) j).id ≠ id := fun j hj c => by
  have := ln_mem (gt_mem hj); omega
theorem rem_mem {L : List Wt} {k : Nat} {x : Wt} (h : x ∈ rem L k) : x ∈ L := by
  unfold rem at h
  rcases List.mem_append.1 h with h | h
  · exact List.mem_of_mem_take h
  · exact List.mem_of_mem_drop h
theorem rem_gone {L : List Wt} (hn : (L.map Wt.id).Nodup) {k : Nat} (hk : k < L.length) : ∀ j, j < (rem L k).length → (gt (rem L k) j).id ≠ (gt L k).id := fun j hj c => by
  have h := ((rem_perm hk).map Wt.id).nodup_iff.1 hn
  rw [List.map_append] at h
  exact (List.nodup_append.1 h).2.2 _ (List.mem_map_of_mem (gt_mem hj)) _ (List.mem_map_of_mem (List.mem_singleton.2 rfl)) c
end Go.Proofs.Ytdindhmbofddoaa
