/- sort.Sort at the queue's line; slices.Clone; the queue's List. -/
import Derived.Test.YtdindhmbofddoaaSh
import Derived.Test.YtdindhmbofddoaaQk
namespace Go.Proofs.Ytdindhmbofddoaa
open Go.RowKit
set_option linter.unusedSimpArgs false

theorem blen_is (n : Nat) (hn : n ≤ 1000000) : ∃ k : Nat, k ≤ 62 ∧ ∀ w, Calls Try.prog 42 #[.int .u64 (n : Nat)] w fun e w' => e = .returned (.int .i64 (k : Nat)) ∧ w = w' := by
  refine ⟨Lib.bitLen n, Lib.bitLen_le n 62 (by omega) (by omega), fun w => ?_⟩
  have h := Any.bits_Len (LaysGg.n13.bits (P := Try.prog) (ρ := Try.npt_ren) { Try.npt with }) (n : Int) w (by omega) (by omega)
  change Calls Try.prog 42 _ w _ at h
  exact h.mono fun _ _ ⟨he, hw⟩ => ⟨by rw [he, Int.toNat_natCast], hw.symm⟩
set_option maxHeartbeats 1000000 in
set_option maxRecDepth 100000 in
theorem sort_is (b o : Nat) (a : Int) (g cap : Nat) (l : List Wt) (w : World) (h : LR b o a g cap w l) (hsz : l.length ≤ 1000000) (hids : (l.map Wt.id).Nodup) :
    Calls Try.prog 34 #[.iface 62 (.pointer (some ⟨b, o, none⟩))] w fun e w' => e = .returned (.tuple #[]) ∧ ∃ m, LS b o a g cap 0 l.length w l w' m ∧ Srtd a 0 l.length m := by
  obtain ⟨n, hn⟩ : ∃ n, l.length = n := ⟨_, rfl⟩
  by_cases c : n ≤ 1
  · have c1 := h.c1
    rw [hn] at c1
    exact (sort_none b o _ n cap w c1 c).mono fun _ _ ⟨he, hw⟩ => by subst hw; exact ⟨he, l, LS.start h, Srtd.small a (by omega) l⟩
  · have mN := meth_len b o
    have H := Lib.hid h
    have c1 := h.c1
    rw [hn] at c1
    have C := Lib.hid (line_len b o _ n cap w c1)
    obtain ⟨k, hk, hB⟩ := blen_is n (by omega)
    have BL := Lib.hid hB
    have P := Lib.hid (fun w' (e : w = w') => pdq_is b o a g cap (n + 1) 0 n k l w' (by omega) (e ▸ h) (Nat.zero_le _) (by omega) hsz hids (fun h0 => absurd h0 (Nat.lt_irrefl _)) (by omega))
    have d1 : decide (n ≤ 1) = false := by simp; omega
    have d1i : decide ((n : Int) ≤ 1) = false := by simp; omega
    have q1 : IntKind.u64.wrap (n : Int) = (n : Int) := by simp [IntKind.wrap, IntKind.bits, IntKind.signed]; omega
    have HN := Lib.hid hn
    clear h c1 hB hids hn
    go_enter Try.func34, Try.ntmps34
    go_wp2_with fail
    refine C.out.mono ?_
    rintro _ _ ⟨rfl, rfl⟩
    go_wp2_with fail
    refine (BL.out _).mono ?_
    rintro _ _ ⟨rfl, rfl⟩
    go_wp2_with fail
    refine (P.out _ rfl).mono ?_
    rintro _ w1 ⟨rfl, m, h1, h2⟩
    have R := Lib.hid (And.intro h1 h2)
    clear h1 h2
    go_wp2_with fail
    go_end0
    rw [HN.out]
    exact ⟨rfl, m, R.out⟩
set_option maxHeartbeats 1000000 in
set_option maxRecDepth 100000 in
theorem clone_is (ad : Addr) (cap : Nat) (l : List Wt) (w : World) (hl : Lies w (some ad) (cw l)) (hb : l.length ≤ 1000000) :
    Calls Try.prog 33 #[.slice (some ad) l.length cap] w fun e w' => ∃ v', e = .returned v' ∧ w'.ownsRow w.heap.size 37 3 v' l.length (cw l) ∧ Grw w w' := by
  obtain ⟨i0, hi, hz0, hz1, hz2⟩ := info_parts Try.info37
  have D1 := Lib.hid (cw_len l)
  have D2 := Lib.hid (cw_one l)
  have C : Hid (∀ j u, (cw l)[j]? = some u → (w.alloc (.cells #[] 37)).cell? (ad.add j) = some u) := (fun j u hj => by
    rcases hl with h | ⟨b, off, e, _, hc⟩
    · rw [h] at hj; cases hj
    · injection e with e
      subst e
      rw [Addr.add_lit]
      exact ((Grw.rfl' w).alloc _).cell (hc j u hj) : ∀ j u, (cw l)[j]? = some u → (w.alloc (.cells #[] 37)).cell? (ad.add j) = some u)
  have O : Hid ((w.alloc (.cells #[] 37)).ownsRow w.heap.size 37 3 (.slice (some ⟨w.heap.size, 0, none⟩) 0 0) 0 []) := (⟨rfl, .inr ⟨w.heap.size, 0, _, rfl, Nat.le_refl _, heap_alloc_new w _, Nat.le_refl _, by unfold maxLen; omega, rfl, rfl⟩⟩ : (w.alloc (.cells #[] 37)).ownsRow w.heap.size 37 3 (.slice (some ⟨w.heap.size, 0, none⟩) 0 0) 0 [])
  obtain ⟨n, hn⟩ : ∃ n, l.length = n := ⟨_, rfl⟩
  obtain ⟨xs, hxs⟩ : ∃ xs, cw l = xs := ⟨_, rfl⟩
  have HN := Lib.hid (And.intro hn hxs)
  rw [hn] at D1 hb ⊢
  rw [hxs] at D1 D2 C
  clear hl hn hxs
  have q42 : ∀ (w : World) (a : Option Addr) (n c n' c' : Nat), (binOp .eql 28 (.slice a n c) (.slice none n' c')).run Try.prog w = .ok (.bool a.isNone) w := fun w a n c n' c' => Lib.run_eql_slice_nil w _ _ a n c n' c' Try.underlying28
  go_enter Try.func33, Try.ntmps33
  go_wp2_with (at_builtin; refine wpList_append_own _ rfl _ _ 28 rfl w.heap.size 37 i0 _ 3 24 Try.underlying28 hi hz0 hz1 hz2 rfl (by decide) _ _ _ rfl O.out ad n cap xs rfl D1.out C.out D2.out (by unfold maxLen; omega) (by omega) (by simp) ?_)
  intro v' w2 hown' hgrow _
  have U := Lib.hid (And.intro hown' (Below.grown (B := w.heap.size) (a := w) ((Grw.rfl' w).alloc (.cells #[] 37)) hgrow (by rw [size_new]; omega) (fun k e => by injection e with e; rw [← e]; exact Nat.le_refl _)))
  clear hown' hgrow
  go_wp2_with fail
  go_ret
  refine ⟨_, rfl, ?_, U.out.2⟩
  rw [HN.out.2]
  simpa using U.out.1
end Go.Proofs.Ytdindhmbofddoaa
