/- The contracts of the document's List and Mask at this program. -/
import Derived.Test.YtlihcljjpalapaaDoorSc
namespace Go.Proofs.YtlihcljjpalapaaDoor
open Go.RowKit MK
open RG (Du La listR putB putR dropR dropO takeR hasId inSlot)
set_option linter.unusedSimpArgs false

/-- behind an append of one timer: w the world when the call began, x the world ahead of the statement. -/
theorem own_appendD {w x y : World} {o : Obj} {v v' : Value} {l : List Du} {d : Du} (g : Grw w x) (h : x.ownsRow w.heap.size 31 2 v l.length (cd l))
    (h1 : y.ownsRow w.heap.size 31 2 v' (l.length + 1) (cd l ++ cd [d])) (h2 : (x.alloc o).grownBy y v.ownBlock) : Grw w y ∧ y.ownsRow w.heap.size 31 2 v' (l ++ [d]).length (cd (l ++ [d])) := by
  have hs := Below.size g
  refine ⟨Below.grown (g.alloc o) h2 (by rw [size_new]; omega) (fun k hk => (h.lt k hk).1), ?_⟩
  rw [List.length_append, cd_app]
  exact h1
theorem one_due (w : World) (d : Du) : ∀ (j : Nat) (u : Value), (cd [d])[j]? = some u → (w.alloc (.cells #[.int .i64 d.id, .int .u64 (d.t : Nat)] 31)).cell? ((⟨w.heap.size, 0, none⟩ : Addr).add j) = some u :=
  blk_cells (xs := cd [d]) (t := 31) (heap_alloc_new w _)
theorem inSlot_snoc (R : List La) (k : Nat) (h : k < R.length) (s : Int) : inSlot (R.take (k + 1)) s = if R[k].s = s then inSlot (R.take k) s ++ [R[k].d] else inSlot (R.take k) s := by
  rw [List.take_succ_eq_append_getElem h]
  exact RG.inSlot_put (R.take k) R[k].s s R[k].d
theorem inSlot_len (R : List La) (s : Int) : (inSlot R s).length ≤ R.length := by
  unfold RG.inSlot
  rw [List.length_map]
  exact List.length_filter_le _ _
set_option maxHeartbeats 2000000 in
set_option maxRecDepth 100000 in
theorem rlist_R (q : Nat) (v : Value) (R : List La) (s : Int) (w : World) (h : RefL w q v R) : Calls Tryd.prog 29 #[.pointer (some ⟨q, 0, none⟩), .int .i64 s] w (SortQ (listR R s) w) := by
  obtain ⟨i0, hi, hz0, hz1, hz2⟩ := info_parts Tryd.info31
  have hf := h.few
  have RR := Lib.hid h
  obtain ⟨n, hn⟩ : ∃ n, R.length = n := ⟨_, rfl⟩
  rw [hn] at hf
  have HN := Lib.hid hn
  clear h hn
  go_enter Tryd.func29, Tryd.ntmps29
  go_wp2_with fail
  go_loopw [5, 6] (fun u i wr => ∃ k : Nat, k ≤ n ∧ i = .int .i64 k ∧ wr.ownsRow w.heap.size 31 2 u (inSlot (R.take k) s).length (cd (inSlot (R.take k) s)) ∧ Grw w wr) (fun _ i _ => n - (intOf i).toNat)
  case atStart => exact ⟨0, Nat.zero_le _, rfl, World.ownsRow_nil _ _ _ _, Grw.rfl' _⟩
  case round =>
    obtain ⟨k, hk, rfl, hown, hg⟩ := hrel
    have hsz := Below.size hg
    have hc := (RR.out.later hg).cell
    obtain ⟨ao, cap, rfl, hl⟩ := (RR.out.later hg).row
    rw [HN.out] at hc
    have hlf : (inSlot (R.take k) s).length ≤ k := Nat.le_trans (inSlot_len _ _) (by rw [List.length_take]; omega)
    by_cases hk' : k < n
    · have hki : (k : Int) < (n : Int) := by omega
      have hkl : k < R.length := by rw [HN.out]; exact hk'
      obtain ⟨b, off, rfl, c0, c1, c2⟩ := lies3 hl hkl
      have hs := inSlot_snoc R k hkl s
      obtain ⟨x, hx⟩ : ∃ x, R[k] = x := ⟨_, rfl⟩
      rw [hx] at c0 c1 c2 hs
      obtain ⟨xs, xi, xt⟩ := x
      simp only at c0 c1 c2 hs
      obtain ⟨l, hle⟩ : ∃ l, inSlot (R.take k) s = l := ⟨_, rfl⟩
      rw [hle] at hs hown hlf
      have Q := Lib.hid (And.intro hown hg)
      clear hx hown hg hle hl
      by_cases he : xs = s
      · have ht : (xs == s) = true := by simp [he]
        rw [if_pos he] at hs
        have S := Lib.hid hs
        have D1 := Lib.hid (one_due wr ⟨xi, xt⟩)
        have D2 := Lib.hid (cd_one [⟨xi, xt⟩])
        obtain ⟨n1, hn1⟩ : ∃ n1, l.length = n1 := ⟨_, rfl⟩
        have Q1 := Q.out.1
        rw [hn1] at Q1 hlf
        have Q1 := Lib.hid Q1
        have HN1 := Lib.hid hn1
        clear he hs hn1
        go_wp2_with (at_builtin; refine wpList_append_own _ rfl _ _ 42 rfl w.heap.size 31 i0 _ 2 16 Tryd.underlying42 hi hz0 hz1 hz2 rfl (by decide) _ _ _ rfl (World.ownsRow.alloc Q1.out _) ⟨wr.heap.size, 0, none⟩ 1 1 (cd [⟨xi, xt⟩]) rfl rfl D1.out D2.out (by unfold maxLen; omega) (by omega) (by simp; omega) ?_)
        intro v' w2 hown' hgrow _
        have U := Lib.hid (own_appendD (d := ⟨xi, xt⟩) Q.out.2 Q.out.1 (by rw [HN1.out]; exact hown') hgrow)
        clear hown' hgrow
        go_wp2_with fail
        go_roundw
        case rel => exact ⟨k + 1, by omega, by go_num, by rw [S.out]; exact U.out.2, U.out.1⟩
        case measure => simp [intOf]; omega
      · have ht : (xs == s) = false := by simp [he]
        rw [if_neg he] at hs
        have S := Lib.hid hs
        clear he hs
        go_wp2_with fail
        go_roundw
        case rel => exact ⟨k + 1, by omega, by go_num, by rw [S.out]; exact Q.out.1, Q.out.2⟩
        case measure => simp [intOf]; omega
    · have hki : ¬ (k : Int) < (n : Int) := by omega
      obtain rfl : n = k := by omega
      have e : R.take n = R := List.take_of_length_le (by rw [HN.out]; exact Nat.le_refl _)
      rw [e] at hown hlf
      obtain ⟨bo, cb, rfl, hl2⟩ := ownsRow_lies hown
      have SO := Lib.hid (rsort_any bo cb (inSlot R s) wr hl2 (by omega))
      have G := Lib.hid hg
      obtain ⟨m, hm⟩ : ∃ m, (inSlot R s).length = m := ⟨_, rfl⟩
      rw [hm] at SO ⊢
      clear hown hg hl hl2 hlf hm
      go_wp2_with fail
      refine SO.out.mono ?_
      rintro _ w3 ⟨v3, rfl, hr3, hg3⟩
      have U := Lib.hid (And.intro hr3 (G.out.trans hg3))
      clear hr3 hg3
      go_wp2_with fail
      go_ret
      exact ⟨_, rfl, U.out.1, U.out.2⟩
set_option maxHeartbeats 2000000 in
set_option maxRecDepth 100000 in
theorem rmask_R (q : Nat) (v : Value) (R : List La) (w : World) (h : RefL w q v R) : Calls Tryd.prog 31 #[.pointer (some ⟨q, 0, none⟩)] w fun e w' => e = .returned (.int .u64 (ofL (R.map (·.s)) : Nat)) ∧ Grw w w' := by
  obtain ⟨i0, hi, hz0, hz1, hz2⟩ := info_parts Tryd.info3
  have hf := h.few
  have RR := Lib.hid h
  obtain ⟨n, hn⟩ : ∃ n, R.length = n := ⟨_, rfl⟩
  rw [hn] at hf
  have HN := Lib.hid hn
  obtain ⟨mm, hmm⟩ : ∃ mm, ofL (R.map (·.s)) = mm := ⟨_, rfl⟩
  rw [hmm]
  have HM := Lib.hid hmm
  clear h hn hmm
  go_enter Tryd.func31, Tryd.ntmps31
  go_wp2_with fail
  go_loopw [3, 4] (fun u i wr => ∃ k : Nat, k ≤ n ∧ i = .int .i64 k ∧ Own wr w.heap.size u ((R.take k).map (·.s)) ∧ Grw w wr) (fun _ i _ => n - (intOf i).toNat)
  case atStart => exact ⟨0, Nat.zero_le _, rfl, Own.nil _ _, Grw.rfl' _⟩
  case round =>
    obtain ⟨k, hk, rfl, hown, hg⟩ := hrel
    have hsz := Below.size hg
    have hc := (RR.out.later hg).cell
    obtain ⟨ao, cap, rfl, hl⟩ := (RR.out.later hg).row
    rw [HN.out] at hc
    have hlf : ((R.take k).map (·.s)).length ≤ k := by rw [List.length_map, List.length_take]; omega
    by_cases hk' : k < n
    · have hki : (k : Int) < (n : Int) := by omega
      have hkl : k < R.length := by rw [HN.out]; exact hk'
      obtain ⟨b, off, rfl, c0, c1, c2⟩ := lies3 hl hkl
      have hs : (R.take (k + 1)).map (·.s) = (R.take k).map (·.s) ++ [R[k].s] := by rw [List.take_succ_eq_append_getElem hkl, List.map_append]; rfl
      obtain ⟨x, hx⟩ : ∃ x, R[k] = x := ⟨_, rfl⟩
      rw [hx] at c0 c1 c2 hs
      obtain ⟨xs, xi, xt⟩ := x
      simp only at c0 c1 c2 hs
      obtain ⟨l, hle⟩ : ∃ l, (R.take k).map (·.s) = l := ⟨_, rfl⟩
      rw [hle] at hs hown hlf
      have Q := Lib.hid (And.intro hown hg)
      have S := Lib.hid hs
      clear hx hown hg hle hl hs
      go_wp2_with (at_builtin; refine wpList_append_own _ rfl _ _ 72 rfl w.heap.size 3 i0 (.int .i64 0) 1 8 Tryd.underlying72 hi hz0 hz1 hz2 rfl (by decide) _ _ _ rfl (World.ownsRow.alloc Q.out.1 _) ⟨wr.heap.size, 0, none⟩ 1 1 [.int .i64 xs] rfl rfl (one_cell _ _) (int_cells [xs]) (by unfold maxLen; omega) (by omega) (by simp; omega) ?_)
      intro v' w2 hown' hgrow _
      have U := Lib.hid (own_append (news := [xs]) Q.out.2 Q.out.1 hown' hgrow)
      clear hown' hgrow
      go_wp2_with fail
      go_roundw
      case rel => exact ⟨k + 1, by omega, by go_num, by rw [S.out]; exact U.out.2, U.out.1⟩
      case measure => simp [intOf]; omega
    · have hki : ¬ (k : Int) < (n : Int) := by omega
      obtain rfl : n = k := by omega
      have e : R.take n = R := List.take_of_length_le (by rw [HN.out]; exact Nat.le_refl _)
      rw [e] at hown hlf
      have B := rof_list (by omega) hown.row
      rw [HM.out] at B
      have B := Lib.hid B
      have G := Lib.hid hg
      clear hown hg hl hlf
      go_wp2_with fail
      refine B.out.mono ?_
      rintro _ w3 ⟨rfl, hw3⟩
      have H := Lib.hid (G.out.trans hw3)
      clear hw3
      go_wp2_with fail
      go_ret
      exact ⟨rfl, H.out⟩
end Go.Proofs.YtlihcljjpalapaaDoor
