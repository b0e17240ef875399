/- The contract of the document's Take at this program. -/
import Derived.Test.YtlihcljjpalapaaDoorSe
namespace Go.Proofs.YtlihcljjpalapaaDoor
open Go.RowKit MK
open RG (Du La listR putB putR dropR dropO takeR hasId inSlot)
set_option linter.unusedSimpArgs false

theorem own_append3 {w x y : World} {o : Obj} {v v' : Value} {l : List La} {d : La} (g : Grw w x) (h : x.ownsRow w.heap.size 62 3 v l.length (cl l))
    (h1 : y.ownsRow w.heap.size 62 3 v' (l.length + 1) (cl l ++ cl [d])) (h2 : (x.alloc o).grownBy y v.ownBlock) : Grw w y ∧ y.ownsRow w.heap.size 62 3 v' (l ++ [d]).length (cl (l ++ [d])) := by
  have hs := Below.size g
  refine ⟨Below.grown (g.alloc o) h2 (by rw [size_new]; omega) (fun k hk => (h.lt k hk).1), ?_⟩
  rw [List.length_append, cl_app]
  exact h1
theorem one_laid (w : World) (x : La) : ∀ (j : Nat) (u : Value), (cl [x])[j]? = some u → (w.alloc (.cells #[.int .i64 x.s, .int .i64 x.d.id, .int .u64 (x.d.t : Nat)] 62)).cell? ((⟨w.heap.size, 0, none⟩ : Addr).add j) = some u :=
  blk_cells (xs := cl [x]) (t := 62) (heap_alloc_new w _)
theorem takeR_snoc (R : List La) (k : Nat) (h : k < R.length) (s : Int) : takeR (R.take (k + 1)) s = if R[k].s = s then takeR (R.take k) s else takeR (R.take k) s ++ [R[k]] := by
  rw [List.take_succ_eq_append_getElem h]
  unfold RG.takeR
  rw [List.filter_append]
  by_cases e : R[k].s = s
  · simp [e]
  · simp [e]
/-- a row of a base is one of base 0. -/
theorem own0 {w : World} {B : Nat} {e : TypeId} {size : Nat} {v : Value} {n : Nat} {xs : List Value} (h : w.ownsRow B e size v n xs) : w.ownsRow 0 e size v n xs := by
  refine ⟨h.1, ?_⟩
  rcases h.2 with hn | ⟨g, cap, cur, rfl, _, r⟩
  · exact Or.inl hn
  · exact Or.inr ⟨g, cap, cur, rfl, Nat.zero_le _, r⟩
/-- a row of timers does not lie in the block that holds the document's slice. -/
theorem row_apart {w : World} {q : Nat} {v : Value} {R : List La} (h : RefL w q v R) {u : Value} {l : List Du} (r : RowD w u l) (v' : Value) : RowD (w.setCell ⟨q, 0, none⟩ v') u l := by
  obtain ⟨ao, cap, rfl, hl⟩ := r
  refine ⟨ao, cap, rfl, ?_⟩
  rcases hl with h0 | ⟨b, off, e, hb, hc⟩
  · exact Or.inl h0
  · have hne : 0 < l.length → b ≠ q := by
      intro h0 e
      subst e
      have := hc 0 _ (cd_id l 0 h0)
      rw [Nat.add_zero] at this
      obtain ⟨bo, cb, hv, _⟩ := h.row
      subst hv
      unfold World.cell? at this
      rw [h.blk] at this
      simp at this
      rcases off with _ | off
      · simp at this
      · simp at this
    rcases Nat.eq_zero_or_pos l.length with h0 | h0
    · left; rw [List.eq_nil_of_length_eq_zero h0]; rfl
    · exact Lies.frm (show Lies w ao (cd l) from Or.inr ⟨b, off, e, hb, hc⟩) (frm_set (F := fun k => k = q) w ⟨q, 0, none⟩ v' rfl) (fun a ea c => hne h0 (by rw [e] at ea; injection ea with ea; subst ea; exact c))
def RtakeQ (q : Nat) (v : Value) (R : List La) (s : Int) (w : World) (e : Ending) (w' : World) : Prop := ∃ u, e = .returned u ∧ RowD w' u (listR R s) ∧ RefQ q v w (takeR R s) w'
set_option maxHeartbeats 4000000 in
set_option maxRecDepth 100000 in
theorem rtake_R (q : Nat) (v : Value) (R : List La) (s : Int) (w : World) (h : RefL w q v R) : Calls Tryd.prog 14 #[.pointer (some ⟨q, 0, none⟩), .int .i64 s] w (RtakeQ q v R s w) := by
  obtain ⟨i0, hi, hz0, hz1, hz2⟩ := info_parts Tryd.info62
  have hf := h.few
  have RR := Lib.hid h
  have LI := Lib.hid (rlist_R q v R s w h)
  obtain ⟨n, hn⟩ : ∃ n, R.length = n := ⟨_, rfl⟩
  rw [hn] at hf
  have HN := Lib.hid hn
  clear h hn
  go_enter Tryd.func14, Tryd.ntmps14
  go_wp2_with fail
  refine LI.out.mono ?_
  rintro _ w1 ⟨lv, rfl, hrow, hg1⟩
  have RW := Lib.hid hrow
  have G1 := Lib.hid hg1
  clear hrow hg1
  go_wp2_with fail
  go_loopw [6, 7] (fun u i wr => ∃ k : Nat, k ≤ n ∧ i = .int .i64 k ∧ wr.ownsRow w1.heap.size 62 3 u (takeR (R.take k) s).length (cl (takeR (R.take k) s)) ∧ Grw w1 wr) (fun _ i _ => n - (intOf i).toNat)
  case atStart => exact ⟨0, Nat.zero_le _, rfl, World.ownsRow_nil _ _ _ _, Grw.rfl' _⟩
  case round =>
    obtain ⟨k, hk, rfl, hown, hg⟩ := hrel
    have hsz := Below.size hg
    have hc := ((RR.out.later G1.out).later hg).cell
    have hfz := ((RR.out.later G1.out).later hg).free
    obtain ⟨ao, cap, rfl, hl⟩ := ((RR.out.later G1.out).later hg).row
    rw [HN.out] at hc
    have hlf : (takeR (R.take k) s).length ≤ k := Nat.le_trans (List.length_filter_le _ _) (by rw [List.length_take]; omega)
    by_cases hk' : k < n
    · have hki : (k : Int) < (n : Int) := by omega
      have hkl : k < R.length := by rw [HN.out]; exact hk'
      obtain ⟨b, off, rfl, c0, c1, c2⟩ := lies3 hl hkl
      have hs := takeR_snoc R k hkl s
      obtain ⟨x, hx⟩ : ∃ x, R[k] = x := ⟨_, rfl⟩
      rw [hx] at c0 c1 c2 hs
      obtain ⟨xs, xi, xt⟩ := x
      simp only at c0 c1 c2 hs
      obtain ⟨l, hle⟩ : ∃ l, takeR (R.take k) s = l := ⟨_, rfl⟩
      rw [hle] at hs hown hlf
      have Q := Lib.hid (And.intro hown hg)
      clear hx hown hg hle hl hfz
      by_cases he : xs = s
      · have ht : (xs != s) = false := by simp [he]
        rw [if_pos he] at hs
        have S := Lib.hid hs
        clear he hs
        go_wp2_with fail
        go_roundw
        case rel => exact ⟨k + 1, by omega, by go_num, by rw [S.out]; exact Q.out.1, Q.out.2⟩
        case measure => simp [intOf]; omega
      · have ht : (xs != s) = true := by simp [he]
        rw [if_neg he] at hs
        have S := Lib.hid hs
        have D1 := Lib.hid (one_laid wr ⟨xs, ⟨xi, xt⟩⟩)
        have D2 := Lib.hid (cl_one [⟨xs, ⟨xi, xt⟩⟩])
        obtain ⟨n1, hn1⟩ : ∃ n1, l.length = n1 := ⟨_, rfl⟩
        have Q1 := Q.out.1
        rw [hn1] at Q1 hlf
        have Q1 := Lib.hid Q1
        have HN1 := Lib.hid hn1
        clear he hs hn1
        go_wp2_with (at_builtin; refine wpList_append_own _ rfl _ _ 26 rfl w1.heap.size 62 i0 _ 3 24 Tryd.underlying26 hi hz0 hz1 hz2 rfl (by decide) _ _ _ rfl (World.ownsRow.alloc Q1.out _) ⟨wr.heap.size, 0, none⟩ 1 1 (cl [⟨xs, ⟨xi, xt⟩⟩]) rfl rfl D1.out D2.out (by unfold maxLen; omega) (by omega) (by simp; omega) ?_)
        intro v' w2 hown' hgrow _
        have U := Lib.hid (own_append3 (d := ⟨xs, ⟨xi, xt⟩⟩) Q.out.2 Q.out.1 (by rw [HN1.out]; exact hown') hgrow)
        clear hown' hgrow
        go_wp2_with fail
        go_roundw
        case rel => exact ⟨k + 1, by omega, by go_num, by rw [S.out]; exact U.out.2, U.out.1⟩
        case measure => simp [intOf]; omega
    · have hki : ¬ (k : Int) < (n : Int) := by omega
      obtain rfl : n = k := by omega
      have e : R.take n = R := List.take_of_length_le (by rw [HN.out]; exact Nat.le_refl _)
      rw [e] at hown hlf
      have RD := Lib.hid (fun v' => row_apart ((RR.out.later G1.out).later hg) (RW.out.later hg) v')
      have U := Lib.hid (refQ_set RR.out (G1.out.trans hg) (Frm.rfl' _ wr) (own0 hown) (by
        rcases e2 : u6.ownBlock with _ | g
        · exact Or.inr (Or.inl rfl)
        · exact Or.inr (Or.inr ⟨g, rfl, Nat.le_trans (Below.size G1.out) (hown.lt g e2).1⟩)) (by omega))
      obtain ⟨bo, cb, hv6, hl2⟩ := ownsRow_lies hown
      subst hv6
      obtain ⟨m, hm⟩ : ∃ m, (takeR R s).length = m := ⟨_, rfl⟩
      rw [hm] at U ⊢
      clear hown hg hl hl2 hlf hm
      go_wp2_with fail
      go_ret
      exact ⟨_, rfl, RD.out _, U.out⟩
end Go.Proofs.YtlihcljjpalapaaDoor
