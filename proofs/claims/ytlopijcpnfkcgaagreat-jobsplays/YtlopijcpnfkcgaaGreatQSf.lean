/- sort.heapSort at the queue's line. -/
import Derived.Test.YtlopijcpnfkcgaaGreatQSa
import Derived.Deep.CutRange
import Derived.Deep.DeepCutAuto
namespace Go.Proofs.YtlopijcpnfkcgaaGreat
namespace QQ
open Go.RowKit
set_option linter.unusedSimpArgs false

set_option maxHeartbeats 4000000 in
set_option maxRecDepth 100000 in
theorem heapsort_is (b o : Nat) (a : Int) (g cap lo hi : Nat) (l : List Wt) (w : World) (h : LR b o a g cap w l) (hlh : lo ≤ hi) (hh : hi ≤ l.length) (hsz : l.length ≤ 1000000) :
    Calls Tryz.prog 80 #[.iface 109 (.pointer (some ⟨b, o, none⟩)), .int .i64 lo, .int .i64 hi] w fun e w' => e = .returned (.tuple #[]) ∧ ∃ m, LS b o a g cap lo hi w l w' m ∧ Srtd a lo hi m := by
  obtain ⟨n, rfl⟩ : ∃ n, hi = lo + n := ⟨hi - lo, by omega⟩
  have H := Lib.hid h
  have HL := Lib.hid (And.intro hh hsz)
  have mS := sl_swap b o
  have hh1 : lo + n ≤ 1000000 := by omega
  have q0 : IntKind.i64.wrap (((lo + n : Nat) : Int) - (lo : Int)) = (n : Int) := by simp [IntKind.wrap_i64]; omega
  have q1 : IntKind.i64.wrap ((n : Int) - 1) = (n : Int) - 1 := by simp [IntKind.wrap_i64]; omega
  obtain ⟨z0, hz0⟩ : ∃ z0 : Int, ((n : Int) - 1).tdiv 2 = z0 := ⟨_, rfl⟩
  have hz1 : z0 + 1 = (((n - 1) / 2 + 1 : Nat) : Int) := by
    rcases Nat.eq_zero_or_pos n with c | c
    · subst c; rw [← hz0]; rfl
    · rw [← hz0, show (n : Int) - 1 = ((n - 1 : Nat) : Int) by omega, Int.tdiv_eq_ediv_of_nonneg (by omega)]; omega
  have q2 : IntKind.i64.wrap z0 = z0 := by simp [IntKind.wrap_i64]; omega
  have Z0 := Lib.hid hz1
  obtain ⟨hb, hhb⟩ : ∃ hb, lo + n = hb := ⟨_, rfl⟩
  have HB := Lib.hid hhb
  rw [hhb] at q0 hh1 ⊢
  clear h hh hsz hz1 hlh hhb
  go_enter Tryz.func80, Tryz.ntmps80
  go_wp2_with fail
  go_loopw [9] (fun s9 wr => ∃ (z : Int) (i : Nat) (m : List Wt), s9 = .int .i64 z ∧ z + 1 = (i : Int) ∧ i ≤ (n - 1) / 2 + 1 ∧ LS b o a g cap lo hb w l wr m ∧ MH a lo i n m) (fun s9 _ => (intOf s9 + 1).toNat)
  case atStart => exact ⟨z0, (n - 1) / 2 + 1, l, rfl, Z0.out, Nat.le_refl _, LS.start H.out, fun k h0 h1 h2 => by omega⟩
  case round =>
    obtain ⟨z, i, m, rfl, hzi, hi6, hs, ht⟩ := hrel
    have S := Lib.hid hs
    have T := Lib.hid ht
    have ML := Lib.hid hs.len
    clear hs ht
    by_cases ci : i = 0
    · subst ci
      obtain rfl : z = -1 := by omega
      have q3 : IntKind.i64.wrap ((n : Int) - 1) = (n : Int) - 1 := q1
      go_wp2_with fail
      go_loopw [10] (fun s10 wi => ∃ (y : Int) (j : Nat) (k : List Wt), s10 = .int .i64 y ∧ y + 1 = (j : Int) ∧ j ≤ n ∧ LS b o a g cap lo hb w l wi k ∧ Tail a lo n j k ∧ MH a lo 0 j k) (fun s10 _ => (intOf s10 + 1).toNat)
      case atStart => exact ⟨(n : Int) - 1, n, m, rfl, by omega, Nat.le_refl _, S.out, fun p q h0 h1 h2 => by omega, T.out⟩
      case round =>
        obtain ⟨y, j, k, rfl, hyj, hjn, hs, ht, hm⟩ := hrel
        have SI := Lib.hid hs
        have TI := Lib.hid (And.intro ht hm)
        have KL := Lib.hid hs.len
        clear hs ht hm
        by_cases cj : j = 0
        · subst cj
          obtain rfl : y = -1 := by omega
          go_wp2_with fail
          go_end0
          exact ⟨rfl, k, SI.out, by have := TI.out.1.done; rwa [HB.out] at this⟩
        · obtain ⟨j, rfl⟩ : ∃ j', j = j' + 1 := ⟨j - 1, by omega⟩
          obtain rfl : y = (j : Int) := by omega
          have q4 : IntKind.i64.wrap ((lo : Int) + (j : Int)) = ((lo + j : Nat) : Int) := by have hB := HB.out; simp [IntKind.wrap_i64]; omega
          have q5 : IntKind.i64.wrap ((j : Int) - 1) = (j : Int) - 1 := by have hB := HB.out; simp [IntKind.wrap_i64]; omega
          obtain ⟨lj, hlj⟩ : ∃ c, lo + j = c := ⟨_, rfl⟩
          have W := Lib.hid (fun w h => swap_at b o a g cap lo hb k lo lj w h (by have := KL.out; have := HL.out; have := HB.out; omega) (Nat.le_refl _) (by have := HB.out; omega) (by omega) (by have := HB.out; omega))
          have TS := TI.out.1.swap TI.out.2 (by omega) (by have := KL.out; have := HL.out; have := HB.out; omega)
          rw [hlj] at q4 TS
          have TT := Lib.hid TS
          have HJ := Lib.hid hlj
          clear TS hlj
          go_wp2_with fail
          refine (W.out _ SI.out.r).mono ?_
          rintro _ w2 ⟨rfl, h2⟩
          have S2 := Lib.hid (SI.out.trans h2)
          have SF := Lib.hid (sift_is b o a g cap lo 0 j (swp k lo lj) w2 h2.r (Nat.zero_le _) (by rw [swp_len]; have := KL.out; have := HL.out; have := HB.out; omega) (by rw [swp_len]; have := KL.out; have := HL.out; omega) TT.out.2)
          clear h2
          go_wp2_with fail
          refine SF.out.mono ?_
          rintro _ w3 ⟨rfl, k3, h3, hm3⟩
          have S3 := Lib.hid (S2.out.trans (h3.mono (Nat.le_refl _) (by have := HB.out; omega)))
          have T3 := Lib.hid (And.intro (TT.out.1.perm h3.p) hm3)
          clear h3 hm3
          go_wp2_with fail
          refine ⟨⟨(j : Int) - 1, j, k3, by first | rfl | go_num, by omega, by omega, S3.out, T3.out⟩, by simp [intOf] <;> omega⟩
    · obtain ⟨j, rfl⟩ : ∃ j', i = j' + 1 := ⟨i - 1, by omega⟩
      obtain rfl : z = (j : Int) := by omega
      have q5 : IntKind.i64.wrap ((j : Int) - 1) = (j : Int) - 1 := by have hB := HB.out; simp [IntKind.wrap_i64]; omega
      have cjn : j ≤ n := by omega
      have SF := Lib.hid (sift_is b o a g cap lo j n m wr S.out.r cjn (by have := ML.out; have := HL.out; have := HB.out; omega) (by have := ML.out; have := HL.out; omega) (MD.start T.out))
      go_wp2_with fail
      refine SF.out.mono ?_
      rintro _ w3 ⟨rfl, k3, h3, hm3⟩
      have S3 := Lib.hid (S.out.trans (h3.mono (Nat.le_refl _) (by have := HB.out; omega)))
      have T3 := Lib.hid hm3
      clear h3 hm3
      go_wp2_with fail
      refine ⟨⟨(j : Int) - 1, j, k3, by first | rfl | go_num, by omega, by omega, S3.out, T3.out⟩, by simp [intOf] <;> omega⟩
end QQ
end Go.Proofs.YtlopijcpnfkcgaaGreat

/- sort.choosePivot and what it calls, at the queue's line. -/
namespace Go.Proofs.YtlopijcpnfkcgaaGreat
namespace QQ
open Go.RowKit
set_option linter.unusedSimpArgs false

/-- the count of exchanges in block q. -/
structure SC (w : World) (q : Nat) (s : Nat) : Prop where
  c : w.cell? ⟨q, 0, none⟩ = some (.int .i64 s)
  f : w.frozen? ⟨q, 0, none⟩ = false
theorem SC.later {w x : World} {q s : Nat} (h : SC w q s) (g : Grw w x) : SC x q s := ⟨g.cell h.c, frz_frm (g.frm (fun _ => False)) h.c (fun e => e) h.f⟩
theorem SC.set {w : World} {q s : Nat} (h : SC w q s) (t : Nat) : SC (w.setCell ⟨q, 0, none⟩ (.int .i64 t)) q t := ⟨World.cell?_setCell_same (u := _) _ _ _ h.c, by simp [h.f]⟩
/-- a step that reads the line and counts. -/
structure SQ (b o : Nat) (a : Int) (g cap : Nat) (l : List Wt) (q s k : Nat) (w w' : World) : Prop where
  r : LR b o a g cap w' l
  f : Frm (fun k => k = q) w w'
  s : ∃ s', s' ≤ s + k ∧ SC w' q s'
set_option maxHeartbeats 1000000 in
set_option maxRecDepth 100000 in
theorem order2_is (b o : Nat) (a : Int) (g cap i j q s : Nat) (l : List Wt) (w : World) (h : LR b o a g cap w l) (hi : i < l.length) (hj : j < l.length) (hs : SC w q s) (h1 : s ≤ 100) (hb : q ≠ b) (hg : q ≠ g) :
    Calls Tryz.prog 93 #[.iface 109 (.pointer (some ⟨b, o, none⟩)), .int .i64 i, .int .i64 j, .pointer (some ⟨q, 0, none⟩)] w fun e w' => ∃ x y : Nat, e = .returned (.tuple #[.int .i64 x, .int .i64 y]) ∧ ((x = i ∧ y = j) ∨ (x = j ∧ y = i)) ∧ SQ b o a g cap l q s 1 w w' := by
  have H := Lib.hid h
  have S := Lib.hid hs
  have mL := sl_less b o
  obtain ⟨t, ht⟩ : ∃ t, les a (gt l j) (gt l i) = t := ⟨_, rfl⟩
  have C := Lib.hid (less_at b o a g cap l j i t w h hj hi ht)
  have HN := Lib.hid (And.intro hb hg)
  clear h hs ht hb hg
  cases t with
  | false =>
    go_enter Tryz.func93, Tryz.ntmps93
    go_wp2_with fail
    refine C.out.mono ?_
    rintro _ w1 ⟨rfl, hw⟩
    have G := Lib.hid hw
    clear hw
    go_wp2_with fail
    exact bodyPost_ret (v := .tuple #[.int .i64 i, .int .i64 j]) (by simp [results, Tryz.results93, go_sem]) rfl ⟨i, j, rfl, Or.inl ⟨rfl, rfl⟩, H.out.keep (G.out.frm (fun _ => False)) (fun e => e) (fun e => e), G.out.frm _, s, by omega, S.out.later G.out⟩
  | true =>
    go_enter Tryz.func93, Tryz.ntmps93
    go_wp2_with fail
    refine C.out.mono ?_
    rintro _ w1 ⟨rfl, hw⟩
    have G := Lib.hid hw
    have S1 := Lib.hid (S.out.later hw)
    have c1 := S1.out.c
    have f1 := S1.out.f
    have q1 : IntKind.i64.wrap ((s : Int) + 1) = ((s + 1 : Nat) : Int) := by simp [IntKind.wrap_i64]; omega
    obtain ⟨s1, hs1⟩ : ∃ s1, s + 1 = s1 := ⟨_, rfl⟩
    have HS := Lib.hid hs1
    rw [hs1] at q1
    clear hw hs1
    go_wp2_with fail
    have f2 : Frm (fun k => k = q) w (w1.setCell ⟨q, 0, none⟩ (.int .i64 s1)) := (G.out.frm (fun k => k = q)).set _ _ (Or.inl rfl)
    exact bodyPost_ret (v := .tuple #[.int .i64 j, .int .i64 i]) (by simp [results, Tryz.results93, go_sem]) rfl ⟨j, i, rfl, Or.inr ⟨rfl, rfl⟩, H.out.keep f2 (fun e => HN.out.1 e.symm) (fun e => HN.out.2 e.symm), f2, s1, by have := HS.out; omega, S1.out.set s1⟩
set_option maxHeartbeats 1000000 in
set_option maxRecDepth 100000 in
theorem median_is (b o : Nat) (a : Int) (g cap i j k q s : Nat) (l : List Wt) (w : World) (h : LR b o a g cap w l) (hi : i < l.length) (hj : j < l.length) (hk : k < l.length) (hs : SC w q s) (h1 : s ≤ 90) (hb : q ≠ b) (hg : q ≠ g) :
    Calls Tryz.prog 92 #[.iface 109 (.pointer (some ⟨b, o, none⟩)), .int .i64 i, .int .i64 j, .int .i64 k, .pointer (some ⟨q, 0, none⟩)] w fun e w' => ∃ x : Nat, e = .returned (.int .i64 x) ∧ (x = i ∨ x = j ∨ x = k) ∧ SQ b o a g cap l q s 3 w w' := by
  have H := Lib.hid h
  have S := Lib.hid hs
  have HL := Lib.hid (And.intro hi (And.intro hj hk))
  have HN := Lib.hid (And.intro hb hg)
  clear h hs hb hg hi hj hk
  go_enter Tryz.func92, Tryz.ntmps92
  go_wp2_with fail
  refine (order2_is b o a g cap i j q s l w H.out HL.out.1 HL.out.2.1 S.out (by omega) HN.out.1 HN.out.2).mono ?_
  rintro _ w1 ⟨x1, y1, rfl, hx, hq⟩
  have Q1 := Lib.hid hq
  obtain ⟨s1, hs1, c1⟩ := hq.s
  have C1 := Lib.hid c1
  have X1 := Lib.hid hx
  clear hq c1 hx
  go_wp2_with fail
  refine (order2_is b o a g cap y1 k q s1 l w1 Q1.out.r (by have := X1.out; have := HL.out; omega) HL.out.2.2 C1.out (by omega) HN.out.1 HN.out.2).mono ?_
  rintro _ w2 ⟨x2, y2, rfl, hx, hq⟩
  have Q2 := Lib.hid hq
  obtain ⟨s2, hs2, c2⟩ := hq.s
  have C2 := Lib.hid c2
  have X2 := Lib.hid hx
  clear hq c2 hx
  go_wp2_with fail
  refine (order2_is b o a g cap x1 x2 q s2 l w2 Q2.out.r (by have := X1.out; have := HL.out; omega) (by have := X1.out; have := X2.out; have := HL.out; omega) C2.out (by omega) HN.out.1 HN.out.2).mono ?_
  rintro _ w3 ⟨x3, y3, rfl, hx, hq⟩
  have Q3 := Lib.hid hq
  obtain ⟨s3, hs3, c3⟩ := hq.s
  have C3 := Lib.hid c3
  have X3 := Lib.hid hx
  clear hq c3 hx
  go_wp2_with fail
  go_ret
  exact ⟨y3, rfl, by have := X1.out; have := X2.out; have := X3.out; omega, Q3.out.r, (Q1.out.f.trans Q2.out.f (fun _ e => Or.inl e)).trans Q3.out.f (fun _ e => Or.inl e), s3, by omega, C3.out⟩
set_option maxHeartbeats 1000000 in
set_option maxRecDepth 100000 in
theorem adjacent_is (b o : Nat) (a : Int) (g cap i q s : Nat) (l : List Wt) (w : World) (h : LR b o a g cap w l) (h0 : 1 ≤ i) (hi : i + 1 < l.length) (hl : l.length ≤ 1000000) (hs : SC w q s) (h1 : s ≤ 90) (hb : q ≠ b) (hg : q ≠ g) :
    Calls Tryz.prog 91 #[.iface 109 (.pointer (some ⟨b, o, none⟩)), .int .i64 i, .pointer (some ⟨q, 0, none⟩)] w fun e w' => ∃ x : Nat, e = .returned (.int .i64 x) ∧ (i ≤ x + 1 ∧ x ≤ i + 1) ∧ SQ b o a g cap l q s 3 w w' := by
  have q1 : IntKind.i64.wrap ((i : Int) + 1) = ((i + 1 : Nat) : Int) := by simp [IntKind.wrap_i64]; omega
  have q2 : IntKind.i64.wrap ((i : Int) - 1) = ((i - 1 : Nat) : Int) := by simp [IntKind.wrap_i64]; omega
  have M := Lib.hid (median_is b o a g cap (i - 1) i (i + 1) q s l w h (by omega) (by omega) hi hs h1 hb hg)
  obtain ⟨i1, hi1⟩ : ∃ c, i + 1 = c := ⟨_, rfl⟩
  obtain ⟨i2, hi2⟩ : ∃ c, i - 1 = c := ⟨_, rfl⟩
  have N := Lib.hid (And.intro hi1 hi2)
  rw [hi1] at q1 M
  rw [hi2] at q2 M
  clear h hs hi1 hi2
  go_enter Tryz.func91, Tryz.ntmps91
  go_wp2_with fail
  refine M.out.mono ?_
  rintro _ w1 ⟨x, rfl, hx, hq⟩
  have Q := Lib.hid (And.intro hx hq)
  clear hx hq
  go_wp2_with fail
  go_ret
  exact ⟨x, rfl, by have := Q.out.1; have := N.out; omega, Q.out.2⟩
end QQ
end Go.Proofs.YtlopijcpnfkcgaaGreat

/- sort.choosePivot at the queue's line. -/
namespace Go.Proofs.YtlopijcpnfkcgaaGreat
namespace QQ
open Go.RowKit
set_option linter.unusedSimpArgs false

set_option maxHeartbeats 2000000 in
set_option maxRecDepth 100000 in
theorem pivot_is (b o : Nat) (a : Int) (g cap lo hi : Nat) (l : List Wt) (w : World) (h : LR b o a g cap w l) (hlh : lo < hi) (hh : hi ≤ l.length) (hsz : l.length ≤ 1000000) :
    Calls Tryz.prog 82 #[.iface 109 (.pointer (some ⟨b, o, none⟩)), .int .i64 lo, .int .i64 hi] w fun e w' => ∃ p t : Nat, e = .returned (.tuple #[.int .i64 p, .int .i64 t]) ∧ (lo ≤ p ∧ p < hi) ∧ t ≤ 2 ∧ Grw w w' := by
  have gb := World.block_lt_of_cell? _ _ h.c0
  have gg := (h.row.lt g rfl).2
  simp only at gb
  have g0 : ∀ u, Grw w (w.alloc u) := fun u => (Grw.rfl' w).alloc u
  have H := Lib.hid (h.keep ((g0 (.cells #[.int .i64 0] 3)).frm (fun _ => False)) (fun e => e) (fun e => e))
  have S : Hid (SC (w.alloc (.cells #[.int .i64 0] 3)) w.heap.size 0) := (⟨by simp [go_sem], by simp [go_sem]⟩ : SC (w.alloc (.cells #[.int .i64 0] 3)) w.heap.size 0)
  have F0 := Lib.hid ((g0 (.cells #[.int .i64 0] 3)).frm (fun k => k = w.heap.size))
  have NB := Lib.hid (show w.heap.size ≠ b ∧ w.heap.size ≠ g from ⟨by omega, by omega⟩)
  obtain ⟨n, hn⟩ : ∃ n, hi = lo + n := ⟨hi - lo, by omega⟩
  subst hn
  have HL := Lib.hid (And.intro hh hsz)
  have hb1 : lo + n ≤ 1000000 := by omega
  have hn1 : 1 ≤ n := by omega
  have q0 : IntKind.i64.wrap (((lo + n : Nat) : Int) - (lo : Int)) = (n : Int) := by simp [IntKind.wrap_i64]; omega
  obtain ⟨r, hr⟩ : ∃ r, n / 4 = r := ⟨_, rfl⟩
  have q1 : (n : Int) / 4 = (r : Int) := by omega
  have q2 : Int.tdiv (n : Int) 4 = (r : Int) := by rw [Int.tdiv_eq_ediv_of_nonneg (by omega)]; omega
  have q3 : IntKind.i64.wrap (r : Int) = (r : Int) := by simp [IntKind.wrap_i64]; omega
  have q4 : IntKind.i64.wrap ((r : Int) * 2) = ((2 * r : Nat) : Int) := by simp [IntKind.wrap_i64]; omega
  have q5 : IntKind.i64.wrap ((r : Int) * 3) = ((3 * r : Nat) : Int) := by simp [IntKind.wrap_i64]; omega
  have q6 : IntKind.i64.wrap ((lo : Int) + (r : Int)) = ((lo + r : Nat) : Int) := by simp [IntKind.wrap_i64]; omega
  have q7 : IntKind.i64.wrap ((lo : Int) + ((2 * r : Nat) : Int)) = ((lo + 2 * r : Nat) : Int) := by simp [IntKind.wrap_i64]; omega
  have q8 : IntKind.i64.wrap ((lo : Int) + ((3 * r : Nat) : Int)) = ((lo + 3 * r : Nat) : Int) := by simp [IntKind.wrap_i64]; omega
  obtain ⟨r2, hr2⟩ : ∃ c, 2 * r = c := ⟨_, rfl⟩
  obtain ⟨r3, hr3⟩ : ∃ c, 3 * r = c := ⟨_, rfl⟩
  rw [hr2] at q4 q7
  rw [hr3] at q5 q8
  obtain ⟨i, hi⟩ : ∃ c, lo + r = c := ⟨_, rfl⟩
  obtain ⟨j, hj⟩ : ∃ c, lo + r2 = c := ⟨_, rfl⟩
  obtain ⟨k, hk⟩ : ∃ c, lo + r3 = c := ⟨_, rfl⟩
  rw [hi] at q6
  rw [hj] at q7
  rw [hk] at q8
  have N := Lib.hid (show i = lo + n / 4 ∧ j = lo + 2 * (n / 4) ∧ k = lo + 3 * (n / 4) from ⟨by omega, by omega, by omega⟩)
  obtain ⟨hb, hhb⟩ : ∃ hb, lo + n = hb := ⟨_, rfl⟩
  have HB := Lib.hid hhb
  rw [hhb] at q0 ⊢
  clear h hh hsz gb gg g0 hr hr2 hr3 hi hj hk hlh hhb
  by_cases c8 : 8 ≤ n
  · have d8 : decide (8 ≤ n) = true := by simp [c8]
    have d8i : decide ((8 : Int) ≤ (n : Int)) = true := by simp; omega
    by_cases c50 : 50 ≤ n
    · have d50 : decide (50 ≤ n) = true := by simp [c50]
      have d50i : decide ((50 : Int) ≤ (n : Int)) = true := by simp; omega
      go_enter Tryz.func82, Tryz.ntmps82
      go_wp2_with fail
      refine (adjacent_is b o a g cap i w.heap.size 0 l _ H.out (by have := N.out; omega) (by have := N.out; have := HL.out; omega) HL.out.2 S.out (by omega) NB.out.1 NB.out.2).mono ?_
      rintro _ w1 ⟨x1, rfl, hx, hq⟩
      have R1 := Lib.hid hq.r
      have F1 := Lib.hid ((F0.out).trans hq.f (fun _ e => Or.inl e))
      obtain ⟨s1, hs1, cs⟩ := hq.s
      have C1 := Lib.hid cs
      have X1 := Lib.hid hx
      clear hq cs hx
      go_wp2_with fail
      refine (adjacent_is b o a g cap j w.heap.size s1 l w1 R1.out (by have := N.out; omega) (by have := N.out; have := HL.out; omega) HL.out.2 C1.out (by omega) NB.out.1 NB.out.2).mono ?_
      rintro _ w2 ⟨x2, rfl, hx, hq⟩
      have R2 := Lib.hid hq.r
      have F2 := Lib.hid ((F1.out).trans hq.f (fun _ e => Or.inl e))
      obtain ⟨s2, hs2, cs⟩ := hq.s
      have C2 := Lib.hid cs
      have X2 := Lib.hid hx
      clear hq cs hx
      go_wp2_with fail
      refine (adjacent_is b o a g cap k w.heap.size s2 l w2 R2.out (by have := N.out; omega) (by have := N.out; have := HL.out; omega) HL.out.2 C2.out (by omega) NB.out.1 NB.out.2).mono ?_
      rintro _ w3 ⟨x3, rfl, hx, hq⟩
      have R3 := Lib.hid hq.r
      have F3 := Lib.hid ((F2.out).trans hq.f (fun _ e => Or.inl e))
      obtain ⟨s3, hs3, cs⟩ := hq.s
      have C3 := Lib.hid cs
      have X3 := Lib.hid hx
      clear hq cs hx
      go_wp2_with fail
      refine (median_is b o a g cap x1 x2 x3 w.heap.size s3 l w3 R3.out (by have := N.out; have := HL.out; have := X1.out; omega) (by have := N.out; have := HL.out; have := X2.out; omega) (by have := N.out; have := HL.out; have := X3.out; omega) C3.out (by omega) NB.out.1 NB.out.2).mono ?_
      rintro _ w4 ⟨x4, rfl, hx, hq⟩
      have F4 := Lib.hid ((F3.out).trans hq.f (fun _ e => Or.inl e))
      obtain ⟨sv, hsv, cs⟩ := hq.s
      have CS := Lib.hid cs
      have X4 := Lib.hid hx
      clear hq cs hx
      have G := Lib.hid (Frm.grw (Grw.rfl' w) (F4.out) (fun k e => by subst e; exact Nat.le_refl _))
      have cS := CS.out.c
      by_cases c0 : sv = 0
      · have d5 : ((sv : Int) == 0) = true := by simp; omega
        go_wp2_with fail
        exact bodyPost_ret (v := .tuple #[.int .i64 x4, .int .i64 1]) (by simp [results, Tryz.results82, go_sem]) rfl ⟨x4, 1, rfl, by have := X4.out; have := X1.out; have := X2.out; have := X3.out; have := N.out; have := HB.out; omega, by omega, G.out⟩
      · have d5 : ((sv : Int) == 0) = false := by simp; omega
        by_cases c12 : sv = 12
        · have d6 : ((sv : Int) == 12) = true := by simp; omega
          go_wp2_with fail
          exact bodyPost_ret (v := .tuple #[.int .i64 x4, .int .i64 2]) (by simp [results, Tryz.results82, go_sem]) rfl ⟨x4, 2, rfl, by have := X4.out; have := X1.out; have := X2.out; have := X3.out; have := N.out; have := HB.out; omega, by omega, G.out⟩
        · have d6 : ((sv : Int) == 12) = false := by simp; omega
          go_wp2_with fail
          exact bodyPost_ret (v := .tuple #[.int .i64 x4, .int .i64 0]) (by simp [results, Tryz.results82, go_sem]) rfl ⟨x4, 0, rfl, by have := X4.out; have := X1.out; have := X2.out; have := X3.out; have := N.out; have := HB.out; omega, by omega, G.out⟩
    · have d50 : decide (50 ≤ n) = false := by simp; omega
      have d50i : decide ((50 : Int) ≤ (n : Int)) = false := by simp; omega
      go_enter Tryz.func82, Tryz.ntmps82
      go_wp2_with fail
      refine (median_is b o a g cap i j k w.heap.size 0 l _ H.out (by have := N.out; have := HL.out; omega) (by have := N.out; have := HL.out; omega) (by have := N.out; have := HL.out; omega) S.out (by omega) NB.out.1 NB.out.2).mono ?_
      rintro _ w4 ⟨x4, rfl, hx, hq⟩
      have F4 := Lib.hid ((F0.out).trans hq.f (fun _ e => Or.inl e))
      obtain ⟨sv, hsv, cs⟩ := hq.s
      have CS := Lib.hid cs
      have X4 := Lib.hid hx
      clear hq cs hx
      have G := Lib.hid (Frm.grw (Grw.rfl' w) (F4.out) (fun k e => by subst e; exact Nat.le_refl _))
      have cS := CS.out.c
      by_cases c0 : sv = 0
      · have d5 : ((sv : Int) == 0) = true := by simp; omega
        go_wp2_with fail
        exact bodyPost_ret (v := .tuple #[.int .i64 x4, .int .i64 1]) (by simp [results, Tryz.results82, go_sem]) rfl ⟨x4, 1, rfl, by have := X4.out; have := N.out; have := HB.out; omega, by omega, G.out⟩
      · have d5 : ((sv : Int) == 0) = false := by simp; omega
        by_cases c12 : sv = 12
        · have d6 : ((sv : Int) == 12) = true := by simp; omega
          go_wp2_with fail
          exact bodyPost_ret (v := .tuple #[.int .i64 x4, .int .i64 2]) (by simp [results, Tryz.results82, go_sem]) rfl ⟨x4, 2, rfl, by have := X4.out; have := N.out; have := HB.out; omega, by omega, G.out⟩
        · have d6 : ((sv : Int) == 12) = false := by simp; omega
          go_wp2_with fail
          exact bodyPost_ret (v := .tuple #[.int .i64 x4, .int .i64 0]) (by simp [results, Tryz.results82, go_sem]) rfl ⟨x4, 0, rfl, by have := X4.out; have := N.out; have := HB.out; omega, by omega, G.out⟩
  · have d8 : decide (8 ≤ n) = false := by simp; omega
    have d8i : decide ((8 : Int) ≤ (n : Int)) = false := by simp; omega
    have G := Lib.hid (Frm.grw (Grw.rfl' w) F0.out (fun k e => by subst e; exact Nat.le_refl _))
    go_enter Tryz.func82, Tryz.ntmps82
    go_wp2_with fail
    exact bodyPost_ret (v := .tuple #[.int .i64 j, .int .i64 1]) (by simp [results, Tryz.results82, go_sem]) rfl ⟨j, 1, rfl, by have := N.out; have := HB.out; omega, by omega, G.out⟩
end QQ
end Go.Proofs.YtlopijcpnfkcgaaGreat

/- sort.partition at the queue's line. -/
namespace Go.Proofs.YtlopijcpnfkcgaaGreat
namespace QQ
open Go.RowKit
set_option linter.unusedSimpArgs false

/-- up to i they come ahead of the one at lo, from behind j on they do not. -/
structure Pt (a : Int) (lo hi i j : Nat) (m : List Wt) : Prop where
  lt : ∀ k, lo < k → k < i → les a (gt m k) (gt m lo) = true
  ge : ∀ k, j < k → k < hi → les a (gt m k) (gt m lo) = false
theorem Pt.up {a : Int} {lo hi i j : Nat} {m : List Wt} (h : Pt a lo hi i j m) (e : les a (gt m i) (gt m lo) = true) : Pt a lo hi (i + 1) j m :=
  ⟨fun k h0 h1 => by
    by_cases c : k = i
    · subst c; exact e
    · exact h.lt k h0 (by omega), h.ge⟩
theorem Pt.down {a : Int} {lo hi i j : Nat} {m : List Wt} (h : Pt a lo hi i (j + 1) m) (e : les a (gt m (j + 1)) (gt m lo) = false) : Pt a lo hi i j m :=
  ⟨h.lt, fun k h0 h1 => by
    by_cases c : k = j + 1
    · subst c; exact e
    · exact h.ge k (by omega) h1⟩
theorem Pt.swap {a : Int} {lo hi i j : Nat} {m : List Wt} (h : Pt a lo hi i (j + 1) m) (h0 : lo < i) (hij : i ≤ j + 1) (hj : j + 1 < hi) (hm : hi ≤ m.length) (e1 : les a (gt m i) (gt m lo) = false) (e2 : les a (gt m (j + 1)) (gt m lo) = true) : Pt a lo hi (i + 1) j (swp m i (j + 1)) := by
  have S := swp_gt (l := m) (i := i) (j := j + 1) (by omega) (by omega)
  have L : gt (swp m i (j + 1)) lo = gt m lo := by rw [S lo, if_neg (by omega), if_neg (by omega)]
  refine ⟨fun k k0 k1 => ?_, fun k k0 k1 => ?_⟩
  · rw [L, S k]
    by_cases c : k = j + 1
    · exfalso
      have : i = j + 1 := by omega
      rw [this, e2] at e1; cases e1
    · rw [if_neg c]
      by_cases c2 : k = i
      · rw [if_pos c2]; exact e2
      · rw [if_neg c2]; exact h.lt k k0 (by omega)
  · rw [L, S k]
    by_cases c : k = j + 1
    · rw [if_pos c]; exact e1
    · rw [if_neg c, if_neg (by omega)]; exact h.ge k (by omega) k1
/-- parted at mid. -/
structure Parted (a : Int) (lo hi mid : Nat) (m : List Wt) : Prop where
  ge0 : lo ≤ mid
  lt1 : mid < hi
  lt : ∀ k, lo ≤ k → k < mid → les a (gt m k) (gt m mid) = true
  ge : ∀ k, mid < k → k < hi → les a (gt m k) (gt m mid) = false
theorem Pt.done {a : Int} {lo hi i j : Nat} {m : List Wt} (h : Pt a lo hi i j m) (h0 : lo ≤ j) (hij : j < i) (hj : j < hi) (hm : hi ≤ m.length) : Parted a lo hi j (swp m j lo) := by
  have S := swp_gt (l := m) (i := j) (j := lo) (by omega) (by omega)
  have J : gt (swp m j lo) j = gt m lo := by
    rw [S j]
    by_cases c : j = lo
    · subst c; rw [if_pos rfl]
    · rw [if_neg c, if_pos rfl]
  refine ⟨h0, hj, fun k k0 k1 => ?_, fun k k0 k1 => ?_⟩
  · rw [J, S k]
    by_cases c : k = lo
    · rw [if_pos c]; exact h.lt j (by omega) hij
    · rw [if_neg c, if_neg (by omega)]; exact h.lt k (by omega) (by omega)
  · rw [J, S k, if_neg (by omega), if_neg (by omega)]; exact h.ge k k0 k1

set_option maxHeartbeats 1000000 in
set_option maxRecDepth 100000 in
theorem partition_is (b o : Nat) (a : Int) (g cap lo hi pv : Nat) (l : List Wt) (w : World) (h : LR b o a g cap w l) (h0 : lo ≤ pv) (h1 : pv < hi) (hh : hi ≤ l.length) (hsz : l.length ≤ 1000000) :
    Calls Tryz.prog 86 #[.iface 109 (.pointer (some ⟨b, o, none⟩)), .int .i64 lo, .int .i64 hi, .int .i64 pv] w fun e w' => ∃ (mid : Nat) (t : Bool), e = .returned (.tuple #[.int .i64 mid, .bool t]) ∧ ∃ m, LS b o a g cap lo hi w l w' m ∧ Parted a lo hi mid m := by
  have H := Lib.hid h
  have HL := Lib.hid (And.intro hh hsz)
  have mL := sl_less b o
  have mS := sl_swap b o
  have hb1 : hi ≤ 1000000 := by omega
  have hlh : lo < hi := by omega
  have q0 : IntKind.i64.wrap ((lo : Int) + 1) = ((lo + 1 : Nat) : Int) := by simp [IntKind.wrap_i64]; omega
  have q1 : IntKind.i64.wrap ((hi : Int) - 1) = ((hi - 1 : Nat) : Int) := by simp [IntKind.wrap_i64]; omega
  have W0 := Lib.hid (swap_at b o a g cap lo hi l lo pv w h hh (Nat.le_refl _) hlh h0 h1)
  clear h hh hsz h0 h1
  go_enter Tryz.func86, Tryz.ntmps86
  go_wp2_with fail
  refine W0.out.mono ?_
  rintro _ w1 ⟨rfl, hs⟩
  obtain ⟨m0, hm0⟩ : ∃ m, swp l lo pv = m := ⟨_, rfl⟩
  rw [hm0] at hs
  have S0 := Lib.hid hs
  have L0 := Lib.hid hs.len
  clear hs hm0
  obtain ⟨j0, hj0⟩ : ∃ j, hi - 1 = j := ⟨_, rfl⟩
  have HJ0 := Lib.hid (show j0 + 1 = hi by omega)
  rw [hj0] at q1
  obtain ⟨i0, hi0⟩ : ∃ i, lo + 1 = i := ⟨_, rfl⟩
  have HI0 := Lib.hid hi0
  rw [hi0] at q0
  have P0 := Lib.hid (show Pt a lo hi i0 j0 m0 from ⟨fun k k0 k1 => by omega, fun k k0 k1 => by have := HJ0.out; omega⟩)
  clear hj0 hi0
  go_wp2_with fail
  go_loopw [10] (fun s10 wr => ∃ i : Nat, s10 = .int .i64 i ∧ lo + 1 ≤ i ∧ i ≤ j0 + 1 ∧ LS b o a g cap lo hi w l wr m0 ∧ Pt a lo hi i j0 m0) (fun s10 _ => j0 + 1 - (intOf s10).toNat)
  case atStart => exact ⟨i0, rfl, by have := HI0.out; have := HJ0.out; omega, by have := HI0.out; have := HJ0.out; omega, S0.out, P0.out⟩
  case round =>
    obtain ⟨iA, rfl, hiA0, hiA1, hs, ht⟩ := hrel
    have SA := Lib.hid hs
    have PA := Lib.hid ht
    clear hs ht
    obtain ⟨t, ht⟩ : ∃ t, (decide (iA ≤ j0) && les a (gt m0 iA) (gt m0 lo)) = t := ⟨_, rfl⟩
    have TA := Lib.hid ht
    clear ht
    go_upto_region 3 with fail
    go_cut [28] from 20 to 29 (fun s wx => s = .bool t ∧ LS b o a g cap lo hi w l wx m0)
    case first =>
      by_cases ci : iA ≤ j0
      · have d1 : decide (iA ≤ j0) = true := by simp [ci]
        have C := Lib.hid (less_at b o a g cap m0 iA lo t _ SA.out.r (by have := HI0.out; have := HJ0.out; have := L0.out; have := HL.out; omega) (by have := L0.out; have := HL.out; omega) (by have := TA.out; simpa [ci] using this))
        go_wp2_with fail
        refine C.out.mono ?_
        rintro _ wq ⟨rfl, hw⟩
        have SQ := Lib.hid (SA.out.later hw)
        clear hw
        go_wp2_with fail
        go_meet
        case rel => exact ⟨rfl, SQ.out⟩
      · have d1 : decide (iA ≤ j0) = false := by simp; omega
        have tf : t = false := by have := TA.out; simp [ci] at this; exact this
        go_wp2_with fail
        go_meet
        case rel => exact ⟨by rw [tf], SA.out⟩
    case rest =>
      obtain ⟨rfl, hs⟩ := hcut
      have SAc := Lib.hid hs
      clear hs
      cases t with
      | true =>
        have q5 : IntKind.i64.wrap ((iA : Int) + 1) = ((iA + 1 : Nat) : Int) := by have := HI0.out; have := HJ0.out; simp [IntKind.wrap_i64]; omega
        go_wp2_with fail
        have T := TA.out
        simp only [Bool.and_eq_true, decide_eq_true_eq] at T
        exact ⟨⟨iA + 1, by first | rfl | go_num, by omega, by omega, SAc.out, PA.out.up T.2⟩, by simp [intOf]; omega⟩
      | false =>
        have EA : Hid (iA ≤ j0 → les a (gt m0 iA) (gt m0 lo) = false) := (fun c => by have := TA.out; simpa [c] using this : iA ≤ j0 → les a (gt m0 iA) (gt m0 lo) = false)
        go_wp2_with fail
        go_loopw [11] (fun s11 wr => ∃ j : Nat, s11 = .int .i64 j ∧ lo ≤ j ∧ iA ≤ j + 1 ∧ (j < hi ∧ j ≤ j0) ∧ LS b o a g cap lo hi w l wr m0 ∧ Pt a lo hi iA j m0) (fun s11 _ => (intOf s11).toNat)
        case atStart => exact ⟨j0, rfl, by have := HI0.out; have := HJ0.out; omega, by have := HI0.out; have := HJ0.out; omega, ⟨by have := HI0.out; have := HJ0.out; omega, Nat.le_refl _⟩, SAc.out, PA.out⟩
        case round =>
          obtain ⟨jB, rfl, hjB0, hjB1, hjB2, hs, ht⟩ := hrel
          have SB := Lib.hid hs
          have PB := Lib.hid ht
          clear hs ht
          obtain ⟨t, ht⟩ : ∃ t, (decide (iA ≤ jB) && !les a (gt m0 jB) (gt m0 lo)) = t := ⟨_, rfl⟩
          have TB := Lib.hid ht
          clear ht
          go_upto_region 5 with fail
          go_cut [40] from 31 to 41 (fun s wx => s = .bool t ∧ LS b o a g cap lo hi w l wx m0)
          case first =>
            by_cases ci : iA ≤ jB
            · have d1 : decide (iA ≤ jB) = true := by simp [ci]
              obtain ⟨u, hu⟩ : ∃ u, les a (gt m0 jB) (gt m0 lo) = u := ⟨_, rfl⟩
              have C := Lib.hid (less_at b o a g cap m0 jB lo u _ SB.out.r (by have := HI0.out; have := HJ0.out; have := L0.out; have := HL.out; omega) (by have := L0.out; have := HL.out; omega) hu)
              have tu : Hid (t = !u) := (by have := TB.out; rw [hu] at this; simpa [ci] using this.symm : t = !u)
              clear hu
              go_wp2_with fail
              refine C.out.mono ?_
              rintro _ wq ⟨rfl, hw⟩
              have SQ := Lib.hid (SB.out.later hw)
              clear hw
              go_wp2_with fail
              go_meet
              case rel => exact ⟨by rw [tu.out], SQ.out⟩
            · have d1 : decide (iA ≤ jB) = false := by simp; omega
              have tf : t = false := by have := TB.out; simp [ci] at this; exact this
              go_wp2_with fail
              go_meet
              case rel => exact ⟨by rw [tf], SB.out⟩
          case rest =>
            obtain ⟨rfl, hs⟩ := hcut
            have SBc := Lib.hid hs
            clear hs
            cases t with
            | true =>
              have T := TB.out
              simp only [Bool.and_eq_true, decide_eq_true_eq, Bool.not_eq_true'] at T
              have TT := Lib.hid T
              have hjp : iA ≤ jB := T.1
              clear T
              obtain ⟨jp, rfl⟩ : ∃ jp, jB = jp + 1 := ⟨jB - 1, by have := HI0.out; have := HJ0.out; omega⟩
              have q5 : IntKind.i64.wrap (((jp + 1 : Nat) : Int) - 1) = (jp : Int) := by simp [IntKind.wrap_i64]; omega
              go_wp2_with fail
              exact ⟨⟨jp, by first | rfl | go_num, by have := HI0.out; have := HJ0.out; omega, by omega, by omega, SBc.out, PB.out.down TT.out.2⟩, by simp [intOf] <;> omega⟩
            | false =>
              have EB : Hid (iA ≤ jB → les a (gt m0 jB) (gt m0 lo) = true) := (fun c => by have := TB.out; simpa [c] using this : iA ≤ jB → les a (gt m0 jB) (gt m0 lo) = true)
              by_cases cc : jB < iA
              · have d3 : decide (jB < iA) = true := by simp [cc]
                go_wp2_with fail
                refine (swap_at b o a g cap lo hi m0 jB lo _ SBc.out.r (by have := L0.out; have := HL.out; omega) (by skip; omega) (by skip; omega) (Nat.le_refl _) hlh).mono ?_
                rintro _ wz ⟨rfl, hz⟩
                have SZ := Lib.hid (SBc.out.trans hz)
                clear hz
                go_wp2_with fail
                exact bodyPost_ret (v := .tuple #[.int .i64 jB, .bool true]) (by simp [results, Tryz.results86, go_sem]) rfl ⟨jB, true, rfl, _, SZ.out, PB.out.done (by skip; omega) (by skip; omega) (by skip; omega) (by have := L0.out; have := HL.out; omega)⟩
              · have d3 : decide (jB < iA) = false := by simp; omega
                go_wp2_with fail
                have hij : iA < jB := by
                  have e1 := EA.out (by omega)
                  have e2 := EB.out (by omega)
                  by_cases c : iA = jB
                  · rw [c, e2] at e1; cases e1
                  · omega
                obtain ⟨jm, hjm⟩ : ∃ jm, jB = jm + 1 := ⟨jB - 1, by skip; omega⟩
                have q6 : IntKind.i64.wrap ((jB : Int) - 1) = (jm : Int) := by simp [IntKind.wrap_i64]; omega
                have q7 : IntKind.i64.wrap ((iA : Int) + 1) = ((iA + 1 : Nat) : Int) := by simp [IntKind.wrap_i64]; skip; omega
                have PN : Hid (Pt a lo hi (iA + 1) jm (swp m0 iA jB)) := (by have P := PB.out; have e1 := EA.out (by omega); have e2 := EB.out (by omega); rw [hjm] at P e2 hij ⊢; exact P.swap (by skip; omega) (by omega) (by omega) (by have := L0.out; have := HL.out; omega) e1 e2 : Pt a lo hi (iA + 1) jm (swp m0 iA jB))
                refine (swap_at b o a g cap lo hi m0 iA jB _ SBc.out.r (by have := L0.out; have := HL.out; omega) (by skip; omega) (by skip; omega) (by skip; omega) (by skip; omega)).mono ?_
                rintro _ wz ⟨rfl, hz⟩
                have SN := Lib.hid (SBc.out.trans hz)
                have LN := Lib.hid (SBc.out.trans hz).len
                clear hz
                obtain ⟨mn, hmn⟩ : ∃ mn, swp m0 iA jB = mn := ⟨_, rfl⟩
                rw [hmn] at SN LN PN
                obtain ⟨iN, hin⟩ : ∃ iN, iA + 1 = iN := ⟨_, rfl⟩
                have NI := Lib.hid hin
                have NJ := Lib.hid hjm
                rw [hin] at PN q7
                clear hjm hmn hin
                go_wp2_with fail
                go_loopw [10, 11] (fun s10 s11 wr => ∃ (i j : Nat) (m : List Wt), s10 = .int .i64 i ∧ s11 = .int .i64 j ∧ lo + 1 ≤ i ∧ i ≤ j + 1 ∧ j < hi ∧ lo ≤ j ∧ LS b o a g cap lo hi w l wr m ∧ Pt a lo hi i j m) (fun _ s11 _ => (intOf s11).toNat)
                case atStart => exact ⟨iN, jm, mn, rfl, rfl, by have := NI.out; omega, by have := NI.out; have := NJ.out; omega, by have := NJ.out; omega, by have := NI.out; have := NJ.out; omega, SN.out, PN.out⟩
                case round =>
                  obtain ⟨iG, jG, mG, rfl, rfl, hG0, hG1, hG2, hG3, hs, ht⟩ := hrel
                  have SG := Lib.hid hs
                  have PG := Lib.hid ht
                  have LG := Lib.hid hs.len
                  clear hs ht
                  go_wp2_with fail
                  go_loopw [10] (fun s10 wr => ∃ i : Nat, s10 = .int .i64 i ∧ lo + 1 ≤ i ∧ i ≤ jG + 1 ∧ LS b o a g cap lo hi w l wr mG ∧ Pt a lo hi i jG mG) (fun s10 _ => jG + 1 - (intOf s10).toNat)
                  case atStart => exact ⟨iG, rfl, by skip; omega, by skip; omega, SG.out, PG.out⟩
                  case round =>
                    obtain ⟨iC, rfl, hiC0, hiC1, hs, ht⟩ := hrel
                    have SC := Lib.hid hs
                    have PC := Lib.hid ht
                    clear hs ht
                    obtain ⟨t, ht⟩ : ∃ t, (decide (iC ≤ jG) && les a (gt mG iC) (gt mG lo)) = t := ⟨_, rfl⟩
                    have TC := Lib.hid ht
                    clear ht
                    go_upto_region 13 with fail
                    go_cut [67] from 59 to 68 (fun s wx => s = .bool t ∧ LS b o a g cap lo hi w l wx mG)
                    case first =>
                      by_cases ci : iC ≤ jG
                      · have d1 : decide (iC ≤ jG) = true := by simp [ci]
                        have C := Lib.hid (less_at b o a g cap mG iC lo t _ SC.out.r (by skip; have := LG.out; have := HL.out; omega) (by have := LG.out; have := HL.out; omega) (by have := TC.out; simpa [ci] using this))
                        go_wp2_with fail
                        refine C.out.mono ?_
                        rintro _ wq ⟨rfl, hw⟩
                        have SQ := Lib.hid (SC.out.later hw)
                        clear hw
                        go_wp2_with fail
                        go_meet
                        case rel => exact ⟨rfl, SQ.out⟩
                      · have d1 : decide (iC ≤ jG) = false := by simp; omega
                        have tf : t = false := by have := TC.out; simp [ci] at this; exact this
                        go_wp2_with fail
                        go_meet
                        case rel => exact ⟨by rw [tf], SC.out⟩
                    case rest =>
                      obtain ⟨rfl, hs⟩ := hcut
                      have SCc := Lib.hid hs
                      clear hs
                      cases t with
                      | true =>
                        have q5 : IntKind.i64.wrap ((iC : Int) + 1) = ((iC + 1 : Nat) : Int) := by skip; simp [IntKind.wrap_i64]; omega
                        go_wp2_with fail
                        have T := TC.out
                        simp only [Bool.and_eq_true, decide_eq_true_eq] at T
                        exact ⟨⟨iC + 1, by first | rfl | go_num, by omega, by omega, SCc.out, PC.out.up T.2⟩, by simp [intOf]; omega⟩
                      | false =>
                        have EC : Hid (iC ≤ jG → les a (gt mG iC) (gt mG lo) = false) := (fun c => by have := TC.out; simpa [c] using this : iC ≤ jG → les a (gt mG iC) (gt mG lo) = false)
                        go_wp2_with fail
                        go_loopw [11] (fun s11 wr => ∃ j : Nat, s11 = .int .i64 j ∧ lo ≤ j ∧ iC ≤ j + 1 ∧ (j < hi ∧ j ≤ jG) ∧ LS b o a g cap lo hi w l wr mG ∧ Pt a lo hi iC j mG) (fun s11 _ => (intOf s11).toNat)
                        case atStart => exact ⟨jG, rfl, by skip; omega, by skip; omega, ⟨by skip; omega, Nat.le_refl _⟩, SCc.out, PC.out⟩
                        case round =>
                          obtain ⟨jD, rfl, hjD0, hjD1, hjD2, hs, ht⟩ := hrel
                          have SD := Lib.hid hs
                          have PD := Lib.hid ht
                          clear hs ht
                          obtain ⟨t, ht⟩ : ∃ t, (decide (iC ≤ jD) && !les a (gt mG jD) (gt mG lo)) = t := ⟨_, rfl⟩
                          have TD := Lib.hid ht
                          clear ht
                          go_upto_region 15 with fail
                          go_cut [79] from 70 to 80 (fun s wx => s = .bool t ∧ LS b o a g cap lo hi w l wx mG)
                          case first =>
                            by_cases ci : iC ≤ jD
                            · have d1 : decide (iC ≤ jD) = true := by simp [ci]
                              obtain ⟨u, hu⟩ : ∃ u, les a (gt mG jD) (gt mG lo) = u := ⟨_, rfl⟩
                              have C := Lib.hid (less_at b o a g cap mG jD lo u _ SD.out.r (by skip; have := LG.out; have := HL.out; omega) (by have := LG.out; have := HL.out; omega) hu)
                              have tu : Hid (t = !u) := (by have := TD.out; rw [hu] at this; simpa [ci] using this.symm : t = !u)
                              clear hu
                              go_wp2_with fail
                              refine C.out.mono ?_
                              rintro _ wq ⟨rfl, hw⟩
                              have SQ := Lib.hid (SD.out.later hw)
                              clear hw
                              go_wp2_with fail
                              go_meet
                              case rel => exact ⟨by rw [tu.out], SQ.out⟩
                            · have d1 : decide (iC ≤ jD) = false := by simp; omega
                              have tf : t = false := by have := TD.out; simp [ci] at this; exact this
                              go_wp2_with fail
                              go_meet
                              case rel => exact ⟨by rw [tf], SD.out⟩
                          case rest =>
                            obtain ⟨rfl, hs⟩ := hcut
                            have SDc := Lib.hid hs
                            clear hs
                            cases t with
                            | true =>
                              have T := TD.out
                              simp only [Bool.and_eq_true, decide_eq_true_eq, Bool.not_eq_true'] at T
                              have TT := Lib.hid T
                              have hjp : iC ≤ jD := T.1
                              clear T
                              obtain ⟨jp, rfl⟩ : ∃ jp, jD = jp + 1 := ⟨jD - 1, by skip; omega⟩
                              have q5 : IntKind.i64.wrap (((jp + 1 : Nat) : Int) - 1) = (jp : Int) := by simp [IntKind.wrap_i64]; omega
                              go_wp2_with fail
                              exact ⟨⟨jp, by first | rfl | go_num, by skip; omega, by omega, by omega, SDc.out, PD.out.down TT.out.2⟩, by simp [intOf] <;> omega⟩
                            | false =>
                              have ED : Hid (iC ≤ jD → les a (gt mG jD) (gt mG lo) = true) := (fun c => by have := TD.out; simpa [c] using this : iC ≤ jD → les a (gt mG jD) (gt mG lo) = true)
                              by_cases cc : jD < iC
                              · have d3 : decide (jD < iC) = true := by simp [cc]
                                go_wp2_with fail
                                refine (swap_at b o a g cap lo hi mG jD lo _ SDc.out.r (by have := LG.out; have := HL.out; omega) (by skip; omega) (by skip; omega) (Nat.le_refl _) hlh).mono ?_
                                rintro _ wz ⟨rfl, hz⟩
                                have SZ := Lib.hid (SDc.out.trans hz)
                                clear hz
                                go_wp2_with fail
                                exact bodyPost_ret (v := .tuple #[.int .i64 jD, .bool false]) (by simp [results, Tryz.results86, go_sem]) rfl ⟨jD, false, rfl, _, SZ.out, PD.out.done (by skip; omega) (by skip; omega) (by skip; omega) (by have := LG.out; have := HL.out; omega)⟩
                              · have d3 : decide (jD < iC) = false := by simp; omega
                                go_wp2_with fail
                                have hij : iC < jD := by
                                  have e1 := EC.out (by omega)
                                  have e2 := ED.out (by omega)
                                  by_cases c : iC = jD
                                  · rw [c, e2] at e1; cases e1
                                  · omega
                                obtain ⟨jm, hjm⟩ : ∃ jm, jD = jm + 1 := ⟨jD - 1, by skip; omega⟩
                                have q6 : IntKind.i64.wrap ((jD : Int) - 1) = (jm : Int) := by simp [IntKind.wrap_i64]; omega
                                have q7 : IntKind.i64.wrap ((iC : Int) + 1) = ((iC + 1 : Nat) : Int) := by simp [IntKind.wrap_i64]; skip; omega
                                have PN : Hid (Pt a lo hi (iC + 1) jm (swp mG iC jD)) := (by have P := PD.out; have e1 := EC.out (by omega); have e2 := ED.out (by omega); rw [hjm] at P e2 hij ⊢; exact P.swap (by skip; omega) (by omega) (by omega) (by have := LG.out; have := HL.out; omega) e1 e2 : Pt a lo hi (iC + 1) jm (swp mG iC jD))
                                refine (swap_at b o a g cap lo hi mG iC jD _ SDc.out.r (by have := LG.out; have := HL.out; omega) (by skip; omega) (by skip; omega) (by skip; omega) (by skip; omega)).mono ?_
                                rintro _ wz ⟨rfl, hz⟩
                                have SN := Lib.hid (SDc.out.trans hz)
                                have LN := Lib.hid (SDc.out.trans hz).len
                                clear hz
                                obtain ⟨mn, hmn⟩ : ∃ mn, swp mG iC jD = mn := ⟨_, rfl⟩
                                rw [hmn] at SN LN PN
                                obtain ⟨iN, hin⟩ : ∃ iN, iC + 1 = iN := ⟨_, rfl⟩
                                have NI := Lib.hid hin
                                have NJ := Lib.hid hjm
                                rw [hin] at PN q7
                                clear hjm hmn hin
                                go_wp2_with fail
                                exact ⟨⟨iN, jm, mn, rfl, rfl, by have := NI.out; omega, by have := NI.out; have := NJ.out; omega, by have := NJ.out; omega, by have := NI.out; have := NJ.out; omega, SN.out, PN.out⟩, by have := NI.out; have := NJ.out; simp [intOf]; omega⟩
end QQ
end Go.Proofs.YtlopijcpnfkcgaaGreat

/- sort.partialInsertionSort at the queue's line. -/
namespace Go.Proofs.YtlopijcpnfkcgaaGreat
namespace QQ
open Go.RowKit
set_option linter.unusedSimpArgs false

/-- the one before lo, if there is one, does not come behind those from lo to hi. -/
def Bl (a : Int) (lo hi : Nat) (l : List Wt) : Prop := 0 < lo → ∀ k, lo ≤ k → k < hi → les a (gt l k) (gt l (lo - 1)) = false
theorem Bl.perm {a : Int} {lo hi : Nat} {l m : List Wt} (h : Bl a lo hi l) (p : PI lo hi l m) : Bl a lo hi m := fun h0 k k0 k1 => by
  rw [p.out (lo - 1) (by omega)]
  exact p.all (fun x => les a x (gt l (lo - 1)) = false) (fun k a b => h h0 k a b) k k0 k1
theorem Srtd.snoc {a : Int} {lo i : Nat} {m : List Wt} (h : Srtd a lo i m) (hi : lo < i) (e : les a (gt m i) (gt m (i - 1)) = false) : Srtd a lo (i + 1) m := fun p q h0 h1 h2 => by
  by_cases c : q = i
  · subst c
    by_cases c2 : p = q - 1
    · subst c2; exact e
    · exact les_neg (h p (q - 1) h0 (by omega) (by omega)) e
  · exact h p q h0 h1 (by omega)
theorem Srtd.same {a : Int} {lo i : Nat} {m n : List Wt} (h : Srtd a lo i m) (e : ∀ k, k < i → gt n k = gt m k) : Srtd a lo i n := fun p q h0 h1 h2 => by
  rw [e p (by omega), e q h2]; exact h p q h0 h1 h2
theorem ins_swap {a : Int} {lo i : Nat} {m : List Wt} (h : Srtd a lo (i + 1) m) (hm : i + 1 < m.length) : Ins a lo i i (swp m (i + 1) i) := fun p q h0 h1 h2 h3 => by
  have S := swp_gt (l := m) (i := i + 1) (j := i) (by omega) (by omega)
  rw [S p, S q, if_neg (by omega), if_neg (by omega), if_neg (by omega), if_neg (by omega)]
  exact h p q h0 h1 (by omega)

set_option maxHeartbeats 2000000 in
set_option maxRecDepth 100000 in
theorem partial_is (b o : Nat) (a : Int) (g cap lo hi : Nat) (l : List Wt) (w : World) (h : LR b o a g cap w l) (hlh : lo < hi) (hh : hi ≤ l.length) (hsz : l.length ≤ 1000000) (hbl : Bl a lo hi l) :
    Calls Tryz.prog 84 #[.iface 109 (.pointer (some ⟨b, o, none⟩)), .int .i64 lo, .int .i64 hi] w fun e w' => ∃ t : Bool, e = .returned (.bool t) ∧ ∃ m, LS b o a g cap lo hi w l w' m ∧ (t = true → Srtd a lo hi m) := by
  have H := Lib.hid h
  have HL := Lib.hid (And.intro hh hsz)
  have BL := Lib.hid hbl
  have mL := sl_less b o
  have mS := sl_swap b o
  have hb1 : hi ≤ 1000000 := by omega
  have q0 : IntKind.i64.wrap ((lo : Int) + 1) = ((lo + 1 : Nat) : Int) := by simp [IntKind.wrap_i64]; omega
  have q00 : IntKind.i64.wrap ((hi : Int) - (lo : Int)) = (hi : Int) - (lo : Int) := by simp [IntKind.wrap_i64]; omega
  clear h hh hsz hbl
  go_enter Tryz.func84, Tryz.ntmps84
  go_wp2_with fail
  go_loopw [7, 8] (fun s7 s8 wr => ∃ (i s : Nat) (m : List Wt), s7 = .int .i64 i ∧ s8 = .int .i64 s ∧ lo + 1 ≤ i ∧ i ≤ hi ∧ s ≤ 5 ∧ LS b o a g cap lo hi w l wr m ∧ Srtd a lo i m) (fun _ s8 _ => 5 - (intOf s8).toNat)
  case atStart => exact ⟨lo + 1, 0, l, by first | rfl | go_num, rfl, Nat.le_refl _, by omega, by omega, LS.start H.out, Srtd.small a (Nat.le_refl _) l⟩
  case round =>
    obtain ⟨i, s, m, rfl, rfl, hi0, hi1, hs5, hs, ht⟩ := hrel
    have S := Lib.hid hs
    have T := Lib.hid ht
    have ML := Lib.hid hs.len
    clear hs ht
    by_cases cs : s < 5
    · have d0 : decide ((s : Int) < 5) = true := by simp; omega
      have d0n : decide (s < 5) = true := by simp [cs]
      have qs : IntKind.i64.wrap ((s : Int) + 1) = ((s + 1 : Nat) : Int) := by simp [IntKind.wrap_i64]; omega
      go_wp2_with fail
      go_loopw [7] (fun s7 wi => ∃ i : Nat, s7 = .int .i64 i ∧ lo + 1 ≤ i ∧ i ≤ hi ∧ LS b o a g cap lo hi w l wi m ∧ Srtd a lo i m) (fun s7 _ => hi - (intOf s7).toNat)
      case atStart => exact ⟨i, rfl, hi0, hi1, S.out, T.out⟩
      case round =>
        obtain ⟨i, rfl, hi0, hi1, hs, ht⟩ := hrel
        have SI := Lib.hid hs
        have TI := Lib.hid ht
        clear hs ht
        obtain ⟨k, rfl⟩ : ∃ k, i = k + 1 := ⟨i - 1, by omega⟩
        have q1 : IntKind.i64.wrap (((k + 1 : Nat) : Int) - 1) = (k : Int) := by simp [IntKind.wrap_i64]; omega
        have q3 : IntKind.i64.wrap (((k + 1 : Nat) : Int) - (lo : Int)) = ((k + 1 : Nat) : Int) - (lo : Int) := by simp [IntKind.wrap_i64]; omega
        have q4 : IntKind.i64.wrap ((hi : Int) - ((k + 1 : Nat) : Int)) = (hi : Int) - ((k + 1 : Nat) : Int) := by simp [IntKind.wrap_i64]; omega
        obtain ⟨t, ht⟩ : ∃ t, (decide (k + 1 < hi) && !les a (gt m (k + 1)) (gt m k)) = t := ⟨_, rfl⟩
        have TT := Lib.hid ht
        clear ht
        obtain ⟨i, hik⟩ : ∃ i, k + 1 = i := ⟨_, rfl⟩
        have IK := Lib.hid hik
        rw [hik] at q1 q3 q4 hi0 hi1 TI TT ⊢
        have q2 : IntKind.i64.wrap ((i : Int) + 1) = ((i + 1 : Nat) : Int) := by simp [IntKind.wrap_i64]; omega
        clear hik
        go_upto_region 5 with fail
        go_cut [27] from 17 to 28 (fun s wx => s = .bool t ∧ LS b o a g cap lo hi w l wx m)
        case first =>
          by_cases ci : i < hi
          · have d1 : decide (i < hi) = true := by simp [ci]
            obtain ⟨u, hu⟩ : ∃ u, les a (gt m i) (gt m k) = u := ⟨_, rfl⟩
            have C := Lib.hid (less_at b o a g cap m i k u _ SI.out.r (by have := ML.out; have := HL.out; omega) (by have := ML.out; have := HL.out; have := IK.out; omega) hu)
            have tu : Hid (t = !u) := (by have := TT.out; rw [hu] at this; simpa [ci] using this.symm : t = !u)
            clear hu
            go_wp2_with fail
            refine C.out.mono ?_
            rintro _ wq ⟨rfl, hw⟩
            have SQ := Lib.hid (SI.out.later hw)
            clear hw
            go_wp2_with fail
            go_meet
            case rel => exact ⟨by rw [tu.out], SQ.out⟩
          · have d1 : decide (i < hi) = false := by simp; omega
            have tf : t = false := by have := TT.out; simp [ci] at this; exact this
            go_wp2_with fail
            go_meet
            case rel => exact ⟨by rw [tf], SI.out⟩
        case rest =>
          obtain ⟨rfl, hs⟩ := hcut
          have SC := Lib.hid hs
          clear hs
          cases t with
          | true =>
            go_wp2_with fail
            have T2 := TT.out
            simp only [Bool.and_eq_true, decide_eq_true_eq, Bool.not_eq_true'] at T2
            have hik := IK.out
            exact ⟨⟨i + 1, by first | rfl | go_num, by omega, by omega, SC.out, TI.out.snoc (by omega) (by rw [show i - 1 = k by omega]; exact T2.2)⟩, by simp [intOf]; omega⟩
          | false =>
            have EE : Hid (i < hi → les a (gt m i) (gt m k) = true) := (fun c => by have := TT.out; simpa [c] using this : i < hi → les a (gt m i) (gt m k) = true)
            by_cases ce : i = hi
            · subst ce
              have d2 : ((i : Int) == (i : Int)) = true := by simp
              go_wp2_with fail
              go_ret
              exact ⟨true, rfl, m, SC.out, fun _ => TI.out⟩
            · have d2 : ((i : Int) == (hi : Int)) = false := by simp; omega
              by_cases c50 : (hi : Int) - (lo : Int) < 50
              · have d3 : decide ((hi : Int) - (lo : Int) < 50) = true := by simp [c50]
                go_wp2_with fail
                go_ret
                exact ⟨false, rfl, m, SC.out, fun e => by cases e⟩
              · have d3 : decide ((hi : Int) - (lo : Int) < 50) = false := by simp; omega
                have hih : i < hi := by omega
                have I0 := Lib.hid (show Ins a lo k k (swp m i k) from by have := IK.out; subst this; exact ins_swap TI.out (by have := ML.out; have := HL.out; omega))
                have W := Lib.hid (fun w h => swap_at b o a g cap lo hi m i k w h (by have := ML.out; have := HL.out; omega) (by omega) hih (by have := IK.out; omega) (by have := IK.out; omega))
                go_wp2_with fail
                refine (W.out _ SC.out.r).mono ?_
                rintro _ wz ⟨rfl, hz⟩
                have SZ := Lib.hid (SC.out.trans hz)
                have LZ := Lib.hid (SC.out.trans hz).len
                clear hz
                obtain ⟨mz, hmz⟩ : ∃ mz, swp m i k = mz := ⟨_, rfl⟩
                rw [hmz] at SZ LZ I0
                clear hmz
                by_cases cl : (2 : Int) ≤ (i : Int) - (lo : Int)
                · have d4 : decide ((2 : Int) ≤ (i : Int) - (lo : Int)) = true := by simp [cl]
                  go_wp2_with fail
                  go_loopw [9] (fun s9 wj => ∃ (j : Nat) (n : List Wt), s9 = .int .i64 j ∧ lo ≤ j ∧ j ≤ k ∧ LS b o a g cap lo hi w l wj n ∧ Ins a lo k j n) (fun s9 _ => (intOf s9).toNat)
                  case atStart => exact ⟨k, mz, rfl, by have := IK.out; omega, Nat.le_refl _, SZ.out, I0.out⟩
                  case round =>
                    obtain ⟨j, n, rfl, hj0, hj1, hs, ht⟩ := hrel
                    have SL := Lib.hid hs
                    have TL := Lib.hid ht
                    have NL := Lib.hid hs.len
                    clear hs ht
                    by_cases cj : j = 0
                    · have TE : Hid (Srtd a lo i n) := (by
                        have e1 := IK.out
                        have e2 : j = lo := by omega
                        subst e2; subst e1; exact TL.out.low : Srtd a lo i n)
                      have d6 : decide ((1 : Int) ≤ (j : Int)) = false := by simp; omega
                      have d6n : decide (1 ≤ j) = false := by simp; omega
                      clear cj
                      by_cases cr : (2 : Int) ≤ (hi : Int) - (i : Int)
                      · have d5 : decide ((2 : Int) ≤ (hi : Int) - (i : Int)) = true := by simp [cr]
                        go_wp2_with fail
                        go_loopw [10] (fun s10 wj => ∃ (j : Nat) (n : List Wt), s10 = .int .i64 j ∧ i + 1 ≤ j ∧ j ≤ hi ∧ LS b o a g cap lo hi w l wj n ∧ Srtd a lo i n) (fun s10 _ => hi - (intOf s10).toNat)
                        case atStart => exact ⟨i + 1, n, by first | rfl | go_num, Nat.le_refl _, by omega, SL.out, TE.out⟩
                        case round =>
                          obtain ⟨j, n, rfl, hj0, hj1, hs, ht⟩ := hrel
                          have SJa := Lib.hid hs
                          have TJa := Lib.hid ht
                          have NJa := Lib.hid hs.len
                          clear hs ht
                          by_cases cj : j < hi
                          · have d6 : decide (j < hi) = true := by simp [cj]
                            obtain ⟨jp, rfl⟩ : ∃ jp, j = jp + 1 := ⟨j - 1, by omega⟩
                            have q5 : IntKind.i64.wrap (((jp + 1 : Nat) : Int) - 1) = (jp : Int) := by simp [IntKind.wrap_i64]; omega
                            have q6 : IntKind.i64.wrap (((jp + 1 : Nat) : Int) + 1) = ((jp + 2 : Nat) : Int) := by simp [IntKind.wrap_i64]; omega
                            obtain ⟨u, hu⟩ : ∃ u, les a (gt n (jp + 1)) (gt n jp) = u := ⟨_, rfl⟩
                            have C := Lib.hid (less_at b o a g cap n (jp + 1) jp u _ SJa.out.r (by have := NJa.out; have := HL.out; omega) (by have := NJa.out; have := HL.out; omega) hu)
                            have W2 := Lib.hid (fun w h => swap_at b o a g cap lo hi n (jp + 1) jp w h (by have := NJa.out; have := HL.out; omega) (by omega) cj (by omega) (by omega))
                            have SS : Hid (Srtd a lo i (swp n (jp + 1) jp)) := (TJa.out.same (fun q hq => by rw [swp_gt (by have := NJa.out; have := HL.out; omega) (by have := NJa.out; have := HL.out; omega), if_neg (by omega), if_neg (by omega)]) : Srtd a lo i (swp n (jp + 1) jp))
                            obtain ⟨j, hj⟩ : ∃ j, jp + 1 = j := ⟨_, rfl⟩
                            have HJ := Lib.hid hj
                            rw [hj] at C W2 SS q5 q6 d6 ⊢
                            clear hu hj
                            cases u with
                            | false =>
                              go_wp2_with fail
                              refine C.out.mono ?_
                              rintro _ wq ⟨rfl, hw⟩
                              have SQ := Lib.hid (SJa.out.later hw)
                              clear hw
                              go_wp2_with fail
                              exact ⟨⟨i, s + 1, _, rfl, by first | rfl | go_num, hi0, hi1, by omega, SQ.out, TJa.out⟩, by simp [intOf]; omega⟩
                            | true =>
                              go_wp2_with fail
                              refine C.out.mono ?_
                              rintro _ wq ⟨rfl, hw⟩
                              have SQ := Lib.hid (SJa.out.later hw)
                              clear hw
                              go_wp2_with fail
                              refine (W2.out _ SQ.out.r).mono ?_
                              rintro _ wv ⟨rfl, hz⟩
                              have SV := Lib.hid (SQ.out.trans hz)
                              clear hz
                              go_wp2_with fail
                              have hj := HJ.out
                              go_roundw
                              case rel => exact ⟨jp + 2, _, by first | rfl | go_num, by omega, by omega, SV.out, SS.out⟩
                              case measure => simp [intOf]; omega
                          · have d6 : decide (j < hi) = false := by simp; omega
                            go_wp2_with fail
                            exact ⟨⟨i, s + 1, _, rfl, by first | rfl | go_num, hi0, hi1, by omega, SJa.out, TJa.out⟩, by simp [intOf]; omega⟩
                      · have d5 : decide ((2 : Int) ≤ (hi : Int) - (i : Int)) = false := by simp; omega
                        go_wp2_with fail
                        exact ⟨⟨i, s + 1, _, rfl, by first | rfl | go_num, hi0, hi1, by omega, SL.out, TE.out⟩, by simp [intOf]; omega⟩
                    · obtain ⟨jp, rfl⟩ : ∃ jp, j = jp + 1 := ⟨j - 1, by omega⟩
                      have d6 : decide ((1 : Int) ≤ ((jp + 1 : Nat) : Int)) = true := by simp; omega
                      have d6n : decide (1 ≤ jp + 1) = true := by simp
                      have q7 : IntKind.i64.wrap (((jp + 1 : Nat) : Int) - 1) = (jp : Int) := by simp [IntKind.wrap_i64]; have := IK.out; omega
                      obtain ⟨u, hu⟩ : ∃ u, les a (gt n (jp + 1)) (gt n jp) = u := ⟨_, rfl⟩
                      have C := Lib.hid (less_at b o a g cap n (jp + 1) jp u _ SL.out.r (by have := NL.out; have := HL.out; have := IK.out; omega) (by have := NL.out; have := HL.out; have := IK.out; omega) hu)
                      have HU := Lib.hid hu
                      have hjp1 : jp + 1 ≤ 1000000 := by have := IK.out; omega
                      obtain ⟨j, hj⟩ : ∃ j, jp + 1 = j := ⟨_, rfl⟩
                      have HJ := Lib.hid hj
                      rw [hj] at C HU q7 d6 d6n hj0 hj1 TL hjp1 ⊢
                      clear hu hj
                      cases u with
                      | false =>
                        have TE : Hid (Srtd a lo i n) := (by
                          have e1 := IK.out
                          have e2 := HJ.out
                          by_cases c : j = lo
                          · subst c; subst e1; exact TL.out.low
                          · subst e1; exact TL.out.stop (by omega) hj1 (by rw [show j - 1 = jp by omega]; exact HU.out) : Srtd a lo i n)
                        go_wp2_with fail
                        refine C.out.mono ?_
                        rintro _ wq ⟨rfl, hw⟩
                        have SQ := Lib.hid (SL.out.later hw)
                        clear hw
                        by_cases cr : (2 : Int) ≤ (hi : Int) - (i : Int)
                        · have d5 : decide ((2 : Int) ≤ (hi : Int) - (i : Int)) = true := by simp [cr]
                          go_wp2_with fail
                          go_loopw [10] (fun s10 wj => ∃ (j : Nat) (n : List Wt), s10 = .int .i64 j ∧ i + 1 ≤ j ∧ j ≤ hi ∧ LS b o a g cap lo hi w l wj n ∧ Srtd a lo i n) (fun s10 _ => hi - (intOf s10).toNat)
                          case atStart => exact ⟨i + 1, n, by first | rfl | go_num, Nat.le_refl _, by omega, SQ.out, TE.out⟩
                          case round =>
                            obtain ⟨j, n, rfl, hj0, hj1, hs, ht⟩ := hrel
                            have SJb := Lib.hid hs
                            have TJb := Lib.hid ht
                            have NJb := Lib.hid hs.len
                            clear hs ht
                            by_cases cj : j < hi
                            · have d6 : decide (j < hi) = true := by simp [cj]
                              obtain ⟨jp, rfl⟩ : ∃ jp, j = jp + 1 := ⟨j - 1, by omega⟩
                              have q5 : IntKind.i64.wrap (((jp + 1 : Nat) : Int) - 1) = (jp : Int) := by simp [IntKind.wrap_i64]; omega
                              have q6 : IntKind.i64.wrap (((jp + 1 : Nat) : Int) + 1) = ((jp + 2 : Nat) : Int) := by simp [IntKind.wrap_i64]; omega
                              obtain ⟨u, hu⟩ : ∃ u, les a (gt n (jp + 1)) (gt n jp) = u := ⟨_, rfl⟩
                              have C := Lib.hid (less_at b o a g cap n (jp + 1) jp u _ SJb.out.r (by have := NJb.out; have := HL.out; omega) (by have := NJb.out; have := HL.out; omega) hu)
                              have W2 := Lib.hid (fun w h => swap_at b o a g cap lo hi n (jp + 1) jp w h (by have := NJb.out; have := HL.out; omega) (by omega) cj (by omega) (by omega))
                              have SS : Hid (Srtd a lo i (swp n (jp + 1) jp)) := (TJb.out.same (fun q hq => by rw [swp_gt (by have := NJb.out; have := HL.out; omega) (by have := NJb.out; have := HL.out; omega), if_neg (by omega), if_neg (by omega)]) : Srtd a lo i (swp n (jp + 1) jp))
                              obtain ⟨j, hj⟩ : ∃ j, jp + 1 = j := ⟨_, rfl⟩
                              have HJ := Lib.hid hj
                              rw [hj] at C W2 SS q5 q6 d6 ⊢
                              clear hu hj
                              cases u with
                              | false =>
                                go_wp2_with fail
                                refine C.out.mono ?_
                                rintro _ wq ⟨rfl, hw⟩
                                have SQ := Lib.hid (SJb.out.later hw)
                                clear hw
                                go_wp2_with fail
                                exact ⟨⟨i, s + 1, _, rfl, by first | rfl | go_num, hi0, hi1, by omega, SQ.out, TJb.out⟩, by simp [intOf]; omega⟩
                              | true =>
                                go_wp2_with fail
                                refine C.out.mono ?_
                                rintro _ wq ⟨rfl, hw⟩
                                have SQ := Lib.hid (SJb.out.later hw)
                                clear hw
                                go_wp2_with fail
                                refine (W2.out _ SQ.out.r).mono ?_
                                rintro _ wv ⟨rfl, hz⟩
                                have SV := Lib.hid (SQ.out.trans hz)
                                clear hz
                                go_wp2_with fail
                                have hj := HJ.out
                                go_roundw
                                case rel => exact ⟨jp + 2, _, by first | rfl | go_num, by omega, by omega, SV.out, SS.out⟩
                                case measure => simp [intOf]; omega
                            · have d6 : decide (j < hi) = false := by simp; omega
                              go_wp2_with fail
                              exact ⟨⟨i, s + 1, _, rfl, by first | rfl | go_num, hi0, hi1, by omega, SJb.out, TJb.out⟩, by simp [intOf]; omega⟩
                        · have d5 : decide ((2 : Int) ≤ (hi : Int) - (i : Int)) = false := by simp; omega
                          go_wp2_with fail
                          exact ⟨⟨i, s + 1, _, rfl, by first | rfl | go_num, hi0, hi1, by omega, SQ.out, TE.out⟩, by simp [intOf]; omega⟩
                      | true =>
                        have hne : lo < j := by
                          by_cases c : j = lo
                          · exfalso
                            have e2 := HJ.out
                            have := (BL.out.perm SL.out.p) (by omega) j (by omega) (by have := IK.out; omega)
                            rw [show lo - 1 = jp by omega, HU.out] at this
                            cases this
                          · omega
                        have TS : Hid (Ins a lo k jp (swp n j jp)) := (by
                          have e2 := HJ.out
                          have := TL.out.step hne hj1 (by have := NL.out; have := HL.out; have := IK.out; omega) (by rw [show j - 1 = jp by omega]; exact HU.out)
                          rwa [show j - 1 = jp by omega] at this : Ins a lo k jp (swp n j jp))
                        have W2 := Lib.hid (fun w h => swap_at b o a g cap lo hi n j jp w h (by have := NL.out; have := HL.out; omega) (by omega) (by have := IK.out; omega) (by have := HJ.out; omega) (by have := HJ.out; have := IK.out; omega))
                        go_wp2_with fail
                        refine C.out.mono ?_
                        rintro _ wq ⟨rfl, hw⟩
                        have SQ := Lib.hid (SL.out.later hw)
                        clear hw
                        go_wp2_with fail
                        refine (W2.out _ SQ.out.r).mono ?_
                        rintro _ wv ⟨rfl, hz⟩
                        have SV := Lib.hid (SQ.out.trans hz)
                        clear hz
                        go_wp2_with fail
                        have hj := HJ.out
                        exact ⟨⟨jp, _, by first | rfl | go_num, by omega, by omega, SV.out, TS.out⟩, by simp [intOf]; omega⟩
                · have d4 : decide ((2 : Int) ≤ (i : Int) - (lo : Int)) = false := by simp; omega
                  have TE : Hid (Srtd a lo i mz) := (Srtd.small a (by have := IK.out; omega) mz : Srtd a lo i mz)
                  by_cases cr : (2 : Int) ≤ (hi : Int) - (i : Int)
                  · have d5 : decide ((2 : Int) ≤ (hi : Int) - (i : Int)) = true := by simp [cr]
                    go_wp2_with fail
                    go_loopw [10] (fun s10 wj => ∃ (j : Nat) (n : List Wt), s10 = .int .i64 j ∧ i + 1 ≤ j ∧ j ≤ hi ∧ LS b o a g cap lo hi w l wj n ∧ Srtd a lo i n) (fun s10 _ => hi - (intOf s10).toNat)
                    case atStart => exact ⟨i + 1, mz, by first | rfl | go_num, Nat.le_refl _, by omega, SZ.out, TE.out⟩
                    case round =>
                      obtain ⟨j, n, rfl, hj0, hj1, hs, ht⟩ := hrel
                      have SJc := Lib.hid hs
                      have TJc := Lib.hid ht
                      have NJc := Lib.hid hs.len
                      clear hs ht
                      by_cases cj : j < hi
                      · have d6 : decide (j < hi) = true := by simp [cj]
                        obtain ⟨jp, rfl⟩ : ∃ jp, j = jp + 1 := ⟨j - 1, by omega⟩
                        have q5 : IntKind.i64.wrap (((jp + 1 : Nat) : Int) - 1) = (jp : Int) := by simp [IntKind.wrap_i64]; omega
                        have q6 : IntKind.i64.wrap (((jp + 1 : Nat) : Int) + 1) = ((jp + 2 : Nat) : Int) := by simp [IntKind.wrap_i64]; omega
                        obtain ⟨u, hu⟩ : ∃ u, les a (gt n (jp + 1)) (gt n jp) = u := ⟨_, rfl⟩
                        have C := Lib.hid (less_at b o a g cap n (jp + 1) jp u _ SJc.out.r (by have := NJc.out; have := HL.out; omega) (by have := NJc.out; have := HL.out; omega) hu)
                        have W2 := Lib.hid (fun w h => swap_at b o a g cap lo hi n (jp + 1) jp w h (by have := NJc.out; have := HL.out; omega) (by omega) cj (by omega) (by omega))
                        have SS : Hid (Srtd a lo i (swp n (jp + 1) jp)) := (TJc.out.same (fun q hq => by rw [swp_gt (by have := NJc.out; have := HL.out; omega) (by have := NJc.out; have := HL.out; omega), if_neg (by omega), if_neg (by omega)]) : Srtd a lo i (swp n (jp + 1) jp))
                        obtain ⟨j, hj⟩ : ∃ j, jp + 1 = j := ⟨_, rfl⟩
                        have HJ := Lib.hid hj
                        rw [hj] at C W2 SS q5 q6 d6 ⊢
                        clear hu hj
                        cases u with
                        | false =>
                          go_wp2_with fail
                          refine C.out.mono ?_
                          rintro _ wq ⟨rfl, hw⟩
                          have SQ := Lib.hid (SJc.out.later hw)
                          clear hw
                          go_wp2_with fail
                          exact ⟨⟨i, s + 1, _, rfl, by first | rfl | go_num, hi0, hi1, by omega, SQ.out, TJc.out⟩, by simp [intOf]; omega⟩
                        | true =>
                          go_wp2_with fail
                          refine C.out.mono ?_
                          rintro _ wq ⟨rfl, hw⟩
                          have SQ := Lib.hid (SJc.out.later hw)
                          clear hw
                          go_wp2_with fail
                          refine (W2.out _ SQ.out.r).mono ?_
                          rintro _ wv ⟨rfl, hz⟩
                          have SV := Lib.hid (SQ.out.trans hz)
                          clear hz
                          go_wp2_with fail
                          have hj := HJ.out
                          go_roundw
                          case rel => exact ⟨jp + 2, _, by first | rfl | go_num, by omega, by omega, SV.out, SS.out⟩
                          case measure => simp [intOf]; omega
                      · have d6 : decide (j < hi) = false := by simp; omega
                        go_wp2_with fail
                        exact ⟨⟨i, s + 1, _, rfl, by first | rfl | go_num, hi0, hi1, by omega, SJc.out, TJc.out⟩, by simp [intOf]; omega⟩
                  · have d5 : decide ((2 : Int) ≤ (hi : Int) - (i : Int)) = false := by simp; omega
                    go_wp2_with fail
                    exact ⟨⟨i, s + 1, _, rfl, by first | rfl | go_num, hi0, hi1, by omega, SZ.out, TE.out⟩, by simp [intOf]; omega⟩
    · have d0 : decide ((s : Int) < 5) = false := by simp; omega
      have d0n : decide (s < 5) = false := by simp; omega
      go_wp2_with fail
      go_ret
      exact ⟨false, rfl, m, S.out, fun e => by cases e⟩
end QQ
end Go.Proofs.YtlopijcpnfkcgaaGreat
