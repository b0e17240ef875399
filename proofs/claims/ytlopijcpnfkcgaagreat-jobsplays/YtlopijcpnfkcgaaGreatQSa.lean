/- Sorting a list of jobs by exchanges: what the library's steps keep. Nothing of the program is named here. -/
import Derived.Test.YtlopijcpnfkcgaaGreatQHm
import Derived.Test.YtlopijcpnfkcgaaGreatQQd
namespace Go.Proofs.YtlopijcpnfkcgaaGreat
namespace QQ

/-- m is l, but for the places from lo to hi, where it holds the same jobs in some order. -/
structure PI (lo hi : Nat) (l m : List Wt) : Prop where
  out : ∀ k, (k < lo ∨ hi ≤ k) → gt m k = gt l k
  perm : m.Perm l
  all : ∀ P : Wt → Prop, (∀ k, lo ≤ k → k < hi → P (gt l k)) → ∀ k, lo ≤ k → k < hi → P (gt m k)
theorem PI.refl (lo hi : Nat) (l : List Wt) : PI lo hi l l := ⟨fun _ _ => rfl, List.Perm.refl _, fun _ h => h⟩
theorem PI.trans {lo hi : Nat} {l m n : List Wt} (h : PI lo hi l m) (g : PI lo hi m n) : PI lo hi l n :=
  ⟨fun k hk => (g.out k hk).trans (h.out k hk), g.perm.trans h.perm, fun P hp => g.all P (h.all P hp)⟩
theorem PI.swap {lo hi : Nat} {l : List Wt} {i j : Nat} (hh : hi ≤ l.length) (i0 : lo ≤ i) (i1 : i < hi) (j0 : lo ≤ j) (j1 : j < hi) : PI lo hi l (swp l i j) := by
  have S := swp_gt (l := l) (i := i) (j := j) (by omega) (by omega)
  refine ⟨fun k hk => by rw [S k, if_neg (by omega), if_neg (by omega)], swp_perm (by omega) (by omega), fun P hp k h0 h1 => ?_⟩
  rw [S k]
  by_cases c : k = j
  · rw [if_pos c]; exact hp i i0 i1
  · rw [if_neg c]
    by_cases c2 : k = i
    · rw [if_pos c2]; exact hp j j0 j1
    · rw [if_neg c2]; exact hp k h0 h1
theorem PI.mono {lo hi lo' hi' : Nat} {l m : List Wt} (h : PI lo hi l m) (h0 : lo' ≤ lo) (h1 : hi ≤ hi') : PI lo' hi' l m :=
  ⟨fun k hk => h.out k (by omega), h.perm, fun P hp k k0 k1 => by
    by_cases c : lo ≤ k ∧ k < hi
    · exact h.all P (fun k a b => hp k (by omega) (by omega)) k c.1 c.2
    · rw [h.out k (by omega)]; exact hp k k0 k1⟩
theorem PI.len {lo hi : Nat} {l m : List Wt} (h : PI lo hi l m) : m.length = l.length := h.perm.length_eq
/-- in order from lo to hi. -/
def Srtd (a : Int) (lo hi : Nat) (l : List Wt) : Prop := ∀ i j, lo ≤ i → i < j → j < hi → les a (gt l j) (gt l i) = false
theorem Srtd.small (a : Int) {lo hi : Nat} (h : hi ≤ lo + 1) (l : List Wt) : Srtd a lo hi l := fun i j h0 h1 h2 => by omega
/-- the first i in order but for the one at j, which has to go down. -/
def Ins (a : Int) (lo i j : Nat) (m : List Wt) : Prop := ∀ p q, lo ≤ p → p < q → q ≤ i → q ≠ j → les a (gt m q) (gt m p) = false
theorem Ins.start {a : Int} {lo i : Nat} {m : List Wt} (h : Srtd a lo i m) : Ins a lo i i m := fun p q h0 h1 h2 h3 => h p q h0 h1 (by omega)
theorem Ins.low {a : Int} {lo i : Nat} {m : List Wt} (h : Ins a lo i lo m) : Srtd a lo (i + 1) m := fun p q h0 h1 h2 => h p q h0 h1 (by omega) (by omega)
theorem Ins.stop {a : Int} {lo i j : Nat} {m : List Wt} (h : Ins a lo i j m) (hj : lo < j) (hi : j ≤ i) (e : les a (gt m j) (gt m (j - 1)) = false) : Srtd a lo (i + 1) m := fun p q h0 h1 h2 => by
  by_cases c : q = j
  · subst c
    by_cases c2 : p = q - 1
    · subst c2; exact e
    · exact les_neg (h p (q - 1) h0 (by omega) (by omega) (by omega)) e
  · exact h p q h0 h1 (by omega) c
theorem Ins.step {a : Int} {lo i j : Nat} {m : List Wt} (h : Ins a lo i j m) (hj : lo < j) (hi : j ≤ i) (hm : i < m.length) (e : les a (gt m j) (gt m (j - 1)) = true) : Ins a lo i (j - 1) (swp m j (j - 1)) := by
  have S := swp_gt (l := m) (i := j) (j := j - 1) (by omega) (by omega)
  intro p q h0 h1 h2 h3
  rw [S p, S q, if_neg h3]
  by_cases c : q = j
  · rw [if_pos c]
    by_cases c2 : p = j - 1
    · rw [if_pos c2]; exact les_asym e
    · rw [if_neg c2, if_neg (by omega)]; exact h p (j - 1) h0 (by omega) (by omega) (by omega)
  · rw [if_neg c]
    by_cases c2 : p = j - 1
    · rw [if_pos c2]; exact h j q (by omega) (by omega) h2 c
    · rw [if_neg c2]
      by_cases c3 : p = j
      · rw [if_pos c3]; exact h (j - 1) q (by omega) (by omega) h2 c
      · rw [if_neg c3]; exact h p q h0 h1 h2 c
/-- a heap with the greatest at its root, from place f on: below the places from lo on. -/
def MH (a : Int) (f lo hi : Nat) (l : List Wt) : Prop := ∀ k, 1 ≤ k → k < hi → lo ≤ (k - 1) / 2 → les a (gt l (f + (k - 1) / 2)) (gt l (f + k)) = false
structure MD (a : Int) (f lo hi r : Nat) (l : List Wt) : Prop where
  ok : ∀ k, 1 ≤ k → k < hi → lo ≤ (k - 1) / 2 → (k - 1) / 2 ≠ r → les a (gt l (f + (k - 1) / 2)) (gt l (f + k)) = false
  by' : ∀ k, 1 ≤ k → k < hi → (k - 1) / 2 = r → 1 ≤ r → lo ≤ (r - 1) / 2 → les a (gt l (f + (r - 1) / 2)) (gt l (f + k)) = false
theorem MD.start {a : Int} {f lo hi : Nat} {l : List Wt} (h : MH a f (lo + 1) hi l) : MD a f lo hi lo l :=
  ⟨fun k h0 h1 h2 h3 => h k h0 h1 (by omega), fun k h0 h1 h2 h3 h4 => by omega⟩
theorem MD.leaf {a : Int} {f lo hi r : Nat} {l : List Wt} (h : MD a f lo hi r l) (e : hi ≤ 2 * r + 1) : MH a f lo hi l := fun k h0 h1 h2 => h.ok k h0 h1 h2 (by omega)
structure MC (a : Int) (f hi r c : Nat) (l : List Wt) : Prop where
  lt : c < hi
  par : (c - 1) / 2 = r
  pos : 1 ≤ c
  top : ∀ k, 1 ≤ k → k < hi → (k - 1) / 2 = r → les a (gt l (f + c)) (gt l (f + k)) = false
theorem mc_one {a : Int} {f hi r : Nat} {l : List Wt} (h1 : 2 * r + 1 < hi) (h2 : hi ≤ 2 * r + 2) : MC a f hi r (2 * r + 1) l :=
  ⟨h1, by omega, by omega, fun k h0 hk hp => by obtain rfl : k = 2 * r + 1 := by omega
                                                exact les_irr _ _⟩
theorem mc_left {a : Int} {f hi r : Nat} {l : List Wt} (h2 : 2 * r + 2 < hi) (e : les a (gt l (f + (2 * r + 1))) (gt l (f + (2 * r + 2))) = false) : MC a f hi r (2 * r + 1) l :=
  ⟨by omega, by omega, by omega, fun k h0 hk hp => by
    rcases (show k = 2 * r + 1 ∨ k = 2 * r + 2 by omega) with rfl | rfl
    · exact les_irr _ _
    · exact e⟩
theorem mc_right {a : Int} {f hi r : Nat} {l : List Wt} (h2 : 2 * r + 2 < hi) (e : les a (gt l (f + (2 * r + 1))) (gt l (f + (2 * r + 2))) = true) : MC a f hi r (2 * r + 2) l :=
  ⟨by omega, by omega, by omega, fun k h0 hk hp => by
    rcases (show k = 2 * r + 1 ∨ k = 2 * r + 2 by omega) with rfl | rfl
    · exact les_asym e
    · exact les_irr _ _⟩
theorem MD.done {a : Int} {f lo hi r c : Nat} {l : List Wt} (h : MD a f lo hi r l) (m : MC a f hi r c l) (e : les a (gt l (f + r)) (gt l (f + c)) = false) : MH a f lo hi l := fun k h0 h1 h2 => by
  by_cases q : (k - 1) / 2 = r
  · rw [q]; exact les_neg (m.top k h0 h1 q) e
  · exact h.ok k h0 h1 h2 q
theorem MD.down {a : Int} {f lo hi r c : Nat} {l : List Wt} (h : MD a f lo hi r l) (m : MC a f hi r c l) (hh : f + hi ≤ l.length) (hr : lo ≤ r) (e : les a (gt l (f + r)) (gt l (f + c)) = true) : MD a f lo hi c (swp l (f + r) (f + c)) := by
  have hc := m.lt
  have hp := m.par
  have h1 := m.pos
  have S := swp_gt (l := l) (i := f + r) (j := f + c) (by omega) (by omega)
  refine ⟨fun k k0 k1 k2 k3 => ?_, fun k k0 k1 k2 _ _ => ?_⟩
  · rw [S (f + k), S (f + (k - 1) / 2), if_neg (show ¬ f + (k - 1) / 2 = f + c by omega)]
    by_cases c1 : k = c
    · subst c1; rw [if_pos (show f + (k - 1) / 2 = f + r by omega), if_pos rfl]; exact les_asym e
    · rw [if_neg (show ¬ f + k = f + c by omega)]
      by_cases c2 : k = r
      · subst c2; rw [if_neg (show ¬ f + (k - 1) / 2 = f + k by omega), if_pos rfl]
        exact h.by' c h1 hc hp k0 k2
      · rw [if_neg (show ¬ f + k = f + r by omega)]
        by_cases c3 : (k - 1) / 2 = r
        · rw [if_pos (show f + (k - 1) / 2 = f + r by omega)]; exact m.top k k0 k1 c3
        · rw [if_neg (show ¬ f + (k - 1) / 2 = f + r by omega)]; exact h.ok k k0 k1 k2 c3
  · rw [hp, S (f + r), S (f + k), if_neg (show ¬ f + r = f + c by omega), if_pos rfl, if_neg (show ¬ f + k = f + c by omega), if_neg (show ¬ f + k = f + r by omega), ← k2]
    exact h.ok k k0 k1 (by omega) (by omega)
/-- the root is the greatest. -/
theorem MH.root {a : Int} {f hi : Nat} {l : List Wt} (h : MH a f 0 hi l) : ∀ k, k < hi → les a (gt l f) (gt l (f + k)) = false := by
  intro k
  induction k using Nat.strongRecOn with
  | ind k ih =>
    intro hk
    by_cases c : k = 0
    · subst c; exact les_irr _ _
    · exact les_neg (h k (by omega) hk (Nat.zero_le _)) (ih ((k - 1) / 2) (by omega) (by omega))
/-- from i on all are in their places. -/
def Tail (a : Int) (f n i : Nat) (l : List Wt) : Prop := ∀ p q, p < q → q < n → i ≤ q → les a (gt l (f + q)) (gt l (f + p)) = false
theorem Tail.done {a : Int} {f n : Nat} {l : List Wt} (h : Tail a f n 0 l) : Srtd a f (f + n) l := fun i j h0 h1 h2 => by
  have := h (i - f) (j - f) (by omega) (by omega) (Nat.zero_le _)
  rwa [show f + (j - f) = j by omega, show f + (i - f) = i by omega] at this
theorem Tail.swap {a : Int} {f n i : Nat} {l : List Wt} (h : Tail a f n (i + 1) l) (m : MH a f 0 (i + 1) l) (hi : i < n) (hl : f + n ≤ l.length) : Tail a f n i (swp l f (f + i)) ∧ MD a f 0 i 0 (swp l f (f + i)) := by
  have S := swp_gt (l := l) (i := f) (j := f + i) (by omega) (by omega)
  have V : ∀ p, p ≤ i → ∃ p', p' ≤ i ∧ gt (swp l f (f + i)) (f + p) = gt l (f + p') := fun p hp => by
    rw [S (f + p)]
    by_cases c : f + p = f + i
    · exact ⟨0, Nat.zero_le _, by rw [if_pos c]; rfl⟩
    · rw [if_neg c]
      by_cases c2 : f + p = f
      · exact ⟨i, Nat.le_refl _, by rw [if_pos c2]⟩
      · exact ⟨p, hp, by rw [if_neg c2]⟩
  refine ⟨fun p q h0 h1 h2 => ?_, ⟨fun k k0 k1 k2 k3 => ?_, fun k k0 k1 k2 k3 => by omega⟩⟩
  · by_cases c : q = i
    · subst c
      obtain ⟨p', hp', e⟩ := V p (by omega)
      rw [e, S (f + q), if_pos rfl]
      exact m.root p' (by omega)
    · rw [S (f + q), if_neg (by omega), if_neg (by omega)]
      by_cases c2 : p ≤ i
      · obtain ⟨p', hp', e⟩ := V p c2
        rw [e]; exact h p' q (by omega) h1 (by omega)
      · rw [S (f + p), if_neg (by omega), if_neg (by omega)]; exact h p q h0 h1 (by omega)
  · rw [S (f + k), S (f + (k - 1) / 2), if_neg (by omega), if_neg (by omega), if_neg (by omega), if_neg (by omega)]
    exact m k k0 (by omega) k2
theorem Tail.perm {a : Int} {f n i : Nat} {l m : List Wt} (h : Tail a f n i l) (p : PI f (f + i) l m) : Tail a f n i m := fun x q h0 h1 h2 => by
  rw [p.out (f + q) (by omega)]
  by_cases c : x < i
  · exact p.all (fun z => les a (gt l (f + q)) z = false) (fun k k0 k1 => by
      have := h (k - f) q (by omega) h1 h2
      rwa [show f + (k - f) = k by omega] at this) (f + x) (by omega) (by omega)
  · rw [p.out (f + x) (by omega)]; exact h x q h0 h1 h2
end QQ
end Go.Proofs.YtlopijcpnfkcgaaGreat

/- sort.insertionSort, siftDown, heapSort, reverseRange at the queue's line. -/
namespace Go.Proofs.YtlopijcpnfkcgaaGreat
namespace QQ
open Go.RowKit
set_option linter.unusedSimpArgs false

/-- the line at hand, come of l at w by exchanges from lo to hi. -/
structure LS (b o : Nat) (a : Int) (g cap lo hi : Nat) (w : World) (l : List Wt) (x : World) (m : List Wt) : Prop where
  r : LR b o a g cap x m
  f : Frm (fun k => k = g) w x
  p : PI lo hi l m
theorem LS.start {b o : Nat} {a : Int} {g cap lo hi : Nat} {w : World} {l : List Wt} (h : LR b o a g cap w l) : LS b o a g cap lo hi w l w l := ⟨h, Frm.rfl' _ _, PI.refl _ _ _⟩
theorem LS.later {b o : Nat} {a : Int} {g cap lo hi : Nat} {w x y : World} {l m : List Wt} (h : LS b o a g cap lo hi w l x m) (k : Grw x y) : LS b o a g cap lo hi w l y m :=
  ⟨h.r.keep (k.frm (fun _ => False)) (fun e => e) (fun e => e), h.f.grw' k, h.p⟩
theorem LS.trans {b o : Nat} {a : Int} {g cap lo hi : Nat} {w x y : World} {l m n : List Wt} (h : LS b o a g cap lo hi w l x m) (k : LS b o a g cap lo hi x m y n) : LS b o a g cap lo hi w l y n :=
  ⟨k.r, h.f.trans k.f (fun _ e => Or.inl e), h.p.trans k.p⟩
theorem LS.mono {b o : Nat} {a : Int} {g cap lo hi lo' hi' : Nat} {w x : World} {l m : List Wt} (h : LS b o a g cap lo hi w l x m) (h0 : lo' ≤ lo) (h1 : hi ≤ hi') : LS b o a g cap lo' hi' w l x m := ⟨h.r, h.f, h.p.mono h0 h1⟩
theorem LS.len {b o : Nat} {a : Int} {g cap lo hi : Nat} {w x : World} {l m : List Wt} (h : LS b o a g cap lo hi w l x m) : m.length = l.length := h.p.len
theorem less_at (b o : Nat) (a : Int) (g cap : Nat) (l : List Wt) (i j : Nat) (t : Bool) (w : World) (h : LR b o a g cap w l) (hi : i < l.length) (hj : j < l.length) (e : les a (gt l i) (gt l j) = t) :
    Calls Tryz.prog 113 #[.pointer (some ⟨b, o, none⟩), .int .i64 i, .int .i64 j] w fun e w' => e = .returned (.bool t) ∧ Grw w w' := by
  rw [gt_at hi, gt_at hj] at e
  exact e ▸ line_less b o a g cap l i j w h hi hj
theorem swap_at (b o : Nat) (a : Int) (g cap lo hi : Nat) (l : List Wt) (i j : Nat) (w : World) (h : LR b o a g cap w l) (hh : hi ≤ l.length) (i0 : lo ≤ i) (i1 : i < hi) (j0 : lo ≤ j) (j1 : j < hi) :
    Calls Tryz.prog 116 #[.pointer (some ⟨b, o, none⟩), .int .i64 i, .int .i64 j] w fun e w' => e = .returned (.tuple #[]) ∧ LS b o a g cap lo hi w l w' (swp l i j) :=
  (line_swap b o a g cap l i j w h (by omega) (by omega)).mono fun _ _ ⟨he, hr, hf⟩ => ⟨he, hr, hf, PI.swap hh i0 i1 j0 j1⟩
theorem sl_less (b o : Nat) : ∀ w, Sem.run Tryz.prog (method (Tryz.prog.types.size + 100) 109 (.pointer (some ⟨b, o, none⟩)) "Less") w = .ok (113, .pointer (some ⟨b, o, none⟩)) w := fun _ => by kernel_rfl
theorem sl_swap (b o : Nat) : ∀ w, Sem.run Tryz.prog (method (Tryz.prog.types.size + 100) 109 (.pointer (some ⟨b, o, none⟩)) "Swap") w = .ok (116, .pointer (some ⟨b, o, none⟩)) w := fun _ => by kernel_rfl

set_option maxHeartbeats 2000000 in
set_option maxRecDepth 100000 in
theorem insertion_is (b o : Nat) (a : Int) (g cap lo hi : Nat) (l : List Wt) (w : World) (h : LR b o a g cap w l) (hlh : lo ≤ hi) (hh : hi ≤ l.length) (hsz : l.length ≤ 1000000) :
    Calls Tryz.prog 79 #[.iface 109 (.pointer (some ⟨b, o, none⟩)), .int .i64 lo, .int .i64 hi] w fun e w' => e = .returned (.tuple #[]) ∧ ∃ m, LS b o a g cap lo hi w l w' m ∧ Srtd a lo hi m := by
  have H := Lib.hid h
  have HL := Lib.hid (And.intro hh hsz)
  have mL := sl_less b o
  have mS := sl_swap b o
  have hh1 : hi ≤ 1000000 := by omega
  have q0 : IntKind.i64.wrap ((lo : Int) + 1) = ((lo + 1 : Nat) : Int) := by simp [IntKind.wrap_i64]; omega
  clear h hh hsz
  go_enter Tryz.func79, Tryz.ntmps79
  go_wp2_with fail
  go_loopw [6] (fun s6 wr => ∃ (i : Nat) (m : List Wt), s6 = .int .i64 i ∧ lo + 1 ≤ i ∧ (i ≤ hi ∨ i = lo + 1) ∧ LS b o a g cap lo hi w l wr m ∧ Srtd a lo i m) (fun s6 _ => hi + 2 - (intOf s6).toNat)
  case atStart => exact ⟨lo + 1, l, by first | rfl | go_num, Nat.le_refl _, Or.inr rfl, LS.start H.out, Srtd.small a (Nat.le_refl _) l⟩
  case round =>
    obtain ⟨i, m, rfl, hi0, hi1, hs, ht⟩ := hrel
    have S := Lib.hid hs
    have T := Lib.hid ht
    clear hs ht
    by_cases ci : i < hi
    · have d1 : decide (i < hi) = true := by simp [ci]
      have q1 : IntKind.i64.wrap ((i : Int) + 1) = ((i + 1 : Nat) : Int) := by simp [IntKind.wrap_i64]; omega
      go_wp2_with fail
      go_loopw [7] (fun s7 wi => ∃ (j : Nat) (n : List Wt), s7 = .int .i64 j ∧ lo ≤ j ∧ j ≤ i ∧ LS b o a g cap lo hi w l wi n ∧ Ins a lo i j n) (fun s7 _ => (intOf s7).toNat)
      case atStart => exact ⟨i, m, rfl, by omega, Nat.le_refl _, S.out, Ins.start T.out⟩
      case round =>
        obtain ⟨j, n, rfl, hj0, hj1, hs, ht⟩ := hrel
        have SI := Lib.hid hs
        have TI := Lib.hid ht
        have hnl := hs.len
        have NL := Lib.hid hnl
        clear hs ht hnl
        by_cases cj : lo < j
        · have d2 : decide (lo < j) = true := by simp [cj]
          obtain ⟨k, rfl⟩ : ∃ k, j = k + 1 := ⟨j - 1, by omega⟩
          have q2 : IntKind.i64.wrap (((k + 1 : Nat) : Int) - 1) = (k : Int) := by simp [IntKind.wrap_i64]; omega
          obtain ⟨t, htt⟩ : ∃ t, les a (gt n (k + 1)) (gt n k) = t := ⟨_, rfl⟩
          have C := Lib.hid (fun w h => less_at b o a g cap n (k + 1) k t w h (by have := NL.out; have := HL.out; omega) (by have := NL.out; have := HL.out; omega) htt)
          have W := Lib.hid (fun w h => swap_at b o a g cap lo hi n (k + 1) k w h (by have := NL.out; have := HL.out; omega) (by omega) (by omega) (by omega) (by omega))
          have TT := Lib.hid htt
          obtain ⟨j, hj⟩ : ∃ j, k + 1 = j := ⟨_, rfl⟩
          have HJ := Lib.hid hj
          rw [hj] at C W q2 d2 ⊢
          clear htt hj
          cases t with
          | false =>
            go_wp2_with fail
            refine (C.out _ SI.out.r).mono ?_
            rintro _ w1 ⟨rfl, hw⟩
            have S1 := Lib.hid (SI.out.later hw)
            clear hw
            go_wp2_with fail
            refine ⟨⟨i + 1, n, by first | rfl | go_num, by omega, Or.inl (by omega), S1.out, TI.out.stop cj hj1 (by have := TT.out; exact this)⟩, by simp [intOf]; omega⟩
          | true =>
            go_wp2_with fail
            refine (C.out _ SI.out.r).mono ?_
            rintro _ w1 ⟨rfl, hw⟩
            have S1 := Lib.hid (SI.out.later hw)
            clear hw
            go_wp2_with fail
            refine (W.out _ S1.out.r).mono ?_
            rintro _ w2 ⟨rfl, h2⟩
            have S2 := Lib.hid (S1.out.trans h2)
            clear h2
            go_wp2_with fail
            have hj := HJ.out
            subst hj
            refine ⟨⟨k, _, rfl, by omega, by omega, S2.out, by have := TI.out.step cj hj1 (by have := NL.out; have := HL.out; omega) (by have := TT.out; exact this); exact this⟩, by simp [intOf]⟩
        · have d2 : decide (lo < j) = false := by simp; omega
          obtain rfl : j = lo := by omega
          go_wp2_with fail
          refine ⟨⟨i + 1, n, by first | rfl | go_num, by omega, Or.inl (by omega), SI.out, TI.out.low⟩, by simp [intOf]; omega⟩
    · have d1 : decide (i < hi) = false := by simp; omega
      go_wp2_with fail
      go_end0
      exact ⟨rfl, m, S.out, fun p q h0 h1 h2 => T.out p q h0 h1 (by omega)⟩

set_option maxHeartbeats 2000000 in
set_option maxRecDepth 100000 in
theorem reverse_is (b o : Nat) (a : Int) (g cap lo hi : Nat) (l : List Wt) (w : World) (h : LR b o a g cap w l) (hlh : lo < hi) (hh : hi ≤ l.length) (hsz : l.length ≤ 1000000) :
    Calls Tryz.prog 83 #[.iface 109 (.pointer (some ⟨b, o, none⟩)), .int .i64 lo, .int .i64 hi] w fun e w' => e = .returned (.tuple #[]) ∧ ∃ m, LS b o a g cap lo hi w l w' m := by
  have H := Lib.hid h
  have HL := Lib.hid (And.intro hh hsz)
  have mS := sl_swap b o
  have hh1 : hi ≤ 1000000 := by omega
  have q0 : IntKind.i64.wrap ((hi : Int) - 1) = ((hi - 1 : Nat) : Int) := by simp [IntKind.wrap_i64]; omega
  clear h hh hsz
  go_enter Tryz.func83, Tryz.ntmps83
  go_wp2_with fail
  go_loopw [6, 7] (fun s6 s7 wr => ∃ (i j : Nat) (m : List Wt), s6 = .int .i64 i ∧ s7 = .int .i64 j ∧ lo ≤ i ∧ j < hi ∧ (i ≤ j + 1) ∧ LS b o a g cap lo hi w l wr m) (fun _ s7 _ => (intOf s7).toNat)
  case atStart => exact ⟨lo, hi - 1, l, rfl, by first | rfl | go_num, Nat.le_refl _, by omega, by omega, LS.start H.out⟩
  case round =>
    obtain ⟨i, j, m, rfl, rfl, hi0, hj0, hij, hs⟩ := hrel
    have S := Lib.hid hs
    have ML := Lib.hid hs.len
    clear hs
    by_cases ci : i < j
    · have d1 : decide (i < j) = true := by simp [ci]
      have q1 : IntKind.i64.wrap ((i : Int) + 1) = ((i + 1 : Nat) : Int) := by simp [IntKind.wrap_i64]; omega
      have q2 : IntKind.i64.wrap ((j : Int) - 1) = ((j - 1 : Nat) : Int) := by simp [IntKind.wrap_i64]; omega
      have W := Lib.hid (fun w h => swap_at b o a g cap lo hi m i j w h (by have := ML.out; have := HL.out; omega) (by omega) (by omega) (by omega) (by omega))
      go_wp2_with fail
      refine (W.out _ S.out.r).mono ?_
      rintro _ w2 ⟨rfl, h2⟩
      have S2 := Lib.hid (S.out.trans h2)
      clear h2
      go_wp2_with fail
      refine ⟨⟨i + 1, j - 1, _, by first | rfl | go_num, by first | rfl | go_num, by omega, by omega, by omega, S2.out⟩, by simp [intOf]; omega⟩
    · have d1 : decide (i < j) = false := by simp; omega
      go_wp2_with fail
      go_end0
      exact ⟨rfl, m, S.out⟩

set_option maxHeartbeats 4000000 in
set_option maxRecDepth 100000 in
theorem sift_is (b o : Nat) (a : Int) (g cap f lo hi : Nat) (l : List Wt) (w : World) (h : LR b o a g cap w l) (hlh : lo ≤ hi) (hh : f + hi ≤ l.length) (hsz : l.length ≤ 1000000) (hd : MD a f lo hi lo l) :
    Calls Tryz.prog 88 #[.iface 109 (.pointer (some ⟨b, o, none⟩)), .int .i64 lo, .int .i64 hi, .int .i64 f] w fun e w' => e = .returned (.tuple #[]) ∧ ∃ m, LS b o a g cap f (f + hi) w l w' m ∧ MH a f lo hi m := by
  have H := Lib.hid h
  have HD0 := Lib.hid hd
  have HL := Lib.hid (And.intro hh hsz)
  have mL := sl_less b o
  have mS := sl_swap b o
  have hh1 : f + hi ≤ 1000000 := by omega
  clear h hd hh hsz
  go_enter Tryz.func88, Tryz.ntmps88
  go_wp2_with fail
  go_loopw [8] (fun s8 wr => ∃ (r : Nat) (m : List Wt), s8 = .int .i64 r ∧ lo ≤ r ∧ r ≤ hi ∧ LS b o a g cap f (f + hi) w l wr m ∧ MD a f lo hi r m) (fun s8 _ => hi - (intOf s8).toNat)
  case atStart => exact ⟨lo, l, rfl, Nat.le_refl _, hlh, LS.start H.out, HD0.out⟩
  case round =>
    obtain ⟨r, m, rfl, hr0, hr1, hs, ht⟩ := hrel
    have S := Lib.hid hs
    have T := Lib.hid ht
    have ML := Lib.hid hs.len
    clear hs ht
    have q1 : IntKind.i64.wrap (2 * (r : Int)) = 2 * (r : Int) := by simp [IntKind.wrap_i64]; omega
    have q2 : IntKind.i64.wrap (2 * (r : Int) + 1) = ((2 * r + 1 : Nat) : Int) := by simp [IntKind.wrap_i64]; omega
    have q3 : IntKind.i64.wrap (((2 * r + 1 : Nat) : Int) + 1) = ((2 * r + 2 : Nat) : Int) := by simp [IntKind.wrap_i64]; omega
    have q4 : IntKind.i64.wrap ((f : Int) + (r : Int)) = ((f + r : Nat) : Int) := by simp [IntKind.wrap_i64]; omega
    have q5 : IntKind.i64.wrap ((f : Int) + ((2 * r + 1 : Nat) : Int)) = ((f + (2 * r + 1) : Nat) : Int) := by simp [IntKind.wrap_i64]; omega
    have q6 : IntKind.i64.wrap (((f + (2 * r + 1) : Nat) : Int) + 1) = ((f + (2 * r + 2) : Nat) : Int) := by simp [IntKind.wrap_i64]; omega
    have q7 : IntKind.i64.wrap ((f : Int) + ((2 * r + 2 : Nat) : Int)) = ((f + (2 * r + 2) : Nat) : Int) := by simp [IntKind.wrap_i64]; omega
    obtain ⟨c1, hc1⟩ : ∃ c, 2 * r + 1 = c := ⟨_, rfl⟩
    obtain ⟨c2, hc2⟩ : ∃ c, 2 * r + 2 = c := ⟨_, rfl⟩
    rw [hc1] at q2 q3 q5 q6
    rw [hc2] at q3 q6 q7
    obtain ⟨fr, hfr⟩ : ∃ c, f + r = c := ⟨_, rfl⟩
    obtain ⟨f1, hf1⟩ : ∃ c, f + c1 = c := ⟨_, rfl⟩
    obtain ⟨f2, hf2⟩ : ∃ c, f + c2 = c := ⟨_, rfl⟩
    rw [hfr] at q4
    rw [hf1] at q5 q6
    rw [hf2] at q6 q7
    have N := Lib.hid (And.intro hc1 (And.intro hc2 (And.intro hfr (And.intro hf1 hf2))))
    clear hc1 hc2 hfr hf1 hf2
    by_cases e1 : hi ≤ c1
    · have d1 : decide (hi ≤ c1) = true := by simp [e1]
      go_wp2_with fail
      go_end0; exact ⟨rfl, m, S.out, T.out.leaf (by have := N.out.1; omega)⟩
    · have d1 : decide (hi ≤ c1) = false := by simp; omega
      by_cases e2 : c2 < hi
      · have d2 : decide (c2 < hi) = true := by simp [e2]
        obtain ⟨u, hu⟩ : ∃ u, les a (gt m f1) (gt m f2) = u := ⟨_, rfl⟩
        have C0 := Lib.hid (fun w h => less_at b o a g cap m f1 f2 u w h (by have := N.out; have := ML.out; have := HL.out; omega) (by have := N.out; have := ML.out; have := HL.out; omega) hu)
        cases u with
        | false =>
          have CH := Lib.hid (show MC a f hi r c1 m from N.out.1 ▸ mc_left (by have := N.out.2.1; omega) (by rw [N.out.1, N.out.2.1, N.out.2.2.2.1, N.out.2.2.2.2]; exact hu))
          clear hu
          go_wp2_with fail
          refine (C0.out _ S.out.r).mono ?_
          rintro _ w4 ⟨rfl, hw⟩
          have S4 := Lib.hid (S.out.later hw)
          clear hw
          obtain ⟨t, ht⟩ : ∃ t, les a (gt m fr) (gt m f1) = t := ⟨_, rfl⟩
          have C := Lib.hid (fun w h => less_at b o a g cap m fr f1 t w h (by have := N.out; have := CH.out.lt; have := ML.out; have := HL.out; omega) (by have := N.out; have := CH.out.lt; have := ML.out; have := HL.out; omega) ht)
          have W := Lib.hid (fun w h => swap_at b o a g cap f (f + hi) m fr f1 w h (by have := ML.out; have := HL.out; omega) (by have := N.out; omega) (by have := N.out; have := CH.out.lt; have := CH.out.par; omega) (by have := N.out; omega) (by have := N.out; have := CH.out.lt; omega))
          have HT := Lib.hid ht
          clear ht
          cases t with
          | false =>
            go_wp2_with fail
            refine (C.out _ S4.out.r).mono ?_
            rintro _ w5 ⟨rfl, hw⟩
            have S5 := Lib.hid (S4.out.later hw)
            clear hw
            go_wp2_with fail
            exact bodyPost_ret (results_none rfl _ _ _) rfl ⟨rfl, m, S5.out, T.out.done CH.out (by obtain ⟨n1, n2, n3, n4, n5⟩ := N.out; subst n3; have := HT.out; rwa [show f1 = f + c1 by omega] at this)⟩
          | true =>
            go_wp2_with fail
            refine (C.out _ S4.out.r).mono ?_
            rintro _ w5 ⟨rfl, hw⟩
            have S5 := Lib.hid (S4.out.later hw)
            clear hw
            go_wp2_with fail
            refine (W.out _ S5.out.r).mono ?_
            rintro _ w6 ⟨rfl, h6⟩
            have S6 := Lib.hid (S5.out.trans h6)
            clear h6
            go_wp2_with fail
            have hc := CH.out
            have hp := hc.par
            have h0 := hc.pos
            have hl := hc.lt
            have D := T.out.down hc (by have := ML.out; have := HL.out; omega) hr0 (by obtain ⟨n1, n2, n3, n4, n5⟩ := N.out; subst n3; have := HT.out; rwa [show f1 = f + c1 by omega] at this)
            refine ⟨⟨c1, swp m fr f1, rfl, by omega, by omega, S6.out, ?_⟩, by simp [intOf]; omega⟩
            obtain ⟨n1, n2, n3, n4, n5⟩ := N.out
            subst n3
            rwa [show f + c1 = f1 by omega] at D
        | true =>
          have CH := Lib.hid (show MC a f hi r c2 m from N.out.2.1 ▸ mc_right (by have := N.out.2.1; omega) (by rw [N.out.1, N.out.2.1, N.out.2.2.2.1, N.out.2.2.2.2]; exact hu))
          clear hu
          go_wp2_with fail
          refine (C0.out _ S.out.r).mono ?_
          rintro _ w4 ⟨rfl, hw⟩
          have S4 := Lib.hid (S.out.later hw)
          clear hw
          obtain ⟨t, ht⟩ : ∃ t, les a (gt m fr) (gt m f2) = t := ⟨_, rfl⟩
          have C := Lib.hid (fun w h => less_at b o a g cap m fr f2 t w h (by have := N.out; have := CH.out.lt; have := ML.out; have := HL.out; omega) (by have := N.out; have := CH.out.lt; have := ML.out; have := HL.out; omega) ht)
          have W := Lib.hid (fun w h => swap_at b o a g cap f (f + hi) m fr f2 w h (by have := ML.out; have := HL.out; omega) (by have := N.out; omega) (by have := N.out; have := CH.out.lt; have := CH.out.par; omega) (by have := N.out; omega) (by have := N.out; have := CH.out.lt; omega))
          have HT := Lib.hid ht
          clear ht
          cases t with
          | false =>
            go_wp2_with fail
            refine (C.out _ S4.out.r).mono ?_
            rintro _ w5 ⟨rfl, hw⟩
            have S5 := Lib.hid (S4.out.later hw)
            clear hw
            go_wp2_with fail
            exact bodyPost_ret (results_none rfl _ _ _) rfl ⟨rfl, m, S5.out, T.out.done CH.out (by obtain ⟨n1, n2, n3, n4, n5⟩ := N.out; subst n3; have := HT.out; rwa [show f2 = f + c2 by omega] at this)⟩
          | true =>
            go_wp2_with fail
            refine (C.out _ S4.out.r).mono ?_
            rintro _ w5 ⟨rfl, hw⟩
            have S5 := Lib.hid (S4.out.later hw)
            clear hw
            go_wp2_with fail
            refine (W.out _ S5.out.r).mono ?_
            rintro _ w6 ⟨rfl, h6⟩
            have S6 := Lib.hid (S5.out.trans h6)
            clear h6
            go_wp2_with fail
            have hc := CH.out
            have hp := hc.par
            have h0 := hc.pos
            have hl := hc.lt
            have D := T.out.down hc (by have := ML.out; have := HL.out; omega) hr0 (by obtain ⟨n1, n2, n3, n4, n5⟩ := N.out; subst n3; have := HT.out; rwa [show f2 = f + c2 by omega] at this)
            refine ⟨⟨c2, swp m fr f2, rfl, by omega, by omega, S6.out, ?_⟩, by simp [intOf]; omega⟩
            obtain ⟨n1, n2, n3, n4, n5⟩ := N.out
            subst n3
            rwa [show f + c2 = f2 by omega] at D
      · have d2 : decide (c2 < hi) = false := by simp; omega
        have CH := Lib.hid (show MC a f hi r c1 m from N.out.1 ▸ mc_one (by have := N.out.1; omega) (by have := N.out.2.1; omega))
        obtain ⟨t, ht⟩ : ∃ t, les a (gt m fr) (gt m f1) = t := ⟨_, rfl⟩
        have C := Lib.hid (fun w h => less_at b o a g cap m fr f1 t w h (by have := N.out; have := CH.out.lt; have := ML.out; have := HL.out; omega) (by have := N.out; have := CH.out.lt; have := ML.out; have := HL.out; omega) ht)
        have W := Lib.hid (fun w h => swap_at b o a g cap f (f + hi) m fr f1 w h (by have := ML.out; have := HL.out; omega) (by have := N.out; omega) (by have := N.out; have := CH.out.lt; have := CH.out.par; omega) (by have := N.out; omega) (by have := N.out; have := CH.out.lt; omega))
        have HT := Lib.hid ht
        clear ht
        cases t with
        | false =>
          go_wp2_with fail
          refine (C.out _ S.out.r).mono ?_
          rintro _ w5 ⟨rfl, hw⟩
          have S5 := Lib.hid (S.out.later hw)
          clear hw
          go_wp2_with fail
          exact bodyPost_ret (results_none rfl _ _ _) rfl ⟨rfl, m, S5.out, T.out.done CH.out (by obtain ⟨n1, n2, n3, n4, n5⟩ := N.out; subst n3; have := HT.out; rwa [show f1 = f + c1 by omega] at this)⟩
        | true =>
          go_wp2_with fail
          refine (C.out _ S.out.r).mono ?_
          rintro _ w5 ⟨rfl, hw⟩
          have S5 := Lib.hid (S.out.later hw)
          clear hw
          go_wp2_with fail
          refine (W.out _ S5.out.r).mono ?_
          rintro _ w6 ⟨rfl, h6⟩
          have S6 := Lib.hid (S5.out.trans h6)
          clear h6
          go_wp2_with fail
          have hc := CH.out
          have hp := hc.par
          have h0 := hc.pos
          have hl := hc.lt
          have D := T.out.down hc (by have := ML.out; have := HL.out; omega) hr0 (by obtain ⟨n1, n2, n3, n4, n5⟩ := N.out; subst n3; have := HT.out; rwa [show f1 = f + c1 by omega] at this)
          refine ⟨⟨c1, swp m fr f1, rfl, by omega, by omega, S6.out, ?_⟩, by simp [intOf]; omega⟩
          obtain ⟨n1, n2, n3, n4, n5⟩ := N.out
          subst n3
          rwa [show f + c1 = f1 by omega] at D
end QQ
end Go.Proofs.YtlopijcpnfkcgaaGreat
