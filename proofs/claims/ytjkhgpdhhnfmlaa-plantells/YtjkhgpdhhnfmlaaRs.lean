/- The document's Split. -/
import Derived.Test.YtjkhgpdhhnfmlaaRm
import Derived.Test.YtjkhgpdhhnfmlaaPa
namespace Go.Proofs.Ytjkhgpdhhnfmlaa
open Go.RowKit
open RG (Du)
open PM
set_option linter.unusedSimpArgs false

theorem Two.set0 {w : World} {b : Nat} {c0 c1 : Value} (h : Two w b c0 c1) (x : Value) : Two (w.setCell ⟨b, 0, none⟩ x) b x c1 :=
  ⟨World.cell?_setCell_same w _ x (by rw [h.c0]), (World.cell?_setCell_other w ⟨b, 0, none⟩ ⟨b, 1, none⟩ _ (fun e => by injection e with _ e; cases e)).trans h.c1, by simpa [go_sem] using h.f0, by simpa [go_sem] using h.f1⟩
theorem Two.set1 {w : World} {b : Nat} {c0 c1 : Value} (h : Two w b c0 c1) (x : Value) : Two (w.setCell ⟨b, 1, none⟩ x) b c0 x :=
  ⟨(World.cell?_setCell_other w ⟨b, 1, none⟩ ⟨b, 0, none⟩ _ (fun e => by injection e with _ e; cases e)).trans h.c0, World.cell?_setCell_same w _ x (by rw [h.c1]), by simpa [go_sem] using h.f0, by simpa [go_sem] using h.f1⟩
theorem Two.frm {F : Nat → Prop} {w x : World} {b : Nat} {c0 c1 : Value} (h : Two w b c0 c1) (g : Frm F w x) (hn : ¬ F b) : Two x b c0 c1 := by
  have hb := g.block b (World.block_lt_of_cell? _ _ h.c0) hn
  exact ⟨g.cell h.c0 hn, g.cell h.c1 hn, by have := h.f0; unfold World.frozen? at this ⊢; rw [hb]; exact this, by have := h.f1; unfold World.frozen? at this ⊢; rw [hb]; exact this⟩
theorem Sp.set {w x : World} {u v : Value} {a b : List Du} (h : Sp w x u v a b) (q o : Nat) (y : Value) (hq : w.heap.size ≤ q) (h1 : ∀ k, u.ownBlock = some k → k ≠ q) (h2 : ∀ k, v.ownBlock = some k → k ≠ q) : Sp w (x.setCell ⟨q, o, none⟩ y) u v a b := by
  have f : Frm (fun k => k = q) x (x.setCell ⟨q, o, none⟩ y) := frm_set (F := fun k => k = q) x ⟨q, o, none⟩ y rfl
  exact ⟨ownsRow_frm h.o1 f h1, ownsRow_frm h.o2 f h2, h.n1, h.n2, h.ap, h.g.set hq _⟩
/-- what the loop keeps: two rows, the two cells that hold them, the result's cells. -/
structure RS (w x : World) (Z : Nat) (u v : Value) (a b : List Du) : Prop where
  sp : Sp w x u v a b
  z : w.heap.size = Z
  t5 : Two x (Z + 1) u v
  t4 : Two x Z (.slice none 0 0) (.slice none 0 0)
  a1 : ∀ k, u.ownBlock = some k → Z + 2 ≤ k
  a2 : ∀ k, v.ownBlock = some k → Z + 2 ≤ k
theorem RS.lt {w x : World} {Z : Nat} {u v : Value} {a b : List Du} (h : RS w x Z u v a b) : Z + 2 ≤ x.heap.size := World.block_lt_of_cell? _ _ h.t5.c0
set_option maxRecDepth 100000 in
/-- one more in the first row. -/
theorem RS.one {w x : World} {Z : Nat} {u v : Value} {a b : List Du} (h : RS w x Z u v a b) (d : Du) (hl : a.length ≤ 1000000) : ∃ p q y,
    (Builtin.append_ #[22, 22] 22 #[u, .slice (some ⟨x.heap.size, 0, none⟩) 1 1]).run Try.prog (x.alloc (.cells #[.int .i64 d.id, .int .u64 (d.t : Nat)] 25)).drew = .ok (.slice (some ⟨p, 0, none⟩) (a.length + 1) q) y ∧ Two y (Z + 1) u v ∧ RS w (y.setCell ⟨Z + 1, 0, none⟩ (.slice (some ⟨p, 0, none⟩) (a.length + 1) q)) Z (.slice (some ⟨p, 0, none⟩) (a.length + 1) q) v (a ++ [d]) b := by
  obtain ⟨i0, hi, hz0, hz1, hz2⟩ := info_parts Try.info25
  have g : Grw x (x.alloc (.cells #[.int .i64 d.id, .int .u64 (d.t : Nat)] 25)).drew := ((Grw.rfl' x).alloc _).drew
  have o := ownsRow_frm h.sp.o1 (g.frm (fun _ => False)) (fun _ _ e => e)
  obtain ⟨u', y, hr, o1, gr, hor⟩ := run_append_mine (P := Try.prog) (x.alloc (.cells #[.int .i64 d.id, .int .u64 (d.t : Nat)] 25)).drew 22 22 25 i0 _ 2 16 Try.underlying22 hi hz0 hz1 hz2 rfl (by decide) u a.length (cd a) o ⟨x.heap.size, 0, none⟩ 1 1 (cd [d]) (cd_len [d]) (one_due x d) (cd_one [d]) (by unfold maxLen; omega) (by omega)
  obtain ⟨p, q, rfl⟩ := ownsRow_succ o1
  have fy := grownBy_frm gr
  have n5 : ¬ (u.ownBlock = some (Z + 1)) := fun e => by have := h.a1 _ e; omega
  have n4 : ¬ (u.ownBlock = some Z) := fun e => by have := h.a1 _ e; omega
  have t5 : Two y (Z + 1) u v := ((h.t5.later g (by have := h.lt; omega))).frm fy n5
  have t4 := (h.t4.later g (by have := h.lt; omega)).frm fy n4
  have sp := h.sp.step (d := d) g o1 gr (by exact hor)
  have b1 : ∀ k, (Value.slice (some ⟨p, 0, none⟩) (a.length + 1) q).ownBlock = some k → Z + 2 ≤ k := fun k hk => by
    rcases hor with e | e
    · exact h.a1 k (e ▸ hk)
    · rw [e] at hk
      injection hk with hk
      have := h.lt
      have e2 : (x.alloc (.cells #[.int .i64 d.id, .int .u64 (d.t : Nat)] 25)).drew.heap.size = x.heap.size + 1 := size_new x _
      omega
  have f4 : Frm (fun k => k = Z + 1) y (y.setCell ⟨Z + 1, 0, none⟩ (.slice (some ⟨p, 0, none⟩) (a.length + 1) q)) := frm_set (F := fun k => k = Z + 1) y ⟨Z + 1, 0, none⟩ (.slice (some ⟨p, 0, none⟩) (a.length + 1) q) rfl
  exact ⟨p, q, y, hr, t5, sp.set (Z + 1) 0 _ (by rw [h.z]; omega) (fun k hk => by have := b1 k hk; omega) (fun k hk => by have := h.a2 k hk; omega), h.z, t5.set0 _, t4.frm f4 (by omega), b1, h.a2⟩
set_option maxRecDepth 100000 in
/-- one more in the second row. -/
theorem RS.two {w x : World} {Z : Nat} {u v : Value} {a b : List Du} (h : RS w x Z u v a b) (d : Du) (hl : b.length ≤ 1000000) : ∃ p q y,
    (Builtin.append_ #[22, 22] 22 #[v, .slice (some ⟨x.heap.size, 0, none⟩) 1 1]).run Try.prog (x.alloc (.cells #[.int .i64 d.id, .int .u64 (d.t : Nat)] 25)).drew = .ok (.slice (some ⟨p, 0, none⟩) (b.length + 1) q) y ∧ Two y (Z + 1) u v ∧ RS w (y.setCell ⟨Z + 1, 1, none⟩ (.slice (some ⟨p, 0, none⟩) (b.length + 1) q)) Z u (.slice (some ⟨p, 0, none⟩) (b.length + 1) q) a (b ++ [d]) := by
  obtain ⟨i0, hi, hz0, hz1, hz2⟩ := info_parts Try.info25
  have g : Grw x (x.alloc (.cells #[.int .i64 d.id, .int .u64 (d.t : Nat)] 25)).drew := ((Grw.rfl' x).alloc _).drew
  have o := ownsRow_frm h.sp.o2 (g.frm (fun _ => False)) (fun _ _ e => e)
  obtain ⟨v', y, hr, o1, gr, hor⟩ := run_append_mine (P := Try.prog) (x.alloc (.cells #[.int .i64 d.id, .int .u64 (d.t : Nat)] 25)).drew 22 22 25 i0 _ 2 16 Try.underlying22 hi hz0 hz1 hz2 rfl (by decide) v b.length (cd b) o ⟨x.heap.size, 0, none⟩ 1 1 (cd [d]) (cd_len [d]) (one_due x d) (cd_one [d]) (by unfold maxLen; omega) (by omega)
  obtain ⟨p, q, rfl⟩ := ownsRow_succ o1
  have fy := grownBy_frm gr
  have n5 : ¬ (v.ownBlock = some (Z + 1)) := fun e => by have := h.a2 _ e; omega
  have n4 : ¬ (v.ownBlock = some Z) := fun e => by have := h.a2 _ e; omega
  have t5 : Two y (Z + 1) u v := ((h.t5.later g (by have := h.lt; omega))).frm fy n5
  have t4 := (h.t4.later g (by have := h.lt; omega)).frm fy n4
  have sp := (h.sp.swap.step (d := d) g o1 gr (by exact hor)).swap
  have b1 : ∀ k, (Value.slice (some ⟨p, 0, none⟩) (b.length + 1) q).ownBlock = some k → Z + 2 ≤ k := fun k hk => by
    rcases hor with e | e
    · exact h.a2 k (e ▸ hk)
    · rw [e] at hk
      injection hk with hk
      have := h.lt
      have e2 : (x.alloc (.cells #[.int .i64 d.id, .int .u64 (d.t : Nat)] 25)).drew.heap.size = x.heap.size + 1 := size_new x _
      omega
  have f4 : Frm (fun k => k = Z + 1) y (y.setCell ⟨Z + 1, 1, none⟩ (.slice (some ⟨p, 0, none⟩) (b.length + 1) q)) := frm_set (F := fun k => k = Z + 1) y ⟨Z + 1, 1, none⟩ (.slice (some ⟨p, 0, none⟩) (b.length + 1) q) rfl
  exact ⟨p, q, y, hr, t5, sp.set (Z + 1) 1 _ (by rw [h.z]; omega) (fun k hk => by have := h.a1 k hk; omega) (fun k hk => by have := b1 k hk; omega), h.z, t5.set1 _, t4.frm f4 (by omega), h.a1, b1⟩
theorem rs_start (w : World) : RS w ((w.alloc (.cells #[.slice none 0 0, .slice none 0 0] 37)).alloc (.cells #[.slice none 0 0, .slice none 0 0] 37)) w.heap.size (.slice none 0 0) (.slice none 0 0) [] [] := by
  refine ⟨⟨World.ownsRow_nil _ _ _ _, World.ownsRow_nil _ _ _ _, (fun k h => by cases h), (fun k h => by cases h), (fun k h => by cases h), ((Grw.rfl' w).alloc _).alloc _⟩, rfl, ?_, ?_, (fun k h => by cases h), (fun k h => by cases h)⟩
  · have := Two.new (w.alloc (.cells #[.slice none 0 0, .slice none 0 0] 37)) (.slice none 0 0) (.slice none 0 0) 37
    rw [size_new] at this
    exact this
  · exact (Two.new w (.slice none 0 0) (.slice none 0 0) 37).later ((Grw.rfl' _).alloc _) (by rw [size_new]; omega)

set_option maxHeartbeats 4000000 in
set_option maxRecDepth 100000 in
theorem rsplit_is (ao : Option Addr) (cap t : Nat) (l : List Du) (n : Nat) (w : World) (hl : Lies w ao (cd l)) (hb : n ≤ 100000) (hn : l.length = n) :
    Calls Try.prog 13 #[.slice ao n cap, .int .u64 t] w fun e w' => ∃ u v, e = .returned (.agg #[u, v]) ∧ RowD w' u (upto t l) ∧ RowD w' v (past t l) ∧ Grw w w' := by
  have LI := Lib.hid hl
  have HN := Lib.hid hn
  obtain ⟨Z, hZ⟩ : ∃ Z, w.heap.size = Z := ⟨_, rfl⟩
  have S0 := rs_start w
  rw [hZ] at S0
  replace S0 := Lib.hid S0
  have HZ := Lib.hid hZ
  clear hl hn hZ
  go_enter Try.func13, Try.ntmps13
  go_wp2_with fail
  go_loopw [6] (fun i wr => ∃ (k : Nat) (u v : Value), k ≤ n ∧ i = .int .i64 k ∧ RS w wr w.heap.size u v (upto t (l.take k)) (past t (l.take k))) (fun i _ => n - (intOf i).toNat)
  case atStart => exact ⟨0, _, _, Nat.zero_le _, rfl, by rw [HZ.out]; exact S0.out⟩
  case round =>
    obtain ⟨k, u, v, hk, rfl, hrs⟩ := hrel
    have hsum := upto_len t (l.take k)
    rw [List.length_take] at hsum
    by_cases hk' : k < n
    · have hki : (k : Int) < (n : Int) := by omega
      have hkl : k < l.length := by rw [HN.out]; exact hk'
      have e1 := upto_take t hkl
      have e2 := past_take t hkl
      obtain ⟨b, off, rfl, c0, c1⟩ := lies_at (LI.out.later hrs.sp.g) hkl
      obtain ⟨x, hx⟩ : ∃ x, l[k] = x := ⟨_, rfl⟩
      rw [hx] at c0 c1 e1 e2
      obtain ⟨xi, xt⟩ := x
      simp only at c0 c1 e1 e2
      obtain ⟨la, hla⟩ : ∃ la, upto t (l.take k) = la := ⟨_, rfl⟩
      obtain ⟨lb, hlb⟩ : ∃ lb, past t (l.take k) = lb := ⟨_, rfl⟩
      rw [hla, hlb] at hsum hrs
      rw [hla] at e1
      rw [hlb] at e2
      by_cases hle : xt ≤ t
      · have hlei : (xt : Int) ≤ (t : Int) := by omega
        rw [if_pos hle] at e1 e2
        have E := Lib.hid (And.intro e1 e2)
        obtain ⟨p, q, y, r1, ty, hy⟩ := hrs.one ⟨xi, xt⟩ (by omega)
        have d0 := hrs.t5.c0
        have d1 := fun o => (hrs.t5.later ((Grw.rfl' wr).alloc o) hrs.lt).c0
        have y0 := ty.c0
        have yf := ty.f0
        have RY := Lib.hid hy
        clear hx hrs hla hlb e1 e2 hle ty hy hsum
        go_wp2_with fail
        go_region_law (first | (refine step_append_run rfl (.tmp 21) (.tmp 26) 22 rfl _ _ (by simp [Act.eval, Act.put]) (by simp [Act.eval, Act.put]) r1 ?_))
        all_goals
          clear r1 d0 d1 y0 yf
          go_wp2_with fail
          go_roundw
          case rel => exact ⟨k + 1, _, _, by omega, by go_num, by rw [E.out.1, E.out.2]; exact RY.out⟩
          case measure => simp [intOf]; omega
      · have hlei : ¬ (xt : Int) ≤ (t : Int) := by omega
        rw [if_neg hle] at e1 e2
        have E := Lib.hid (And.intro e1 e2)
        obtain ⟨p, q, y, r1, ty, hy⟩ := hrs.two ⟨xi, xt⟩ (by omega)
        have d0 := hrs.t5.c1
        have d1 := fun o => (hrs.t5.later ((Grw.rfl' wr).alloc o) hrs.lt).c1
        have y0 := ty.c1
        have yf := ty.f1
        have RY := Lib.hid hy
        clear hx hrs hla hlb e1 e2 hle ty hy hsum
        go_wp2_with fail
        go_region_law (first | (refine step_append_run rfl (.tmp 30) (.tmp 35) 22 rfl _ _ (by simp [Act.eval, Act.put]) (by simp [Act.eval, Act.put]) r1 ?_))
        all_goals
          clear r1 d0 d1 y0 yf
          go_wp2_with fail
          go_roundw
          case rel => exact ⟨k + 1, _, _, by omega, by go_num, by rw [E.out.1, E.out.2]; exact RY.out⟩
          case measure => simp [intOf]; omega
    · have hki : ¬ (k : Int) < (n : Int) := by omega
      obtain rfl : k = n := by omega
      have e : l.take k = l := List.take_of_length_le (by rw [HN.out]; exact Nat.le_refl _)
      rw [e] at hrs
      obtain ⟨ua, uc, rfl, _⟩ := ownsRow_lies hrs.sp.o1
      obtain ⟨va, vc, rfl, _⟩ := ownsRow_lies hrs.sp.o2
      have c0 := hrs.t5.c0
      have c1 := hrs.t5.c1
      have x0 := hrs.t4.c0
      have x1 := hrs.t4.c1
      have f0 := hrs.t4.f0
      have f1 := hrs.t4.f1
      have S := Lib.hid hrs
      have SP := Lib.hid ((hrs.sp.set w.heap.size 0 (.slice ua (upto t l).length uc) (Nat.le_refl _) (fun q hq => by have := hrs.a1 q hq; omega) (fun q hq => by have := hrs.a2 q hq; omega)).set w.heap.size 1 (.slice va (past t l).length vc) (Nat.le_refl _) (fun q hq => by have := hrs.a1 q hq; omega) (fun q hq => by have := hrs.a2 q hq; omega))
      clear hrs hsum e S
      go_wp2_with fail
      exact bodyPost_ret (v := .agg #[.slice ua (upto t l).length uc, .slice va (past t l).length vc]) (by simp [results, Try.results13, go_sem, x0, x1]) rfl ⟨_, _, rfl, ownsRow_lies SP.out.o1, ownsRow_lies SP.out.o2, SP.out.g⟩
end Go.Proofs.Ytjkhgpdhhnfmlaa
