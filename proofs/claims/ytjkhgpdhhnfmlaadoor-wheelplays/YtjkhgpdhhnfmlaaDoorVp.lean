/- Rows of uint64; a wheel with timers 0, 1, .. laid. -/
import Derived.Test.YtjkhgpdhhnfmlaaDoorXs
namespace Go.Proofs.YtjkhgpdhhnfmlaaDoor
open Go.RowKit TM MK
open RG (Du La listR putB putR dropR dropO takeR hasId Srt)
open VM (RK BK lvl idsD)
set_option linter.unusedSimpArgs false

/-- n numbers of type uint64 lie where a slice begins. -/
def RowU (w : World) (ao : Option Addr) (n : Nat) (f : Nat → Nat) : Prop :=
  n = 0 ∨ ∃ b off, ao = some ⟨b, off, none⟩ ∧ b < w.heap.size ∧ ∀ j, j < n → w.cell? ⟨b, off + j, none⟩ = some (.int .u64 (f j : Nat))
theorem RowU.later {w x : World} {ao : Option Addr} {n : Nat} {f : Nat → Nat} (h : RowU w ao n f) (g : Grw w x) : RowU x ao n f := by
  rcases h with h | ⟨b, off, e, hb, hc⟩
  · exact Or.inl h
  · exact Or.inr ⟨b, off, e, Nat.lt_of_lt_of_le hb (Below.size g), fun j hj => g.cell (hc j hj)⟩
theorem RowU.frm {F : Nat → Prop} {w x : World} {ao : Option Addr} {n cap : Nat} {f : Nat → Nat} (h : RowU w ao n f) (g : Frm F w x) (hn : ∀ k, (Value.slice ao n cap).ownBlock = some k → ¬ F k) : RowU x ao n f := by
  rcases h with h | ⟨b, off, rfl, hb, hc⟩
  · exact Or.inl h
  · exact Or.inr ⟨b, off, rfl, Nat.lt_of_lt_of_le hb g.size, fun j hj => g.cell (hc j hj) (hn b rfl)⟩
theorem RowU.at {w : World} {ao : Option Addr} {n : Nat} {f : Nat → Nat} (h : RowU w ao n f) (hn : 0 < n) : ∃ b off, ao = some ⟨b, off, none⟩ ∧ ∀ j, j < n → w.cell? ⟨b, off + j, none⟩ = some (.int .u64 (f j : Nat)) := by
  rcases h with h | ⟨b, off, e, _, hc⟩
  · omega
  · exact ⟨b, off, e, hc⟩
def cu (f : Nat → Nat) (k : Nat) : List Value := (List.range k).map fun j => Value.int .u64 (f j : Nat)
theorem cu_succ (f : Nat → Nat) (k : Nat) : cu f (k + 1) = cu f k ++ [.int .u64 (f k : Nat)] := by unfold cu; rw [List.range_succ, List.map_append]; rfl
theorem cu_len (f : Nat → Nat) (k : Nat) : (cu f k).length = k := by unfold cu; simp
theorem own_rowU {w : World} {B n : Nat} {v : Value} {f : Nat → Nat} (h : w.ownsRow B 22 1 v n (cu f n)) : ∃ ao cap, v = .slice ao n cap ∧ RowU w ao n f := by
  rcases h.2 with ⟨h1, h2⟩ | ⟨g, cap, cur, h1, _, h3, _⟩
  · exact ⟨none, 0, by rw [h1, h2], Or.inl h2⟩
  · subst h1
    refine ⟨some ⟨g, 0, none⟩, cap, rfl, Or.inr ⟨g, 0, rfl, (Array.getElem?_eq_some_iff.1 h3).1, fun j hj => ?_⟩⟩
    rw [Nat.zero_add, h.cellAt j (by rw [Nat.mul_one]; exact hj)]
    unfold cu
    simp [hj]
theorem one_u (w : World) (z : Nat) : ∀ (j : Nat) (u : Value), [Value.int .u64 (z : Nat)][j]? = some u → (w.alloc (.cells #[.int .u64 (z : Nat)] 22)).cell? ((⟨w.heap.size, 0, none⟩ : Addr).add j) = some u := by
  intro j u hj
  match j, hj with
  | 0, hj => simp at hj; subst hj; simp [Addr.add]
theorem Tryd.info22 : (Tryd.prog.info? 22).map (fun i => (i.zero, i.size, i.bytes)) = some (some (.int .u64 0), 1, 8) := by kernel_rfl

/-- the timers 0, 1, .. below k, put in one behind the other. -/
def lay (now : Nat) (f : Nat → Nat) : Nat → List Du
  | 0 => []
  | k + 1 => RG.put ⟨(k : Int), now + f k⟩ (lay now f k)
theorem lay_len (now : Nat) (f : Nat → Nat) (k : Nat) : (lay now f k).length = k := by
  induction k with
  | zero => rfl
  | succ k ih => unfold lay; rw [(RG.put_perm _ _).length_eq, List.length_cons, ih]
theorem mem_lay (now : Nat) (f : Nat → Nat) (k : Nat) (d : Du) : d ∈ lay now f k ↔ ∃ j, j < k ∧ d = ⟨(j : Int), now + f j⟩ := by
  induction k with
  | zero => constructor
            · intro h; cases h
            · rintro ⟨j, h, _⟩; omega
  | succ k ih =>
    unfold lay
    rw [(RG.put_perm _ _).mem_iff, List.mem_cons, ih]
    constructor
    · rintro (h | ⟨j, h1, h2⟩)
      · exact ⟨k, by omega, h⟩
      · exact ⟨j, by omega, h2⟩
    · rintro ⟨j, h1, h2⟩
      rcases (by omega : j = k ∨ j < k) with c | c
      · subst c; exact Or.inl h2
      · exact Or.inr ⟨j, c, h2⟩
theorem lay_srt (now : Nat) (f : Nat → Nat) (k : Nat) : Srt (lay now f k) := by
  induction k with
  | zero => exact List.Pairwise.nil
  | succ k ih => exact RG.put_srt ih
theorem lay_no (now : Nat) (f : Nat → Nat) (k : Nat) : ∀ d ∈ lay now f k, d.id ≠ (k : Int) := by
  intro d hd
  obtain ⟨j, hj, rfl⟩ := (mem_lay now f k d).1 hd
  show (j : Int) ≠ (k : Int)
  omega
theorem lay_ins {now : Nat} {f : Nat → Nat} {k : Nat} (h : 0 < f k) : insE now (lay now f k) (k : Int) (now + f k) = 0 ∧ insL now (lay now f k) (k : Int) (now + f k) = lay now f (k + 1) := by
  have e := atO_none (lay_no now f k)
  unfold insE insL
  rw [e]
  have h' : ¬ now + f k ≤ now := by omega
  simp only [Option.isSome_none, Bool.false_eq_true, if_false, if_neg h']
  exact ⟨trivial, rfl⟩
theorem MF.pre {w w0 x : World} {p now : Nat} {L : List Du} {F : Nat → Prop} (h : MF w0 x p now L F) (g : Grw w w0) : MF w x p now L F :=
  let ⟨S, e, h1, h2, h3, h4⟩ := h; ⟨S, e, h1, fun k hk => Nat.le_trans (Below.size g) (h2 k hk), g.trans h3, h4⟩
def okL (now n : Nat) (f : Nat → Nat) : Prop := n ≤ 60 ∧ ∀ j, j < n → 0 < f j ∧ now + f j < 2 ^ 64
/-- a wheel laid, and the row of its times. -/
def LaidQ (w : World) (now n : Nat) (f : Nat → Nat) (e : Ending) (w' : World) : Prop :=
  ∃ p ao cap, e = .returned (.tuple #[.pointer (some ⟨p, 0, none⟩), .slice ao n cap, .bool true]) ∧ MF w w' p now (lay now f n) (fun k => (Value.slice ao n cap).ownBlock = some k) ∧ RowU w' ao n (fun j => now + f j) ∧ ∀ k, (Value.slice ao n cap).ownBlock = some k → w.heap.size ≤ k
def NotQ (w : World) (e : Ending) (w' : World) : Prop := ∃ p, e = .returned (.tuple #[.pointer (some ⟨p, 0, none⟩), .slice none 0 0, .bool false]) ∧ Grw w w'
def LaidR (w : World) (now n : Nat) (f : Nat → Nat) (e : Ending) (w' : World) : Prop := (okL now n f ∧ LaidQ w now n f e w') ∨ (¬ okL now n f ∧ NotQ w e w')
/-- while it is laid. -/
structure Ly (w0 wr : World) (p now i : Nat) (f : Nat → Nat) (v : Value) : Prop where
  m : MF w0 wr p now (lay now f i) (fun k => v.ownBlock = some k)
  own : wr.ownsRow 0 22 1 v i (cu (fun j => now + f j) i)
  new : ∀ k, v.ownBlock = some k → w0.heap.size ≤ k
theorem Ly.app {w0 wr w1 : World} {p now i : Nat} {f : Nat → Nat} {v v' : Value} {o : Obj} {X : Nat} (hp : 0 < w0.heap.size) (m : MF w0 wr p now (lay now f (i + 1)) (fun k => v.ownBlock = some k ∨ k = X)) (hn : ∀ k, v.ownBlock = some k → w0.heap.size ≤ k) (ho : w1.ownsRow 0 22 1 v' (i + 1) (cu (fun j => now + f j) i ++ [.int .u64 ((now + f i : Nat) : Int)])) (hg : (wr.alloc o).grownBy w1 v.ownBlock) (hb : v'.ownBlock = v.ownBlock ∨ v'.ownBlock = some (wr.alloc o).heap.size) : Ly w0 w1 p now (i + 1) f v' := by
  have h1 : MF w0 (wr.alloc o) p now (lay now f (i + 1)) (fun k => v.ownBlock = some k) := (m.mono (fun k hk => Or.inl hk)).later ((Grw.rfl' _).alloc o)
  have h2 := h1.put (G := fun k => v.ownBlock = some k) (grownBy_frm hg) (fun k hk => ⟨hk, hn k hk⟩) hp
  have hsz : (wr.alloc o).heap.size ≤ w1.heap.size := hg.size
  refine ⟨?_, by rw [cu_succ]; exact ho, fun k hk => ?_⟩
  · rcases hb with e | e
    · exact h2.mono (fun k hk => by rw [← e]; exact hk)
    · obtain ⟨S, e1, a1, a2, a3, a4⟩ := h1
      obtain ⟨S2, e2, b1, b2, b3, b4⟩ := h2
      have hc := m
      refine ⟨S, e1, a1.frm (grownBy_frm hg) (fun k hk c => (a4 k c).2 hk) (fun c => by have := hn 0 c; omega), a2, b3, fun k hk => ?_⟩
      rw [e] at hk
      injection hk with hk
      have := (ho.lt k (by rw [e, hk])).2
      refine ⟨this, fun c => ?_⟩
      have := a1.lt c
      omega
  · rcases hb with e | e
    · rw [e] at hk; exact hn k hk
    · rw [e] at hk
      injection hk with hk
      have := Below.size h1.grw
      omega
set_option maxHeartbeats 8000000 in
set_option maxRecDepth 100000 in
theorem laid_walk (ao : Option Addr) (n cap now : Nat) (f : Nat → Nat) (w : World) (t : Tab w) (hn : now < 2 ^ 64) (hr : RowU w ao n f) (hf : ∀ j, j < n → f j < 2 ^ 64) (hl : n ≤ 9223372036854775807) :
    Calls Tryd.prog 24 #[.agg #[.slice ao n cap], .int .u64 now] w (LaidR w now n f) := by
  have NW := Lib.hid (fun u (g : Grw w u) => new_M now u (tab_grw g t) hn)
  have RW := Lib.hid hr
  have POS := Lib.hid (tab_pos t)
  have SU : Hid (∀ j, j < n → ∃ (N : Nat) (o : Bool), (o = true ↔ now + f j < 2 ^ 64) ∧ (o = true → N = now + f j) ∧ ∀ u, Calls Tryd.prog 25 #[.int .u64 now, .int .u64 (f j : Nat)] u fun e w' => e = .returned (.agg #[.int .u64 (N : Nat), .bool o]) ∧ Grw u w') := (fun j hj => by
      by_cases hs : now + f j < 2 ^ 64
      · exact ⟨now + f j, true, by simp [hs], fun _ => rfl, fun u => rsum_is now (f j) _ true u hn (hf j hj) (sum_in hs).1 (sum_in hs).2⟩
      · exact ⟨0, false, by simp [hs], (fun c => by cases c), fun u => rsum_is now (f j) 0 false u hn (hf j hj) (sum_out hs).1 (sum_out hs).2⟩ : ∀ j, j < n → ∃ (N : Nat) (o : Bool), (o = true ↔ now + f j < 2 ^ 64) ∧ (o = true → N = now + f j) ∧ ∀ u, Calls Tryd.prog 25 #[.int .u64 now, .int .u64 (f j : Nat)] u fun e w' => e = .returned (.agg #[.int .u64 (N : Nat), .bool o]) ∧ Grw u w')
  have IN : Hid (∀ w0 p F u i, i < n → i ≤ 60 → 0 < f i → now + f i < 2 ^ 64 → MF w0 u p now (lay now f i) F → Calls Tryd.prog 9 #[.pointer (some ⟨p, 0, none⟩), .int .i64 (i : Nat), .int .u64 ((now + f i : Nat) : Int)] u fun e w' => e = .returned (.int .i64 0) ∧ MF w0 w' p now (lay now f (i + 1)) F ∧ Frm (fun k => ¬ F k) u w') := (fun w0 p F u i hi h60 h0 hs h => insert_F w0 p now _ _ F (i : Int) (now + f i) 0 u h ⟨by omega, by omega⟩ hs (by rw [lay_len]; omega) (lay_ins h0).1 (lay_ins h0).2 : ∀ w0 p F u i, i < n → i ≤ 60 → 0 < f i → now + f i < 2 ^ 64 → MF w0 u p now (lay now f i) F → Calls Tryd.prog 9 #[.pointer (some ⟨p, 0, none⟩), .int .i64 (i : Nat), .int .u64 ((now + f i : Nat) : Int)] u fun e w' => e = .returned (.int .i64 0) ∧ MF w0 w' p now (lay now f (i + 1)) F ∧ Frm (fun k => ¬ F k) u w')
  obtain ⟨i0, hi0, hz0, hz1, hz2⟩ := info_parts Tryd.info22
  obtain ⟨Q, hQ⟩ : ∃ Q : Ending → World → Prop, Q = LaidR w now n f := ⟨_, rfl⟩
  rw [← hQ]
  have QQ := Lib.hid hQ
  have g0 : Grw w (w.alloc (.cells #[.slice ao n cap] 56)) := (Grw.rfl' w).alloc _
  have G0 := Lib.hid g0
  have NX := Lib.hid (NW.out _ g0)
  have CB : Hid (∀ x, Grw (w.alloc (.cells #[.slice ao n cap] 56)) x → x.cell? ⟨w.heap.size, 0, none⟩ = some (.slice ao n cap)) := (fun x g => g.cell (by simp [go_sem]) : ∀ x, Grw (w.alloc (.cells #[.slice ao n cap] 56)) x → x.cell? ⟨w.heap.size, 0, none⟩ = some (.slice ao n cap))
  clear t hn hr hf hQ g0
  go_enter Tryd.func24, Tryd.ntmps24
  go_wp2_with fail
  refine NX.out.mono ?_
  rintro _ w1 ⟨p, rfl, hm⟩
  have M1 := Lib.hid hm
  have cb := CB.out _ hm.grw
  clear hm
  by_cases h60 : n ≤ 60
  · have h60i : decide ((n : Int) > 60) = false := by simp; omega
    have h60j : ¬ (60 : Int) < (n : Int) := by omega
    have L0 : Hid (Ly (w.alloc (.cells #[.slice ao n cap] 56)) w1 p now 0 f (.slice none 0 0)) := (⟨M1.out.mf.mono (fun k hk => by cases hk), World.ownsRow_nil _ _ _ _, fun k hk => by cases hk⟩ : Ly (w.alloc (.cells #[.slice ao n cap] 56)) w1 p now 0 f (.slice none 0 0))
    go_wp2_with fail
    go_loopw [8, 9] (fun u8 u9 wr => ∃ (i : Nat) (ao' : Option Addr) (cap' : Nat), i ≤ n ∧ u8 = .slice ao' i cap' ∧ u9 = .int .i64 i ∧ (∀ j, j < i → 0 < f j ∧ now + f j < 2 ^ 64) ∧ Ly (w.alloc (.cells #[.slice ao n cap] 56)) wr p now i f (.slice ao' i cap')) (fun _ u9 _ => n - (intOf u9).toNat)
    case atStart => exact ⟨0, none, 0, Nat.zero_le _, rfl, rfl, fun j hj => by omega, L0.out⟩
    case round =>
      clear cb
      obtain ⟨i, ao', cap', hi, rfl, rfl, hgood, hly⟩ := hrel
      have cb := CB.out _ hly.m.grw
      have GD := Lib.hid hgood
      have LY := Lib.hid hly
      by_cases hin : i < n
      · have hii : (i : Int) < (n : Int) := by omega
        obtain ⟨N, o, ho1, ho2, hC⟩ := SU.out i hin
        obtain ⟨b, off, rfl, hc⟩ := (RW.out.later (G0.out.trans hly.m.grw)).at (by omega : 0 < n)
        have c0 := hc i hin
        have C := Lib.hid (hC wr)
        obtain ⟨x, hx⟩ : ∃ x, f i = x := ⟨_, rfl⟩
        rw [hx] at c0 C ho1 ho2
        have HX := Lib.hid hx
        have CR : Hid (∀ u, Grw wr u → u.cell? ⟨b, off + i, none⟩ = some (.int .u64 (x : Nat)) ∧ u.cell? ⟨w.heap.size, 0, none⟩ = some (.slice (some ⟨b, off, none⟩) n cap)) := (fun u g => ⟨g.cell c0, g.cell cb⟩ : ∀ u, Grw wr u → u.cell? ⟨b, off + i, none⟩ = some (.int .u64 (x : Nat)) ∧ u.cell? ⟨w.heap.size, 0, none⟩ = some (.slice (some ⟨b, off, none⟩) n cap))
        clear hc hC hgood hly hx
        go_wp2_with fail
        refine C.out.mono ?_
        rintro _ w2 ⟨rfl, hg2⟩
        have G2 : Hid (Grw wr (w2.alloc (.cells #[.int .u64 (N : Nat), .bool o] 39))) := (hg2.alloc _ : Grw wr (w2.alloc (.cells #[.int .u64 (N : Nat), .bool o] 39)))
        have SZ2 := Lib.hid (Below.size hg2)
        have d0 : ∀ o : Obj, (w2.alloc o).cell? ⟨b, off + i, none⟩ = some (.int .u64 (x : Nat)) := fun o => (CR.out _ (hg2.alloc o)).1
        have d1 : ∀ o : Obj, (w2.alloc o).cell? ⟨w.heap.size, 0, none⟩ = some (.slice (some ⟨b, off, none⟩) n cap) := fun o => (CR.out _ (hg2.alloc o)).2
        have K2 := Lib.hid (Kp.new w2 (.int .u64 (N : Nat)) (.bool o) 39)
        clear hg2 c0 cb
        by_cases hbad : o = true ∧ 0 < x
        · obtain ⟨rfl, hx0⟩ := hbad
          have hs := ho1.1 rfl
          have hNx := ho2 rfl
          subst hNx
          have hxz : ((x : Int) == 0) = false := by simp; omega
          have hxz2 : ¬ (x : Int) = 0 := by omega
          have MA : Hid (MF (w.alloc (.cells #[.slice (some ⟨b, off, none⟩) n cap] 56)) (w2.alloc (.cells #[.int .u64 ((now + x : Nat) : Int), .bool true] 39)) p now (lay now f i) (fun k => (Value.slice ao' i cap').ownBlock = some k ∨ k = w2.heap.size)) := (LY.out.m.add G2.out (fun k hk => hk.imp id (fun e => by have h2 := SZ2.out; rw [size_new]; omega)) : MF (w.alloc (.cells #[.slice (some ⟨b, off, none⟩) n cap] 56)) (w2.alloc (.cells #[.int .u64 ((now + x : Nat) : Int), .bool true] 39)) p now (lay now f i) (fun k => (Value.slice ao' i cap').ownBlock = some k ∨ k = w2.heap.size))
          have OW2 := Lib.hid (ownsRow_frm LY.out.own (G2.out.frm (fun _ => False)) (fun _ _ e => e))
          have IX : Hid (Calls Tryd.prog 9 #[.pointer (some ⟨p, 0, none⟩), .int .i64 (i : Nat), .int .u64 ((now + x : Nat) : Int)] (w2.alloc (.cells #[.int .u64 ((now + x : Nat) : Int), .bool true] 39)) fun e w' => e = .returned (.int .i64 0) ∧ MF (w.alloc (.cells #[.slice (some ⟨b, off, none⟩) n cap] 56)) w' p now (lay now f (i + 1)) (fun k => (Value.slice ao' i cap').ownBlock = some k ∨ k = w2.heap.size) ∧ Frm (fun k => ¬ ((Value.slice ao' i cap').ownBlock = some k ∨ k = w2.heap.size)) (w2.alloc (.cells #[.int .u64 ((now + x : Nat) : Int), .bool true] 39)) w') := (by have := IN.out _ p _ _ i hin (by omega) (by rw [HX.out]; exact hx0) (by rw [HX.out]; exact hs) MA.out; rw [HX.out] at this; exact this : Calls Tryd.prog 9 #[.pointer (some ⟨p, 0, none⟩), .int .i64 (i : Nat), .int .u64 ((now + x : Nat) : Int)] (w2.alloc (.cells #[.int .u64 ((now + x : Nat) : Int), .bool true] 39)) fun e w' => e = .returned (.int .i64 0) ∧ MF (w.alloc (.cells #[.slice (some ⟨b, off, none⟩) n cap] 56)) w' p now (lay now f (i + 1)) (fun k => (Value.slice ao' i cap').ownBlock = some k ∨ k = w2.heap.size) ∧ Frm (fun k => ¬ ((Value.slice ao' i cap').ownBlock = some k ∨ k = w2.heap.size)) (w2.alloc (.cells #[.int .u64 ((now + x : Nat) : Int), .bool true] 39)) w')
          obtain ⟨N, hNd⟩ : ∃ N, now + x = N := ⟨_, rfl⟩
          rw [hNd] at IX K2 ⊢
          have HND := Lib.hid hNd
          clear MA hNd ho1 ho2
          go_wp2_with fail
          refine IX.out.mono ?_
          rintro _ w3 ⟨rfl, hm3, hf3⟩
          have M3 := Lib.hid hm3
          have K3 := K2.out.kept hf3 (Or.inr rfl)
          have y0 := K3.t.c0
          rw [HND.out] at OW2
          have OW3 := Lib.hid (ownsRow_frm OW2.out hf3 (fun k hk c => c (Or.inl hk)))
          have D1 := Lib.hid (one_u w3 N)
          have D2 : Hid (∀ u ∈ [Value.int .u64 (N : Nat)], u.oneCell' = true) := (fun u hu => by rw [List.mem_singleton] at hu; subst hu; rfl : ∀ u ∈ [Value.int .u64 (N : Nat)], u.oneCell' = true)
          have hXs : ¬ w2.heap.size = w3.heap.size := by have := K3.lt; omega
          clear hm3 hf3 K3 d0 d1
          go_wp2_with (at_builtin; refine wpList_append_mine _ rfl _ _ 54 rfl 22 i0 _ 1 8 Tryd.underlying54 hi0 hz0 hz1 hz2 rfl (by decide) _ _ _ rfl (World.ownsRow.alloc OW3.out _) ⟨w3.heap.size, 0, none⟩ 1 1 [Value.int .u64 (N : Nat)] rfl rfl D1.out D2.out (by unfold maxLen; omega) (by omega) ?_)
          intro v' w4 hown' hgrow hblk
          have LA := Ly.app (v' := v') (o := .cells #[.int .u64 (N : Nat)] 22) (by rw [size_new]; omega) M3.out LY.out.new (by rw [HX.out, HND.out]; exact hown') hgrow (by rw [size_new]; exact hblk)
          obtain ⟨ao2, cap2, rfl, _⟩ := own_rowU LA.own
          have LB := Lib.hid LA
          clear hown' hgrow hblk LA y0
          go_wp2_with fail
          go_roundw
          case rel => exact ⟨i + 1, ao2, cap2, by omega, rfl, by go_num, fun j hj => by
            rcases (by omega : j < i ∨ j = i) with c | c
            · exact GD.out j c
            · rw [c, HX.out]; exact ⟨hx0, hs⟩, LB.out⟩
          case measure => simp [intOf]; omega
        · have NO : Hid (¬ okL now n f) := (fun c => hbad (by have := c.2 i hin; rw [HX.out] at this; exact ⟨ho1.2 this.2, this.1⟩) : ¬ okL now n f)
          have GG : Hid (Grw w (w2.alloc (.cells #[.int .u64 (N : Nat), .bool o] 39))) := ((G0.out.trans LY.out.m.grw).trans G2.out : Grw w (w2.alloc (.cells #[.int .u64 (N : Nat), .bool o] 39)))
          cases o with
          | false =>
            clear hbad ho1 ho2
            go_wp2_with fail
            refine bodyPost_ret (v := .tuple #[.pointer (some ⟨p, 0, none⟩), .slice none 0 0, .bool false]) (by simp [results, Tryd.results24, go_sem]) rfl ?_
            rw [QQ.out]
            exact Or.inr ⟨NO.out, p, rfl, GG.out⟩
          | true =>
            have hx0 : ¬ 0 < x := fun c => hbad ⟨rfl, c⟩
            have hxz : ((x : Int) == 0) = true := by simp; omega
            have hxz2 : (x : Int) = 0 := by omega
            clear hbad ho1 ho2
            go_wp2_with fail
            refine bodyPost_ret (v := .tuple #[.pointer (some ⟨p, 0, none⟩), .slice none 0 0, .bool false]) (by simp [results, Tryd.results24, go_sem]) rfl ?_
            rw [QQ.out]
            exact Or.inr ⟨NO.out, p, rfl, GG.out⟩
      · obtain rfl : i = n := by omega
        have hii : ¬ (i : Int) < (i : Int) := by omega
        have RU := own_rowU hly.own
        obtain ⟨a9, c9, e9, r9⟩ := RU
        injection e9 with e91 e92 e93
        subst e91 e93
        have R9 := Lib.hid r9
        clear r9 hly hgood
        go_wp2_with fail
        refine bodyPost_ret (v := .tuple #[.pointer (some ⟨p, 0, none⟩), .slice ao' i cap', .bool true]) (by simp [results, Tryd.results24, go_sem]) rfl ?_
        rw [QQ.out]
        exact Or.inl ⟨⟨h60, GD.out⟩, p, _, _, rfl, LY.out.m.pre G0.out, R9.out, fun k hk => Nat.le_trans (Below.size G0.out) (LY.out.new k hk)⟩
  · have h60i : decide ((n : Int) > 60) = true := by simp; omega
    have h60j : (60 : Int) < (n : Int) := by omega
    have GG : Hid (Grw w w1) := (G0.out.trans M1.out.grw : Grw w w1)
    go_wp2_with fail
    refine bodyPost_ret (v := .tuple #[.pointer (some ⟨p, 0, none⟩), .slice none 0 0, .bool false]) (by simp [results, Tryd.results24, go_sem]) rfl ?_
    rw [QQ.out]
    exact Or.inr ⟨fun c => h60 c.1, p, rfl, GG.out⟩
end Go.Proofs.YtjkhgpdhhnfmlaaDoor

/- Which of the timers 0, 1, .. are left in a list; how many on each level; the greatest time on each. -/
namespace Go.Proofs.YtjkhgpdhhnfmlaaDoor
open Go.RowKit TM MK
open RG (Du La listR putB putR dropR dropO takeR hasId Srt)
open VM (RK BK lvl idsD)

def inL (L : List Du) (a : Nat → Nat) (j : Nat) : Bool := decide ((⟨(j : Int), a j⟩ : Du) ∈ L)
/-- each timer of L is one of those below n. -/
def Fr (L : List Du) (a : Nat → Nat) (n : Nat) : Prop := ∀ d ∈ L, ∃ j, j < n ∧ d = ⟨(j : Int), a j⟩
theorem inL_atO {L : List Du} {a : Nat → Nat} {n : Nat} (hn : (idsD L).Nodup) (h : Fr L a n) (j : Nat) : atO L (j : Int) = if inL L a j then some (a j) else none := by
  by_cases c : (⟨(j : Int), a j⟩ : Du) ∈ L
  · have e : inL L a j = true := decide_eq_true c
    rw [e]
    exact atO_of hn c
  · have e : inL L a j = false := decide_eq_false c
    rw [e]
    refine atO_none fun d hd q => ?_
    obtain ⟨i, hi, rfl⟩ := h d hd
    have q' : (i : Int) = (j : Int) := q
    have : i = j := by omega
    subst this
    exact c hd
theorem nodup_of_ids {L : List Du} (h : (idsD L).Nodup) : L.Nodup := by
  unfold VM.idsD at h
  unfold List.Nodup at *
  rw [List.pairwise_map] at h
  exact h.imp (fun hne e => hne (by rw [e]))
theorem inL_perm {L : List Du} {a : Nat → Nat} {n : Nat} (hn : (idsD L).Nodup) (h : Fr L a n) : L.Perm (((List.range n).filter (inL L a)).map (fun j : Nat => (⟨(j : Int), a j⟩ : Du))) := by
  refine (List.perm_ext_iff_of_nodup (nodup_of_ids hn) ?_).2 fun d => ?_
  · unfold List.Nodup
    rw [List.pairwise_map]
    refine ((List.nodup_range (n := n)).filter _).imp ?_
    intro i j hij e
    injection e with e1 _
    exact hij (by omega)
  · rw [List.mem_map]
    constructor
    · intro hd
      obtain ⟨j, hj, rfl⟩ := h d hd
      exact ⟨j, List.mem_filter.2 ⟨List.mem_range.2 hj, decide_eq_true hd⟩, rfl⟩
    · rintro ⟨j, hj, rfl⟩
      exact of_decide_eq_true (List.mem_filter.1 hj).2
def lcN (now : Nat) (L : List Du) (a : Nat → Nat) (i k : Nat) : Nat := ((List.range i).filter (fun j => inL L a j && decide (lvl now (a j) = k))).length
def leN (L : List Du) (a : Nat → Nat) (i : Nat) : Nat := ((List.range i).filter (inL L a)).length
theorem lcN_succ (now : Nat) (L : List Du) (a : Nat → Nat) (i k : Nat) : lcN now L a (i + 1) k = if inL L a i && decide (lvl now (a i) = k) then lcN now L a i k + 1 else lcN now L a i k := by
  unfold lcN
  rw [List.range_succ, List.filter_append, List.length_append, List.filter_cons]
  split <;> simp
theorem leN_succ (L : List Du) (a : Nat → Nat) (i : Nat) : leN L a (i + 1) = if inL L a i then leN L a i + 1 else leN L a i := by
  unfold leN
  rw [List.range_succ, List.filter_append, List.length_append, List.filter_cons]
  split <;> simp
theorem lcN_all {now : Nat} {L : List Du} {a : Nat → Nat} {n : Nat} (hn : (idsD L).Nodup) (h : Fr L a n) (k : Nat) : lcN now L a n k = ld now L k := by
  unfold ld lcN
  rw [((inL_perm hn h).filter _).length_eq, List.filter_map, List.length_map, List.filter_filter]
  congr 1
  apply List.filter_congr
  intro j _
  exact Bool.and_comm _ _
theorem leN_all {L : List Du} {a : Nat → Nat} {n : Nat} (hn : (idsD L).Nodup) (h : Fr L a n) : leN L a n = L.length := by
  rw [(inL_perm hn h).length_eq, List.length_map]
  rfl
theorem leN_le (L : List Du) (a : Nat → Nat) (i : Nat) : leN L a i ≤ i := by
  unfold leN
  exact Nat.le_trans (List.length_filter_le _ _) (by simp)
theorem lcN_le (now : Nat) (L : List Du) (a : Nat → Nat) (i k : Nat) : lcN now L a i k ≤ i := by
  unfold lcN
  exact Nat.le_trans (List.length_filter_le _ _) (by simp)
def mxN (now : Nat) (L : List Du) (a : Nat → Nat) : Nat → Nat → Nat
  | 0, _ => 0
  | i + 1, k => if inL L a i && decide (lvl now (a i) = k) then max (mxN now L a i k) (a i) else mxN now L a i k
theorem mxN_is (now : Nat) (L : List Du) (a : Nat → Nat) (i k : Nat) : mxN now L a i k = 0 ∨ ∃ j, j < i ∧ inL L a j = true ∧ lvl now (a j) = k ∧ mxN now L a i k = a j := by
  induction i with
  | zero => exact Or.inl rfl
  | succ i ih =>
    unfold mxN
    by_cases c : (inL L a i && decide (lvl now (a i) = k)) = true
    · rw [if_pos c]
      rw [Bool.and_eq_true, decide_eq_true_eq] at c
      rcases Nat.le_total (mxN now L a i k) (a i) with g | g
      · rw [Nat.max_eq_right g]
        exact Or.inr ⟨i, by omega, c.1, c.2, rfl⟩
      · rw [Nat.max_eq_left g]
        rcases ih with e | ⟨j, h1, h2⟩
        · exact Or.inl e
        · exact Or.inr ⟨j, by omega, h2⟩
    · rw [if_neg c]
      rcases ih with e | ⟨j, h1, h2⟩
      · exact Or.inl e
      · exact Or.inr ⟨j, by omega, h2⟩
/-- those on lower levels are due ahead. -/
theorem mx_less {now : Nat} {L : List Du} {a : Nat → Nat} {i k j : Nat} (hL : ∀ d ∈ L, now ≤ d.t) (hpos : 0 < a j) (hj : inL L a j = true) (hk : k < lvl now (a j)) : mxN now L a i k < a j := by
  have hd := hL _ (of_decide_eq_true hj)
  simp only at hd
  rcases mxN_is now L a i k with e | ⟨j2, _, _, h3, h4⟩
  · omega
  · rw [h4]
    exact VM.lvl_less hd (by omega)
/-- seven numbers. -/
def a7 (g : Nat → Nat) : Array Value := ((List.range 7).map fun i => Value.int .i64 (g i : Nat)).toArray
def u7 (g : Nat → Nat) : Array Value := ((List.range 7).map fun i => Value.int .u64 (g i : Nat)).toArray
theorem a7_get (g : Nat → Nat) (i : Nat) (h : i < 7) : (a7 g)[i]? = some (.int .i64 (g i : Nat)) := by unfold a7; simp [h]
theorem u7_get (g : Nat → Nat) (i : Nat) (h : i < 7) : (u7 g)[i]? = some (.int .u64 (g i : Nat)) := by unfold u7; simp [h]
theorem a7_set (g g' : Nat → Nat) (k : Nat) (h : k < 7) (e : ∀ i, i ≠ k → g' i = g i) : (a7 g).setIfInBounds k (.int .i64 (g' k : Nat)) = a7 g' := by
  apply Array.ext_getElem?
  intro i
  rw [Array.getElem?_setIfInBounds]
  by_cases hi : i < 7
  · rw [a7_get g' i hi]
    by_cases c : k = i
    · subst c; rw [if_pos rfl, if_pos (by unfold a7; simp; omega)]
    · rw [if_neg c, a7_get g i hi, e i (fun q => c q.symm)]
  · have h1 : (a7 g')[i]? = none := by unfold a7; simp; omega
    have h2 : (a7 g)[i]? = none := by unfold a7; simp; omega
    rw [h1, h2, if_neg (by omega)]
theorem u7_set (g g' : Nat → Nat) (k : Nat) (h : k < 7) (e : ∀ i, i ≠ k → g' i = g i) : (u7 g).setIfInBounds k (.int .u64 (g' k : Nat)) = u7 g' := by
  apply Array.ext_getElem?
  intro i
  rw [Array.getElem?_setIfInBounds]
  by_cases hi : i < 7
  · rw [u7_get g' i hi]
    by_cases c : k = i
    · subst c; rw [if_pos rfl, if_pos (by unfold u7; simp; omega)]
    · rw [if_neg c, u7_get g i hi, e i (fun q => c q.symm)]
  · have h1 : (u7 g')[i]? = none := by unfold u7; simp; omega
    have h2 : (u7 g)[i]? = none := by unfold u7; simp; omega
    rw [h1, h2, if_neg (by omega)]
theorem a7_zero : a7 (fun _ => 0) = #[.int .i64 0, .int .i64 0, .int .i64 0, .int .i64 0, .int .i64 0, .int .i64 0, .int .i64 0] := by simp [a7, List.range, List.range.loop]
theorem u7_zero : u7 (fun _ => 0) = #[.int .u64 0, .int .u64 0, .int .u64 0, .int .u64 0, .int .u64 0, .int .u64 0, .int .u64 0] := by simp [u7, List.range, List.range.loop]
theorem a7_lit (g : Nat → Nat) : a7 g = #[.int .i64 (g 0 : Nat), .int .i64 (g 1 : Nat), .int .i64 (g 2 : Nat), .int .i64 (g 3 : Nat), .int .i64 (g 4 : Nat), .int .i64 (g 5 : Nat), .int .i64 (g 6 : Nat)] := by simp [a7, List.range, List.range.loop]
/-- what is left of the timers laid, behind an advance. -/
theorem fr_lay (now : Nat) (f : Nat → Nat) (n : Nat) : Fr (lay now f n) (fun j => now + f j) n := fun d hd => (mem_lay now f n d).1 hd
theorem Fr.sub {L M : List Du} {a : Nat → Nat} {n : Nat} (h : Fr L a n) (e : ∀ d ∈ M, d ∈ L) : Fr M a n := fun d hd => h d (e d hd)
end Go.Proofs.YtjkhgpdhhnfmlaaDoor
