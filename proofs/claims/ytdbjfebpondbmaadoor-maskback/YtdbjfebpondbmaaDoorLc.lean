/- The law MaskBack at this program. -/
import Derived.Test.YtdbjfebpondbmaaDoorLa
import Derived.Test.YtdbjfebpondbmaaDoorMb
import Derived.Deep.RegionHeld3
namespace Go.Proofs.YtdbjfebpondbmaaDoor
open Go.RowKit MK
set_option linter.unusedSimpArgs false

/-- append, inside a region that draws its order. -/
theorem step_append_own {P : Program} {ops : Array Oper} {o : Oper} {a : Act} {w : World} {K : Act → World → Prop} {Q : Exit → Act → World → Prop} {E : Prop} (hgd : o.guard = none) (s x : Operand) (t : TypeId)
    (ho : o.op = .call { callee := .builtin .append, args := #[s, x], argTypes := #[t, t] })
    (base : Nat) (e : TypeId) (i : TypeInfo) (z : Value) (size bytes : Nat) (ht : P.underlying t = some (.slice e)) (hi : P.info? e = some i) (hz : i.zero = some z)
    (hsize : i.size = size) (hby : i.bytes = bytes) (hzs : z.cells.size = size) (hsz : 0 < size)
    (v : Value) (n : Nat) (xs : List Value) (hs : a.eval s = v) (hown : w.ownsRow base e size v n xs)
    (ad : Addr) (m c : Nat) (news : List Value) (hx : a.eval x = .slice (some ad) m c) (hl : news.length = m * size) (hnews : ∀ j u, news[j]? = some u → w.cell? (ad.add j) = some u) (h1 : ∀ u ∈ news, u.oneCell' = true)
    (h63 : n + m ≤ maxLen) (hbytes : (n + m) * bytes ≤ 140737488355328) (hbase : base ≤ w.heap.size)
    (h : ∀ v' w', w'.ownsRow base e size v' (n + m) (xs ++ news) → w.grownBy w' v.ownBlock → (v' = .slice none 0 0 ↔ v = .slice none 0 0 ∧ m = 0) → K (a.put o.dst v') w') :
    if Region.wanted o (yielded ops a.tmps) = true then Oper.wp P o a w K Q else E := by
  have hw : Region.wanted o (yielded ops a.tmps) = true := by simp [Region.wanted, hgd]
  rw [if_pos hw]
  exact wp_append_own w s x t ho base e i z size bytes ht hi hz hsize hby hzs hsz v n xs hs hown ad m c news hx hl hnews h1 h63 hbytes hbase h
theorem two_cells (w : World) (y z : Int) : ∀ (j : Nat) (u : Value), [Value.int .i64 y, Value.int .i64 z][j]? = some u → (w.alloc (.cells #[.int .i64 y, .int .i64 z] 3)).cell? ((⟨w.heap.size, 0, none⟩ : Addr).add j) = some u := by
  intro j u hj
  match j, hj with
  | 0, hj => simp at hj; subst hj; simp [Addr.add]
  | 1, hj => simp at hj; subst hj; simp [Addr.add]
theorem RowF.in {w x : World} {ao : Option Addr} {n : Nat} {f : Nat → Int} (h : RowF w ao n f) (g : Grw w x) (hn : 0 < n) : ∃ b off, ao = some ⟨b, off, none⟩ ∧ b < w.heap.size ∧ ∀ j, j < n → x.cell? ⟨b, off + j, none⟩ = some (.int .i64 (f j)) := by
  rcases h with h | ⟨b, off, e, hb, hc⟩
  · omega
  · exact ⟨b, off, e, hb, fun j hj => g.cell (hc j hj)⟩
theorem wr64 (x : Int) (y : Nat) (h : x = (y : Int)) (hy : y < 9223372036854775808) : IntKind.i64.wrap x = (y : Int) := by
  subst h
  rw [IntKind.wrap_i64]
  omega
set_option maxHeartbeats 2000000 in
set_option maxRecDepth 100000 in
theorem back_walk (m tn : Nat) (w : World) (hm : m < 18446744073709551616) (htn : tn < 256) (t : Tab w) :
    Calls Tryd.prog 4 #[.int .u64 m, .int .u8 tn] w fun e w' => e = .returned (.bool true) ∧ Grw w w' := by
  obtain ⟨i0, hi, hz0, hz1, hz2⟩ := info_parts Tryd.info3
  have A := Lib.hid (list_any m w hm)
  go_enter Tryd.func4, Tryd.ntmps4
  go_wp2_with fail
  refine A.out.mono ?_
  rintro _ w1 ⟨v, rfl, hown, hg1⟩
  have hl := els_len m
  have hnone := els_none hm
  obtain ⟨ao, cap, rfl, hrow⟩ := hown.row
  obtain ⟨n, hn⟩ : ∃ n, (els m).length = n := ⟨_, rfl⟩
  obtain ⟨f, hf⟩ : ∃ f : Nat → Int, (fun j => (els m).getD j 0) = f := ⟨_, rfl⟩
  have hfl : fl n f = els m := by rw [← hn, ← hf]; exact fl_of _
  rw [hf, hn] at hrow
  rw [hn] at hl hnone
  rw [hn]
  have FE := Lib.hid (fl_els hfl)
  have TW := Lib.hid (tw_all (t := tn) hm hfl)
  have OE := Lib.hid (show ofL (fl n f) = m by rw [hfl]; exact ofL_els hm)
  have R := Lib.hid hrow
  have G := Lib.hid hg1
  have N := Lib.hid hnone
  clear hrow hg1 hnone hfl hf hown hn A
  go_wp2_with fail
  go_loopw [6] (fun c wr => ∃ k : Nat, k ≤ n ∧ c = .int .i64 k ∧ Grw w1 wr) (fun c _ => n - (intOf c).toNat)
  case atStart => exact ⟨0, Nat.zero_le _, rfl, Grw.rfl' _⟩
  case round =>
    obtain ⟨k, hk, rfl, hg⟩ := hrel
    by_cases hk' : k < n
    · have hki : (k : Int) < (n : Int) := by omega
      obtain ⟨b, off, rfl, hc⟩ := (R.out.later hg).at (by omega : 0 < n)
      have hcx := gw_cell (hc k hk')
      have hh := FE.out.1 k hk'
      have hz := has_slot hh
      have hbd : ∀ p : GW wr, Calls Tryd.prog 15 #[.int .u64 m, .int .i64 (f k)] p.x fun e w' => e = .returned (.bool true) ∧ p.x = w' := fun p => hasI_is m (f k) true p.x hm hh
      have GG := Lib.hid hg
      rcases (by omega : k = 0 ∨ 0 < k) with hk0 | hk0
      · subst hk0
        obtain ⟨z, hze⟩ : ∃ z, f 0 = z := ⟨_, rfl⟩
        rw [hze] at hcx hz hbd
        simp only [Nat.add_zero] at hcx
        have B := Lib.hid hbd
        have hz1' : decide (z < 0) = false := by simp; omega
        have hz2' : decide (64 ≤ z) = false := by simp; omega
        clear hc hh hg hze hbd hz
        go_wp2_with fail
        refine wp_region_grown (by kernel_rfl) (by kernel_rfl) ?_
        repeat (go_big_quiet_step (first | (go_at_call 15; exact calls_grown_same (B.out _))))
        refine wpQuiet_nil ?_
        rintro _ ⟨q', rfl⟩
        have GQ := Lib.hid (GG.out.trans q'.h)
        go_wp2_with fail
        go_roundw
        case rel => exact ⟨1, by omega, by go_num, GQ.out⟩
        case measure => simp [intOf]; omega
      · have hk1 : decide (0 < k) = true := by simp; omega
        have hcy := gw_cell (hc (k - 1) (by omega))
        have hlt := FE.out.2 (k - 1) (by omega)
        rw [show k - 1 + 1 = k by omega] at hlt
        obtain ⟨z, hze⟩ : ∃ z, f k = z := ⟨_, rfl⟩
        obtain ⟨y, hye⟩ : ∃ y, f (k - 1) = y := ⟨_, rfl⟩
        rw [hze] at hcx hz hbd hlt
        rw [hye] at hcy hlt
        have B := Lib.hid hbd
        have hz1' : decide (z < 0) = false := by simp; omega
        have hz2' : decide (64 ≤ z) = false := by simp; omega
        have hz3' : decide (z ≤ y) = false := by simp; omega
        clear hc hh hg hze hye hbd hz hlt
        go_wp2_with fail
        refine wp_region_grown (by kernel_rfl) (by kernel_rfl) ?_
        repeat (go_big_quiet_step (first | (go_at_call 15; exact calls_grown_same (B.out _))))
        refine wpQuiet_nil ?_
        rintro _ ⟨q', rfl⟩
        have GQ := Lib.hid (GG.out.trans q'.h)
        go_wp2_with fail
        go_roundw
        case rel => exact ⟨k + 1, by omega, by go_num, GQ.out⟩
        case measure => simp [intOf]; omega
    · have hki : ¬ (k : Int) < (n : Int) := by omega
      obtain ⟨wb, rfl⟩ : ∃ wb, wb = wr := ⟨_, rfl⟩
      have GG := Lib.hid hg
      clear hg
      go_wp2_with fail
      go_loopw [7, 8] (fun v c wx => ∃ j : Nat, j ≤ n ∧ c = .int .i64 j ∧ Own wx wb.heap.size v (tw n tn f j) ∧ Grw wb wx) (fun _ c _ => n - (intOf c).toNat)
      case atStart => exact ⟨0, Nat.zero_le _, rfl, Own.nil _ _, Grw.rfl' _⟩
      case round =>
        obtain ⟨j, hj, rfl, hown, hg⟩ := hrel
        by_cases hj' : j < n
        · have hji : (j : Int) < (n : Int) := by omega
          obtain ⟨b, off, rfl, hb, hc⟩ := (R.out.later GG.out).in hg (by omega : 0 < n)
          obtain ⟨j1, hj1⟩ : ∃ j1, (j + tn) % n = j1 := ⟨_, rfl⟩
          obtain ⟨j2, hj2⟩ : ∃ j2, n - 1 - j = j2 := ⟨_, rfl⟩
          have hl1 : j1 < n := by rw [← hj1]; exact Nat.mod_lt _ (by omega)
          have hl2 : j2 < n := by omega
          have hc1 := hc j1 hl1
          have hc2 := hc j2 hl2
          obtain ⟨js, hjs⟩ : ∃ js, j + tn = js := ⟨_, rfl⟩
          obtain ⟨n1, hn1⟩ : ∃ n1, n - 1 = n1 := ⟨_, rfl⟩
          have hw0 : IntKind.i64.wrap (tn : Int) = (tn : Int) := wr64 _ _ rfl (by omega)
          have hw1 : IntKind.i64.wrap ((j : Int) + (tn : Int)) = (js : Int) := wr64 _ _ (by omega) (by omega)
          have hw2 : IntKind.i64.wrap ((n : Int) - 1) = (n1 : Int) := wr64 _ _ (by omega) (by omega)
          have hw3 : IntKind.i64.wrap ((n1 : Int) - (j : Int)) = (j2 : Int) := wr64 _ _ (by omega) (by omega)
          have hm1 : (js : Int) % (n : Int) = (j1 : Int) := by rw [← hj1, ← hjs]; simp
          have hm2 : (js : Int).tmod (n : Int) = (j1 : Int) := by rw [Int.tmod_eq_emod_of_nonneg (by omega)]; exact hm1
          have hn0 : ((n : Int) == 0) = false := by simp; omega
          have hn00 : ¬ (n : Int) = 0 := by omega
          have hn000 : ¬ n = 0 := by omega
          have hi1 : (j1 : Int) < (n : Int) := by omega
          have hi2 : (j2 : Int) < (n : Int) := by omega
          have htw : tw n tn f (j + 1) = tw n tn f j ++ [f j1, f j2] := by rw [← hj1, ← hj2]; rfl
          obtain ⟨z1, hz1e⟩ : ∃ z, f j1 = z := ⟨_, rfl⟩
          obtain ⟨z2, hz2e⟩ : ∃ z, f j2 = z := ⟨_, rfl⟩
          rw [hz1e] at hc1 htw
          rw [hz2e] at hc2 htw
          have hlt := tw_len n tn f j
          have S := Lib.hid htw
          have HL := Lib.hid hlt
          have hsz := Below.size hg
          have Q := Lib.hid (And.intro hown hg)
          have ON := Lib.hid (show (wr.drew).ownsRow wb.heap.size 3 1 u7 (2 * j) ((tw n tn f j).map (Value.int .i64)) by rw [← hlt]; exact hown)
          have NE := Lib.hid (show some b ≠ u7.ownBlock from fun e => by have := (hown.lt b e.symm).1; omega)
          clear htw hlt hc hown hg hz1e hz2e hj1 hj2 hjs hn1
          go_wp2_with fail
          go_region_held3 (fun x => x.cell? ⟨b, off + j1, none⟩ = some (.int .i64 z1) ∧ x.cell? ⟨b, off + j2, none⟩ = some (.int .i64 z2)) (first | go_keep | exact ⟨hgrow.cell (by go_keep) NE.out, hgrow.cell (by go_keep) NE.out⟩)
            (first | (refine step_append_own rfl (.tmp 60) (.tmp 79) 23 rfl wb.heap.size 3 i0 (.int .i64 0) 1 8 Tryd.underlying23 hi hz0 hz1 hz2 rfl (by decide) u7 (2 * j) ((tw n tn f j).map (Value.int .i64)) (by simp [Act.eval, Act.put]) (World.ownsRow.alloc ON.out _) ⟨wr.heap.size, 0, none⟩ 2 2 [.int .i64 z1, .int .i64 z2] (by simp [Act.eval, Act.put]) rfl (two_cells wr.drew z1 z2) (int_cells [z1, z2]) (by unfold maxLen; omega) (by omega) (by simp; omega) ?_; intro v' w2 hown' hgrow _))
          have U := Lib.hid (own_append (news := [z1, z2]) (o := .cells #[.int .i64 z1, .int .i64 z2] 3) Q.out.2 Q.out.1 (by rw [HL.out]; exact hown') ⟨hgrow.os, hgrow.tape, hgrow.output, hgrow.size, hgrow.block⟩)
          rw [← S.out] at U
          clear hown' hgrow
          go_wp2_with fail
          go_roundw
          case rel => exact ⟨j + 1, by omega, by go_num, U.out.2, U.out.1⟩
          case measure => simp [intOf]; omega
        · have hji : ¬ (j : Int) < (n : Int) := by omega
          have hje : j = n := by omega
          subst hje
          have hoa := of_any ao j cap f wr (by omega) ((R.out.later GG.out).later hg)
          rw [OE.out] at hoa
          have hob := of_list (by rw [tw_len]; omega) hown.row
          rw [TW.out] at hob
          have OA := Lib.hid hoa
          have OB := Lib.hid hob
          have GW3 := Lib.hid ((G.out.trans GG.out).trans hg)
          have W := Lib.hid (wakes_any wr (tab_grw GW3.out t))
          clear hoa hob hown hg
          by_cases hm0 : m = 0
          · have hj0 : j = 0 := N.out.2 hm0
            have hb1 : ((j : Int) == 0) = true := eq0_yes hj0
            have hb2 : ((m : Int) == 0) = true := eq0_yes hm0
            clear hm0 hj0
            go_wp2_with fail
            refine OA.out.mono ?_
            rintro _ w3 ⟨rfl, rfl⟩
            go_wp2_with fail
            refine OB.out.mono ?_
            rintro _ w3 ⟨rfl, rfl⟩
            go_wp2_with fail
            refine W.out.mono ?_
            rintro _ w3 ⟨rfl, hw3⟩
            have GE := Lib.hid (GW3.out.trans hw3)
            clear hw3
            go_wp2_with fail
            go_ret
            exact ⟨rfl, GE.out⟩
          · have hj0 : j ≠ 0 := fun h => hm0 (N.out.1 h)
            have hb1 : ((j : Int) == 0) = false := eq0_no hj0
            have hb2 : ((m : Int) == 0) = false := eq0_no hm0
            clear hm0 hj0
            go_wp2_with fail
            refine OA.out.mono ?_
            rintro _ w3 ⟨rfl, rfl⟩
            go_wp2_with fail
            refine OB.out.mono ?_
            rintro _ w3 ⟨rfl, rfl⟩
            go_wp2_with fail
            refine W.out.mono ?_
            rintro _ w3 ⟨rfl, hw3⟩
            have GE := Lib.hid (GW3.out.trans hw3)
            clear hw3
            go_wp2_with fail
            go_ret
            exact ⟨rfl, GE.out⟩
end Go.Proofs.YtdbjfebpondbmaaDoor
