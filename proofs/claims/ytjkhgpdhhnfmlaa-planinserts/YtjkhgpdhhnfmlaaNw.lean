/- The law PlanInserts, walked. -/
import Derived.Test.YtjkhgpdhhnfmlaaNj
import Derived.Deep.LoopGhost
namespace Go.Proofs.Ytjkhgpdhhnfmlaa
open Go.RowKit
open RG (Du)
open PM
set_option linter.unusedSimpArgs false

/-- n numbers of type uint64 lie where a slice begins. -/
def RowU (w : World) (ao : Option Addr) (n : Nat) (f : Nat → Nat) : Prop :=
  n = 0 ∨ ∃ b off, ao = some ⟨b, off, none⟩ ∧ b < w.heap.size ∧ ∀ j, j < n → w.cell? ⟨b, off + j, none⟩ = some (.int .u64 (f j : Nat))
theorem RowU.at {w x : World} {ao : Option Addr} {n : Nat} {f : Nat → Nat} (h : RowU w ao n f) (g : Grw w x) {j : Nat} (hj : j < n) : ∃ b off, ao = some ⟨b, off, none⟩ ∧ ∀ i, i < n → x.cell? ⟨b, off + i, none⟩ = some (.int .u64 (f i : Nat)) := by
  rcases h with h | ⟨b, off, e, _, hc⟩
  · omega
  · exact ⟨b, off, e, fun i hi => g.cell (hc i hi)⟩
/-- between the rounds of the first loop. -/
structure N1 (w x : World) (τ : Nat → Nat) (s N i : Nat) (a b c : Value) : Prop where
  g : Grw w x
  a : NewD w x a (RG.sort (nL τ i))
  b : NewD w x b (RG.sort (nK τ s N i))
  c : NewD w x c (nL τ i)
theorem N1.later {w x y : World} {τ : Nat → Nat} {s N i : Nat} {a b c : Value} (h : N1 w x τ s N i a b c) (g : Grw x y) : N1 w y τ s N i a b c :=
  ⟨h.g.trans g, h.a.later g, h.b.later g, h.c.later g⟩

set_option maxHeartbeats 4000000 in
set_option maxRecDepth 100000 in
theorem inserts_walk (ao : Option Addr) (n cap t : Nat) (τ : Nat → Nat) (w : World) (hr : RowU w ao n τ) (ht : t < 256) :
    Calls Try.prog 4 #[.slice ao n cap, .int .u8 (t : Nat)] w fun e w' => e = .returned (.bool true) ∧ Grw w w' := by
  have WK := Lib.hid wakes_any
  by_cases c40 : 40 < n
  · have d1 : decide (40 < n) = true := by simp [c40]
    have d2 : decide ((40 : Int) < (n : Int)) = true := by simp; omega
    clear hr
    go_enter Try.func4, Try.ntmps4
    go_wp2_with fail
    refine (WK.out _).mono ?_
    rintro _ w1 ⟨rfl, hw⟩
    go_wp2_with fail
    go_ret
    exact ⟨rfl, hw⟩
  · have d1 : decide (40 < n) = false := by simp; omega
    have d2 : decide ((40 : Int) < (n : Int)) = false := by simp; omega
    have hn40 : n ≤ 40 := by omega
    have R := Lib.hid hr
    have q1 : IntKind.i64.wrap (t : Int) = t := by simp [IntKind.wrap_i64]; omega
    clear hr
    go_enter Try.func4, Try.ntmps4
    go_wp2_with fail
    go_loopw [5, 6, 7, 8] (fun s5 s6 s7 s8 wr => ∃ i : Nat, s8 = .int .i64 i ∧ i ≤ n ∧ N1 w wr τ t n i s5 s6 s7) (fun _ _ _ s8 _ => n - (intOf s8).toNat)
    case atStart => exact ⟨0, rfl, Nat.zero_le _, Grw.rfl' _, NewD.nil _ _, NewD.nil _ _, NewD.nil _ _⟩
    case round =>
      obtain ⟨i, rfl, hi, h1⟩ := hrel
      have H := Lib.hid h1
      clear h1
      by_cases ci : i < n
      · have d3 : decide (i < n) = true := by simp [ci]
        obtain ⟨k, hk⟩ : ∃ k, (i + t) % n = k := ⟨_, rfl⟩
        have hkn : k < n := by rw [← hk]; exact Nat.mod_lt _ (by omega)
        have q2 : IntKind.i64.wrap ((i : Int) + (t : Int)) = (i : Int) + (t : Int) := by simp [IntKind.wrap_i64]; omega
        have q3 : Int.tmod ((i : Int) + (t : Int)) (n : Int) = (k : Int) := by rw [Int.tmod_eq_emod_of_nonneg (by omega), ← hk, Int.natCast_emod, Int.natCast_add]
        have q4 : ((i : Int) + (t : Int)) % (n : Int) = (k : Int) := by rw [← hk, Int.natCast_emod, Int.natCast_add]
        have q5 : IntKind.i64.wrap ((i : Int) + 1) = ((i + 1 : Nat) : Int) := by simp [IntKind.wrap_i64]; omega
        have z1 : ¬ (n : Int) = 0 := by omega
        have z2 : ¬ (n : Int) = -1 := by omega
        have d4 : decide (k < n) = true := by simp [hkn]
        obtain ⟨b, off, rfl, hc⟩ := R.out.at H.out.g ci
        have x0 := hc i ci
        have x1 := hc k hkn
        have HK := Lib.hid hk
        have I1 := Lib.hid (ins_yes H.out.a (nD τ i) (by rw [RG.sort_len, nL_len]; omega) ((wis_nL τ (by omega)).perm (RG.sort_perm _)) ((gd_sort _).2 (nL_nodup τ i)) (fun e => nL_new τ i (sort_ids.1 e)))
        have I2 := Lib.hid (fun x g => ins_yes (H.out.b.later (y := x) g) (nD τ k) (by rw [RG.sort_len, nK_len]; omega) ((wis_nK τ (by omega) (by omega)).perm (RG.sort_perm _)) ((gd_sort _).2 (nK_nodup τ t n hi)) (fun e => nK_new τ ci (sort_ids.1 (hk ▸ e))))
        rw [show RG.put (nD τ i) (RG.sort (nL τ i)) = RG.sort (nL τ (i + 1)) by rw [nL_succ, RG.sort_snoc]] at I1
        have hk2 : RG.put (nD τ k) (RG.sort (nK τ t n i)) = RG.sort (nK τ t n (i + 1)) := by rw [nK_succ, RG.sort_snoc, hk]
        rw [hk2] at I2
        simp only [dv, nD] at I1 I2
        clear hk hc hk2
        go_wp2_with fail
        refine I1.out.mono ?_
        rintro _ w1 ⟨a1, rfl, ha, g1⟩
        have A1 := Lib.hid (ha.base (Below.size H.out.g))
        have A1o := Lib.hid (ha.other H.out.c.lt)
        have G1 := Lib.hid g1
        have x1' := g1.cell x1
        have x0' := g1.cell x0
        clear ha g1 x0 x1
        go_wp2_with fail
        refine (I2.out _ G1.out).mono ?_
        rintro _ w2 ⟨b1, rfl, hb, g2⟩
        have B1 := Lib.hid (hb.base (Nat.le_trans (Below.size H.out.g) (Below.size G1.out)))
        have B1o := Lib.hid (hb.other (fun q hq => Nat.lt_of_lt_of_le (H.out.c.lt q hq) (Below.size G1.out)))
        have A2 := Lib.hid (A1.out.later g2)
        have x0'' := g2.cell x0'
        have G2 := Lib.hid (G1.out.trans g2)
        clear hb g2 x0' x1'
        obtain ⟨ax, ac, rfl, _⟩ := A2.out.row
        have GD := Lib.hid (gd_yes A2.out (by rw [RG.sort_len, nL_len]; omega) ((wis_nL τ (by omega)).perm (RG.sort_perm _)) ((gd_sort _).2 (nL_nodup τ (i + 1))))
        have hl : (RG.sort (nL τ (i + 1))).length = i + 1 := by rw [RG.sort_len, nL_len]
        rw [hl] at A1 A1o A2 GD ⊢
        obtain ⟨i1, hi1⟩ : ∃ i1, i + 1 = i1 := ⟨_, rfl⟩
        have HI := Lib.hid hi1
        rw [hi1] at A1 A1o A2 GD B1 q5 ⊢
        have z3 : ((i1 : Int) != (i1 : Int)) = false := by simp
        clear hl hi1
        go_wp2_with fail
        refine GD.out.mono ?_
        rintro _ w3 ⟨rfl, g3⟩
        have H3 := Lib.hid (H.out.later (G2.out.trans g3))
        have A3 := Lib.hid (A2.out.later g3)
        have B3 := Lib.hid (B1.out.later g3)
        have x3 := g3.cell x0''
        have g3x := g3
        clear g3 x0''
        obtain ⟨c2, w4, hra, hcn, hg4, hkeep, hown⟩ := app_due (nD τ i) H3.out.c H3.out.g (by rw [nL_len]; omega)
        have RA := Lib.hid hra
        simp only [nD] at RA
        have N2 := Lib.hid (And.intro hcn (And.intro hg4 (And.intro (hkeep _ _ A3.out A1o.out) (hkeep _ _ B3.out B1o.out))))
        clear hra hcn hg4 hkeep hown
        go_wp2_with (at_builtin; refine wp_append_guarded _ rfl (.tmp 78) (.tmp 85) 22 rfl u7 (.slice (some ⟨w3.heap.size, 0, none⟩) 1 1) rfl rfl c2 w4 RA.out ?_)
        have hi1 := HI.out
        refine ⟨⟨i1, rfl, by omega, N2.out.2.1, ?_, ?_, ?_⟩, by simp [intOf]; omega⟩
        · exact N2.out.2.2.1
        · exact N2.out.2.2.2
        · have := N2.out.1; rw [← nL_succ, hi1] at this; exact this
      · have d3 : decide (i < n) = false := by simp; omega
        obtain rfl : i = n := by omega
        have hs := nsort_same τ t i
        have B0 : Hid (NewD w wr u6 (RG.sort (nL τ i))) := (by rw [← hs]; exact H.out.b : NewD w wr u6 (RG.sort (nL τ i)))
        have C1 := Lib.hid (dues_same u5 u6 _ wr (by rw [RG.sort_len, nL_len]; omega) H.out.a.row B0.out.row)
        clear hs
        go_wp2_with fail
        refine C1.out.mono ?_
        rintro _ w1 ⟨rfl, g1⟩
        have A1 := Lib.hid (H.out.a.later g1)
        have G1 := Lib.hid (H.out.g.trans g1)
        have PS := Lib.hid (psort_is u7 (nL τ i) w1 (H.out.c.later g1).are (by rw [nL_len]; omega))
        clear g1
        go_wp2_with fail
        refine PS.out.mono ?_
        rintro _ w2 ⟨v2, rfl, h2, g2⟩
        have A2 := Lib.hid (A1.out.later g2)
        have C2 := Lib.hid (dues_same u5 v2 _ w2 (by rw [RG.sort_len, nL_len]; omega) A2.out.row h2.row)
        have G2 := Lib.hid (G1.out.trans g2)
        clear h2 g2
        go_wp2_with fail
        refine C2.out.mono ?_
        rintro _ w3 ⟨rfl, g3⟩
        have A3 : Hid (NewD w w3 u5 (RG.sort (nM τ i 0))) := (A2.out.later g3 : NewD w w3 u5 (RG.sort (nM τ i 0)))
        have G3 := Lib.hid (G2.out.trans g3)
        clear g3
        go_wp2_with fail
        go_loopw [5, 14] (fun s5 s14 wr => ∃ j : Nat, s14 = .int .i64 j ∧ j ≤ i ∧ Grw w wr ∧ NewD w wr s5 (RG.sort (nM τ i j))) (fun _ s14 _ => i - (intOf s14).toNat)
        case atStart => exact ⟨0, rfl, Nat.zero_le _, G3.out, A3.out⟩
        case round =>
          obtain ⟨j, rfl, hj, hg, ha⟩ := hrel
          have G := Lib.hid hg
          have A := Lib.hid ha
          clear hg ha
          by_cases cj : j < i
          · have d4 : decide (j < i) = true := by simp [cj]
            have hM : (nD τ j).id ∈ ids (nM τ i j) := by rw [nM_cons τ cj]; exact mem_ids.2 ⟨_, List.mem_cons_self, rfl⟩
            have hW : Wis (RG.sort (nM τ i j)) := (wis_nM τ (by omega)).perm (RG.sort_perm _)
            have hG : Gd (RG.sort (nM τ i j)) := (gd_sort _).2 (nM_nodup τ i j)
            have hL : (RG.sort (nM τ i j)).length ≤ 100000 := by rw [RG.sort_len, nM_len]; omega
            have K1 := Lib.hid (can_yes A.out (j : Int) hL hW hG (sort_ids.2 hM))
            rw [nM_del τ cj] at K1
            have K2 := Lib.hid (fun y (g : Grw wr y) => ins_twice (A.out.later g) ⟨(j : Int), 0⟩ hL hW hG (sort_ids.2 hM))
            simp only [dv] at K2
            have q6 : IntKind.i64.wrap ((j : Int) + 1) = ((j + 1 : Nat) : Int) := by simp [IntKind.wrap_i64]; omega
            have q7 : IntKind.i64.wrap ((i : Int) - (j : Int)) = (i : Int) - (j : Int) := by simp [IntKind.wrap_i64]; omega
            have q8 : IntKind.i64.wrap ((i : Int) - (j : Int) - 1) = ((i - (j + 1) : Nat) : Int) := by simp [IntKind.wrap_i64]; omega
            clear hM hW hG hL
            go_wp2_with fail
            refine K1.out.mono ?_
            rintro _ w4 ⟨a4, rfl, h4, g4⟩
            have A4 := Lib.hid (h4.base (Below.size G.out))
            have G4 := Lib.hid g4
            clear h4 g4
            go_wp2_with fail
            refine (K2.out _ G4.out).mono ?_
            rintro _ w5 ⟨a5, rfl, _, g5⟩
            have A5 := Lib.hid (A4.out.later g5)
            have G5 := Lib.hid (G.out.trans (G4.out.trans g5))
            clear g5
            obtain ⟨ax, ac, rfl, _⟩ := A5.out.row
            have GD := Lib.hid (gd_yes A5.out (by rw [RG.sort_len, nM_len]; omega) ((wis_nM τ (by omega)).perm (RG.sort_perm _)) ((gd_sort _).2 (nM_nodup τ i (j + 1))))
            have hl : (RG.sort (nM τ i (j + 1))).length = i - (j + 1) := by rw [RG.sort_len, nM_len]
            rw [hl] at A4 A5 GD ⊢
            obtain ⟨m, hm⟩ : ∃ m, i - (j + 1) = m := ⟨_, rfl⟩
            rw [hm] at A4 A5 GD q8 ⊢
            have z4 : ((m : Int) != (m : Int)) = false := by simp
            clear hl hm
            go_wp2_with fail
            refine GD.out.mono ?_
            rintro _ w6 ⟨rfl, g6⟩
            have A6 := Lib.hid (A5.out.later g6)
            have G6 := Lib.hid (G5.out.trans g6)
            clear g6
            go_wp2_with fail
            go_roundw
            case rel => exact ⟨j + 1, by first | rfl | go_num, by omega, G6.out, A6.out⟩
            case measure => simp [intOf]; omega
          · have d4 : decide (j < i) = false := by simp; omega
            obtain rfl : j = i := by omega
            have hl : (RG.sort (nM τ j j)).length = 0 := by rw [RG.sort_len, nM_len]; omega
            obtain ⟨ax, ac, rfl, _⟩ := A.out.row
            rw [hl] at A ⊢
            clear hl
            go_wp2_with fail
            refine (WK.out _).mono ?_
            rintro _ w7 ⟨rfl, g7⟩
            have G7 := Lib.hid (G.out.trans g7)
            clear g7
            go_wp2_with fail
            go_ret
            exact ⟨rfl, G7.out⟩
end Go.Proofs.Ytjkhgpdhhnfmlaa
