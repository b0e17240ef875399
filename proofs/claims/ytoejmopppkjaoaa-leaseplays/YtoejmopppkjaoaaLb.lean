/- The law LeaseNumbers. -/
import Derived.Test.YtoejmopppkjaoaaLa
namespace Go.Proofs.Ytoejmopppkjaoaa
open Go.RowKit
set_option linter.unusedSimpArgs false

set_option maxRecDepth 100000 in
theorem mod_any (n : Int) (m : Nat) (w : World) (h0 : 0 < m) (hm : m ≤ 64) :
    Calls Try.prog 9 #[.int .i64 n, .int .i64 (m : Int)] w fun e w' => e = .returned (.int .i64 (n % (m : Int))) ∧ w = w' := by
  have hr : n.tmod (m : Int) = n % (m : Int) ∨ (n.tmod (m : Int) < 0 ∧ n.tmod (m : Int) + m = n % (m : Int)) := by
    have ha : ∀ k : Nat, 0 < k → ∀ z : Int, z.tmod (k : Int) = z % (k : Int) ∨ (z.tmod (k : Int) < 0 ∧ z.tmod (k : Int) + k = z % (k : Int)) := by
      intro k hk z
      by_cases hz : 0 ≤ z
      · left; exact Int.tmod_eq_emod_of_nonneg hz
      · rw [Int.tmod_eq_emod]
        have hkz : (k : Int) ≠ 0 := by omega
        have h3 := Int.emod_nonneg z hkz
        have h4 := Int.emod_lt_of_pos z (by omega : (0 : Int) < k)
        by_cases hd : (k : Int) ∣ z
        · left
          rw [if_pos (Or.inr hd)]; omega
        · right
          rw [if_neg (by intro h; rcases h with h | h; exact hz h; exact hd h)]
          have : (k : Int).natAbs = k := by simp
          omega
    exact ha m h0 n
  have h3 := Int.emod_nonneg n (show (m : Int) ≠ 0 by omega)
  have h4 := Int.emod_lt_of_pos n (show (0 : Int) < m by omega)
  have hne : ¬ (m : Int) = 0 := by omega
  have hn1 : ¬ (m : Int) = -1 := by omega
  obtain ⟨r, hre⟩ : ∃ r, n.tmod (m : Int) = r := ⟨_, rfl⟩
  obtain ⟨q, hq⟩ : ∃ q, n % (m : Int) = q := ⟨_, rfl⟩
  rw [hq] at hr h3 h4 ⊢
  rw [hre] at hr
  have HQ := Lib.hid hq
  clear hq
  rcases hr with rfl | ⟨hr1, hr2⟩
  · have hlt : decide (r < 0) = false := by simp; omega
    have hge : ¬ r < 0 := by omega
    go_enter Try.func9, Try.ntmps9
    go_wp2_with fail
    go_ret
    exact ⟨rfl, rfl⟩
  · have HR := Lib.hid hr2
    clear h4
    have hw : wrap64 (r + (m : Int)) = r + (m : Int) := by unfold wrap64; omega
    go_enter Try.func9, Try.ntmps9
    go_wp2_with fail
    go_ret
    exact ⟨by rw [← HR.out]; rfl, rfl⟩
theorem num_none {last : Nat} {L : List Gr} (h : Ok last L) {i : Int} (hi : ¬ (1 ≤ i ∧ i ≤ (last : Int))) : byN L i = none :=
  byN_no fun g hg e => hi (e ▸ h.rng g hg)
set_option maxHeartbeats 4000000 in
set_option maxRecDepth 100000 in
theorem numbers_walk (ao : Option Addr) (cap : Nat) (acts : List Gr) (num : Int) (w : World) (hl : Lies w ao (cg acts)) (hw : ∀ x ∈ acts, Wi x.n ∧ Wi x.j ∧ x.u < 18446744073709551616) (hnum : Wi num) (hm : acts.length ≤ 9223372036854775807) :
    Calls Try.prog 6 #[.slice ao acts.length cap, .int .i64 num] w fun e w' => e = .returned (.bool true) ∧ Grw w w' := by
  have LI := Lib.hid hl
  have WI := Lib.hid hw
  have NW := Lib.hid hnum
  have WK := Lib.hid (fun w => wakes_any w)
  obtain ⟨n, hn⟩ : ∃ n, acts.length = n := ⟨_, rfl⟩
  rw [hn] at hm ⊢
  have HN := Lib.hid hn
  clear hl hw hn hnum
  go_enter Try.func6, Try.ntmps6
  go_wp2_with fail
  refine (m_new w w (Grw.rfl' w)).mono ?_
  rintro _ w1 ⟨p, mb, jb, rfl, m1⟩
  have M1 := Lib.hid m1
  clear m1
  go_wp2_with fail
  go_loopw [6, 7] (fun u6 u7 wr => ∃ (k : Nat) (L : List Gr), k ≤ n ∧ k ≤ 40 ∧ u6 = .int .i64 k ∧ u7 = .int .i64 k ∧ TM w wr p mb jb k L ∧ ∀ g ∈ L, 0 ≤ g.j ∧ g.j < (k : Int)) (fun _ u7 _ => n - (intOf u7).toNat)
  case atStart => exact ⟨0, [], Nat.zero_le _, Nat.zero_le _, rfl, rfl, M1.out, fun _ h => by cases h⟩
  case round =>
    obtain ⟨k, L, hk, hk40, rfl, rfl, hT, hall⟩ := hrel
    have T := Lib.hid hT
    have AL := Lib.hid hall
    clear hT hall
    by_cases hk' : k < n
    · have d1 : decide (k < n) = true := by simp [hk']
      by_cases h40 : k < 40
      · have d2 : decide (k < 40) = true := by simp [h40]
        have d2' : decide ((k : Int) < 40) = true := by simp; omega
        have hkl : k < acts.length := by rw [HN.out]; exact hk'
        obtain ⟨b, o, rfl, e0, e1, e2⟩ := glies_at LI.out hkl
        have WA := Lib.hid (WI.out acts[k] (List.getElem_mem hkl))
        obtain ⟨x, hx⟩ : ∃ x, acts[k] = x := ⟨_, rfl⟩
        rw [hx] at e0 e1 e2 WA
        obtain ⟨xd, xj, xu⟩ := x
        simp only at e0 e1 e2 WA
        have CA : Hid (∀ x, Grw w x → x.cell? ⟨b, o + k * 3, none⟩ = some (.int .i64 xd) ∧ x.cell? ⟨b, o + k * 3 + 1, none⟩ = some (.int .i64 xj) ∧ x.cell? ⟨b, o + k * 3 + 2, none⟩ = some (.int .u64 (xu : Nat))) :=
          (fun x g => ⟨g.cell e0, g.cell e1, g.cell e2⟩ : ∀ x, Grw w x → x.cell? ⟨b, o + k * 3, none⟩ = some (.int .i64 xd) ∧ x.cell? ⟨b, o + k * 3 + 1, none⟩ = some (.int .i64 xj) ∧ x.cell? ⟨b, o + k * 3 + 2, none⟩ = some (.int .u64 (xu : Nat)))
        clear e0 e1 e2 hx hkl
        obtain ⟨c0, c1, c2⟩ := CA.out _ T.out.g
        obtain ⟨m, hm'⟩ : ∃ m, k + 1 = m := ⟨_, rfl⟩
        have q6 : IntKind.i64.wrap ((k : Int) + 1) = (m : Int) := by rw [← hm']; simp [IntKind.wrap_i64]; omega
        have MB := Lib.hid hm'
        have hki : (k : Int) < (n : Int) := by omega
        have GY := Lib.hid (m_grant T.out (k : Int) xu m hm' (by unfold Wi; omega) WA.out.2.2 (byJ_no fun g hg e => by have := (AL.out g hg).2; omega) (by omega))
        have hmn : m ≤ n := by omega
        have hm40 : m ≤ 40 := by omega
        clear hm'
        go_wp2_with fail
        refine GY.out.mono ?_
        rintro _ w2 ⟨rfl, t2, _⟩
        have T2 := Lib.hid t2
        have AL2 : Hid (∀ g ∈ L ++ [(⟨m, k, xu⟩ : Gr)], 0 ≤ g.j ∧ g.j < (m : Int)) := (fun g hg => by
          have hmk := MB.out
          rcases List.mem_append.1 hg with hg | hg
          · have := AL.out g hg; omega
          · rw [List.mem_singleton.1 hg]; simp only; omega : ∀ g ∈ L ++ [(⟨m, k, xu⟩ : Gr)], 0 ≤ g.j ∧ g.j < (m : Int))
        obtain ⟨L2, hL2⟩ : ∃ L2, L ++ [(⟨m, k, xu⟩ : Gr)] = L2 := ⟨_, rfl⟩
        rw [hL2] at T2 AL2
        clear t2 c0 c1 c2 hL2
        obtain ⟨c0, c1, c2⟩ := CA.out _ T2.out.g
        obtain ⟨t5, ht5⟩ : ∃ t, (xd.tmod 2 == 0) = t := ⟨_, rfl⟩
        cases t5 with
        | true =>
          have hm0 : 0 < m := by have := MB.out; omega
          have MO := Lib.hid (fun w => mod_any xj m w hm0 (by omega))
          have q0 := Int.emod_nonneg xj (show (m : Int) ≠ 0 by omega)
          have q1 := Int.emod_lt_of_pos xj (show (0 : Int) < (m : Int) by omega)
          obtain ⟨r, hr⟩ : ∃ r, xj % (m : Int) = r := ⟨_, rfl⟩
          have MO2 : Hid (∀ w, Calls Try.prog 9 #[.int .i64 xj, .int .i64 (m : Int)] w fun e w' => e = .returned (.int .i64 r) ∧ w = w') := (fun w => by have := MO.out w; rw [hr] at this; exact this : ∀ w, Calls Try.prog 9 #[.int .i64 xj, .int .i64 (m : Int)] w fun e w' => e = .returned (.int .i64 r) ∧ w = w')
          rw [hr] at q0 q1
          have q8 : IntKind.i64.wrap (1 + r) = 1 + r := by simp [IntKind.wrap_i64]; omega
          have wi : Wi (1 + r) := by unfold Wi; omega
          have WR := Lib.hid wi
          clear hr q0 q1 wi MO
          go_wp2_with fail
          with_reducible refine (MO2.out _).mono ?_
          rintro _ _ ⟨rfl, rfl⟩
          go_wp2_with fail
          rcases hb : byN L2 (1 + r) with _ | g
          · refine (drop_no T2.out.t (1 + r) WR.out hb).mono ?_
            rintro _ w3 ⟨rfl, g3⟩
            have T3 := Lib.hid (T2.out.later g3)
            clear g3 c0 c1 c2 hb
            go_wp2_with fail
            go_roundw
            case rel => exact ⟨m, L2, hmn, hm40, rfl, rfl, T3.out, AL2.out⟩
            case measure => have := MB.out; simp only [intOf]; omega
          · refine (m_drop T2.out (1 + r) WR.out hb).mono ?_
            rintro _ w3 ⟨rfl, t3, _⟩
            have T3 := Lib.hid t3
            clear t3 c0 c1 c2 hb
            go_wp2_with fail
            go_roundw
            case rel => exact ⟨m, _, hmn, hm40, rfl, rfl, T3.out, fun g hg => AL2.out g (mem_off.1 hg).1⟩
            case measure => have := MB.out; simp only [intOf]; omega
        | false =>
          obtain ⟨xt, hxt⟩ : ∃ t, xu / 2 = t := ⟨_, rfl⟩
          have q9 : IntKind.u64.wrap ((xu : Int) / 2) = (xt : Int) := by rw [← hxt]; have := WA.out.2.2; simp [IntKind.wrap_u64]; omega
          have OV := Lib.hid (m_over T2.out xt)
          clear hxt
          go_wp2_with fail
          with_reducible refine OV.out.mono ?_
          rintro _ w3 ⟨v, rfl, _, t3, _⟩
          have T3 := Lib.hid t3
          clear t3 c0 c1 c2
          go_wp2_with fail
          go_roundw
          case rel => exact ⟨m, _, hmn, hm40, rfl, rfl, T3.out, fun g hg => AL2.out g (mem_lf.1 hg).1⟩
          case measure => have := MB.out; simp only [intOf]; omega
      · have d2 : decide (k < 40) = false := by simp [h40]
        have d2' : decide ((k : Int) < 40) = false := by simp; omega
        have hki : (k : Int) < (n : Int) := by omega
        by_cases hr : 1 ≤ num ∧ num ≤ (k : Int)
        · have e1 : decide (1 ≤ num) = true := by simp [hr.1]
          have e2 : decide (num ≤ (k : Int)) = true := by simp [hr.2]
          have e1' : (1 : Int) ≤ num := hr.1
          have e2' : num ≤ (k : Int) := hr.2
          clear hr
          go_wp2_with fail
          refine (WK.out _).mono ?_
          rintro _ w2 ⟨rfl, g⟩
          have G := Lib.hid (T.out.g.trans g)
          clear g
          go_wp2_with fail
          go_ret
          exact ⟨rfl, G.out⟩
        · have hno := num_none T.out.t.ok hr
          have LK := Lib.hid (look_is T.out.t num NW.out)
          rw [hno] at LK
          simp only [Option.getD_none, Option.isSome_none] at LK
          unfold gv g0 at LK
          have HNO := Lib.hid hno
          clear hno
          by_cases h1 : 1 ≤ num
          · have h2 : ¬ num ≤ (k : Int) := fun e => hr ⟨h1, e⟩
            have e1 : decide (1 ≤ num) = true := by simp [h1]
            have e2 : decide (num ≤ (k : Int)) = false := by simp [h2]
            clear hr
            go_wp2_with fail
            with_reducible refine LK.out.mono ?_
            rintro _ w2 ⟨rfl, g2⟩
            have T2 := Lib.hid (T.out.later (g2.alloc (.cells #[.int .i64 0, .int .i64 0, .int .u64 0] 39)))
            have DN := Lib.hid (drop_no T2.out.t num NW.out HNO.out)
            clear g2
            go_wp2_with fail
            with_reducible refine DN.out.mono ?_
            rintro _ w3 ⟨rfl, g3⟩
            have T3 := Lib.hid (T2.out.later g3)
            have b0 : w3.cell? ⟨w2.heap.size, 0, none⟩ = some (.int .i64 0) := g3.cell (by simp [go_sem])
            have b1 : w3.cell? ⟨w2.heap.size, 1, none⟩ = some (.int .i64 0) := g3.cell (by simp [go_sem])
            have b2 : w3.cell? ⟨w2.heap.size, 2, none⟩ = some (.int .u64 0) := g3.cell (by simp [go_sem])
            clear g3
            go_wp2_with fail
            refine (WK.out _).mono ?_
            rintro _ w4 ⟨rfl, g⟩
            have G := Lib.hid (T3.out.g.trans g)
            clear g
            go_wp2_with fail
            go_ret
            exact ⟨rfl, G.out⟩
          · have e1 : decide (1 ≤ num) = false := by simp [h1]
            clear hr
            go_wp2_with fail
            with_reducible refine LK.out.mono ?_
            rintro _ w2 ⟨rfl, g2⟩
            have T2 := Lib.hid (T.out.later (g2.alloc (.cells #[.int .i64 0, .int .i64 0, .int .u64 0] 39)))
            have DN := Lib.hid (drop_no T2.out.t num NW.out HNO.out)
            clear g2
            go_wp2_with fail
            with_reducible refine DN.out.mono ?_
            rintro _ w3 ⟨rfl, g3⟩
            have T3 := Lib.hid (T2.out.later g3)
            have b0 : w3.cell? ⟨w2.heap.size, 0, none⟩ = some (.int .i64 0) := g3.cell (by simp [go_sem])
            have b1 : w3.cell? ⟨w2.heap.size, 1, none⟩ = some (.int .i64 0) := g3.cell (by simp [go_sem])
            have b2 : w3.cell? ⟨w2.heap.size, 2, none⟩ = some (.int .u64 0) := g3.cell (by simp [go_sem])
            clear g3
            go_wp2_with fail
            refine (WK.out _).mono ?_
            rintro _ w4 ⟨rfl, g⟩
            have G := Lib.hid (T3.out.g.trans g)
            clear g
            go_wp2_with fail
            go_ret
            exact ⟨rfl, G.out⟩
    · have d1 : decide (k < n) = false := by simp [hk']
      have hki : ¬ (k : Int) < (n : Int) := by omega
      by_cases hr : 1 ≤ num ∧ num ≤ (k : Int)
      · have e1 : decide (1 ≤ num) = true := by simp [hr.1]
        have e2 : decide (num ≤ (k : Int)) = true := by simp [hr.2]
        have e1' : (1 : Int) ≤ num := hr.1
        have e2' : num ≤ (k : Int) := hr.2
        clear hr
        go_wp2_with fail
        refine (WK.out _).mono ?_
        rintro _ w2 ⟨rfl, g⟩
        have G := Lib.hid (T.out.g.trans g)
        clear g
        go_wp2_with fail
        go_ret
        exact ⟨rfl, G.out⟩
      · have hno := num_none T.out.t.ok hr
        have LK := Lib.hid (look_is T.out.t num NW.out)
        rw [hno] at LK
        simp only [Option.getD_none, Option.isSome_none] at LK
        unfold gv g0 at LK
        have HNO := Lib.hid hno
        clear hno
        by_cases h1 : 1 ≤ num
        · have h2 : ¬ num ≤ (k : Int) := fun e => hr ⟨h1, e⟩
          have e1 : decide (1 ≤ num) = true := by simp [h1]
          have e2 : decide (num ≤ (k : Int)) = false := by simp [h2]
          clear hr
          go_wp2_with fail
          with_reducible refine LK.out.mono ?_
          rintro _ w2 ⟨rfl, g2⟩
          have T2 := Lib.hid (T.out.later (g2.alloc (.cells #[.int .i64 0, .int .i64 0, .int .u64 0] 39)))
          have DN := Lib.hid (drop_no T2.out.t num NW.out HNO.out)
          clear g2
          go_wp2_with fail
          with_reducible refine DN.out.mono ?_
          rintro _ w3 ⟨rfl, g3⟩
          have T3 := Lib.hid (T2.out.later g3)
          have b0 : w3.cell? ⟨w2.heap.size, 0, none⟩ = some (.int .i64 0) := g3.cell (by simp [go_sem])
          have b1 : w3.cell? ⟨w2.heap.size, 1, none⟩ = some (.int .i64 0) := g3.cell (by simp [go_sem])
          have b2 : w3.cell? ⟨w2.heap.size, 2, none⟩ = some (.int .u64 0) := g3.cell (by simp [go_sem])
          clear g3
          go_wp2_with fail
          refine (WK.out _).mono ?_
          rintro _ w4 ⟨rfl, g⟩
          have G := Lib.hid (T3.out.g.trans g)
          clear g
          go_wp2_with fail
          go_ret
          exact ⟨rfl, G.out⟩
        · have e1 : decide (1 ≤ num) = false := by simp [h1]
          clear hr
          go_wp2_with fail
          with_reducible refine LK.out.mono ?_
          rintro _ w2 ⟨rfl, g2⟩
          have T2 := Lib.hid (T.out.later (g2.alloc (.cells #[.int .i64 0, .int .i64 0, .int .u64 0] 39)))
          have DN := Lib.hid (drop_no T2.out.t num NW.out HNO.out)
          clear g2
          go_wp2_with fail
          with_reducible refine DN.out.mono ?_
          rintro _ w3 ⟨rfl, g3⟩
          have T3 := Lib.hid (T2.out.later g3)
          have b0 : w3.cell? ⟨w2.heap.size, 0, none⟩ = some (.int .i64 0) := g3.cell (by simp [go_sem])
          have b1 : w3.cell? ⟨w2.heap.size, 1, none⟩ = some (.int .i64 0) := g3.cell (by simp [go_sem])
          have b2 : w3.cell? ⟨w2.heap.size, 2, none⟩ = some (.int .u64 0) := g3.cell (by simp [go_sem])
          clear g3
          go_wp2_with fail
          refine (WK.out _).mono ?_
          rintro _ w4 ⟨rfl, g⟩
          have G := Lib.hid (T3.out.g.trans g)
          clear g
          go_wp2_with fail
          go_ret
          exact ⟨rfl, G.out⟩
end Go.Proofs.Ytoejmopppkjaoaa
