/- The law LeaseOnce. -/
import Derived.Test.YtoejmopppkjaoaaTe
import Derived.Test.YtoejmopppkjaoaaOe
namespace Go.Proofs.Ytoejmopppkjaoaa
open Go.RowKit
set_option linter.unusedSimpArgs false

theorem byN_off {last : Nat} {L : List Gr} (h : Ok last L) {g : Gr} (hg : g ∈ L) : byN (off [g] L) g.n = none :=
  byN_no fun _ hx e => (mem_off.1 hx).2 (List.mem_singleton.2 (h.n_inj (mem_off.1 hx).1 hg e))
theorem byJ_off {last : Nat} {L : List Gr} (h : Ok last L) {g : Gr} (hg : g ∈ L) : byJ (off [g] L) g.j = none :=
  byJ_no fun _ hx e => (mem_off.1 hx).2 (List.mem_singleton.2 (h.j_inj (mem_off.1 hx).1 hg e))
theorem Ok.wn {last : Nat} {L : List Gr} (h : Ok last L) {g : Gr} (hg : g ∈ L) : Wi g.n := by have := h.rng g hg; have := h.top; unfold Wi; omega
set_option maxHeartbeats 4000000 in
set_option maxRecDepth 100000 in
theorem once_walk (ao : Option Addr) (cap : Nat) (jobs : List Int) (u : Nat) (w : World) (hl : Lies w ao (ci jobs)) (hw : ∀ x ∈ jobs, Wi x) (hu : u < 18446744073709551616) (hm : jobs.length ≤ 9223372036854775807) :
    Calls Try.prog 4 #[.slice ao jobs.length cap, .int .u64 (u : Nat)] w fun e w' => e = .returned (.bool true) ∧ Grw w w' := by
  have LI := Lib.hid hl
  have WI := Lib.hid hw
  have HU := Lib.hid hu
  have WK := Lib.hid (fun w => wakes_any w)
  obtain ⟨n, hn⟩ : ∃ n, jobs.length = n := ⟨_, rfl⟩
  rw [hn] at hm ⊢
  have HN := Lib.hid hn
  clear hl hw hu hn
  by_cases h40 : 40 < n
  · have d0 : decide (40 < n) = true := by simp [h40]
    have d0' : (40 : Int) < (n : Int) := by omega
    go_enter Try.func4, Try.ntmps4
    go_wp2_with fail
    refine (WK.out _).mono ?_
    rintro _ w1 ⟨rfl, g⟩
    have G := Lib.hid g
    clear g
    go_wp2_with fail
    go_ret
    exact ⟨rfl, G.out⟩
  · have d0 : decide (40 < n) = false := by simp [h40]
    have d0' : ¬ (40 : Int) < (n : Int) := by omega
    go_enter Try.func4, Try.ntmps4
    go_wp2_with fail
    refine (m_new w w (Grw.rfl' w)).mono ?_
    rintro _ w1 ⟨p, mb, jb, rfl, m1⟩
    have M1 := Lib.hid m1
    clear m1 d0 d0'
    go_wp2_with fail
    go_loopw [6, 7] (fun u6 u7 wr => ∃ (k last : Nat) (L : List Gr), k ≤ n ∧ u6 = .int .i64 last ∧ u7 = .int .i64 k ∧ TM w wr p mb jb last L ∧ last ≤ k ∧ ∀ g ∈ L, g.u = u) (fun _ u7 _ => n - (intOf u7).toNat)
    case atStart => exact ⟨0, 0, [], Nat.zero_le _, rfl, rfl, M1.out, Nat.le_refl _, fun _ h => by cases h⟩
    case round =>
      obtain ⟨k, last, L, hk, rfl, rfl, hT, hlk, hall⟩ := hrel
      have T := Lib.hid hT
      have AL := Lib.hid hall
      clear hT hall
      by_cases hk' : k < n
      · have d1 : decide (k < n) = true := by simp [hk']
        have hkl : k < jobs.length := by rw [HN.out]; exact hk'
        obtain ⟨b, off', rfl, cj⟩ := lies_map LI.out hkl
        have WJ := Lib.hid (WI.out jobs[k] (List.getElem_mem hkl))
        obtain ⟨j, hj⟩ : ∃ j, jobs[k] = j := ⟨_, rfl⟩
        rw [hj] at cj WJ
        have CJ : Hid (∀ x, Grw w x → x.cell? ⟨b, off' + k, none⟩ = some (.int .i64 j)) := (fun x g => g.cell cj : ∀ x, Grw w x → x.cell? ⟨b, off' + k, none⟩ = some (.int .i64 j))
        have hki : (k : Int) < (n : Int) := by omega
        have q7 : IntKind.i64.wrap ((k : Int) + 1) = ((k + 1 : Nat) : Int) := by simp [IntKind.wrap_i64]; omega
        have c1 := CJ.out _ T.out.g
        clear cj hj hkl
        rcases hbj : byJ L j with _ | g
        · -- no lease yet
          have OF := Lib.hid (of_is T.out.t j WJ.out)
          rw [hbj] at OF
          simp only [Option.getD_none, Option.isSome_none] at OF
          obtain ⟨m, hm'⟩ : ∃ m, last + 1 = m := ⟨_, rfl⟩
          have q6 : IntKind.i64.wrap ((last : Int) + 1) = (m : Int) := by rw [← hm']; simp [IntKind.wrap_i64]; omega
          have MB := Lib.hid hm'
          have GY := Lib.hid (m_grant T.out j u m hm' WJ.out HU.out hbj (by omega))
          clear hm' hbj
          unfold g0 at OF
          go_wp2_with fail
          refine OF.out.mono ?_
          rintro _ _ ⟨rfl, rfl⟩
          go_wp2_with fail
          refine GY.out.mono ?_
          rintro _ w2 ⟨rfl, t2, f2⟩
          have T2 := Lib.hid t2
          have LK := Lib.hid (look_is t2.t (m : Int) (t2.t.ok.wn (g := ⟨m, j, u⟩) (by simp)))
          rw [byN_of (g := ⟨m, j, u⟩) t2.t.ok (by simp)] at LK
          simp only [Option.getD_some, Option.isSome_some] at LK
          unfold gv at LK
          simp only at LK
          clear t2 f2 c1
          go_wp2_with fail
          refine LK.out.mono ?_
          rintro _ w3 ⟨rfl, g3⟩
          obtain ⟨w4, hw4⟩ : ∃ w4, w3.alloc (.cells #[.int .i64 (m : Nat), .int .i64 j, .int .u64 (u : Nat)] 39) = w4 := ⟨_, rfl⟩
          have T4 := Lib.hid (T2.out.later (show Grw w2 w4 by rw [← hw4]; exact g3.alloc _))
          have b0 : w4.cell? ⟨w3.heap.size, 0, none⟩ = some (.int .i64 (m : Nat)) := by rw [← hw4]; simp [go_sem]
          have b1 : w4.cell? ⟨w3.heap.size, 1, none⟩ = some (.int .i64 j) := by rw [← hw4]; simp [go_sem]
          have b2 : w4.cell? ⟨w3.heap.size, 2, none⟩ = some (.int .u64 (u : Nat)) := by rw [← hw4]; simp [go_sem]
          clear g3
          go_wp2_with fail
          have c4 := CJ.out _ T4.out.g
          have z0 := gw_cell b0
          have z1 := gw_cell b1
          have z2 := gw_cell b2
          have z4 := gw_cell c4
          clear b0 b1 b2 c4 hw4
          refine wp_region_grown (by kernel_rfl) (by kernel_rfl) ?_
          repeat (go_big_quiet_step (fail))
          refine wpQuiet_nil ?_
          rintro _ ⟨q, rfl⟩
          have T5 := Lib.hid (T4.out.later q.h)
          clear z0 z1 z2 z4
          go_wp2_with fail
          have hkn : k + 1 ≤ n := hk'
          go_roundw
          case rel => exact ⟨k + 1, m, _, hkn, rfl, rfl, T5.out, by have := MB.out; omega, fun g hg => by
            rcases List.mem_append.1 hg with hg | hg
            · exact AL.out g hg
            · rw [List.mem_singleton.1 hg]⟩
          case measure => simp only [intOf]; omega
        · obtain ⟨hg, hgj⟩ := byJ_some hbj
          have hgu := AL.out g hg
          have OF := Lib.hid (of_is T.out.t j WJ.out)
          have GT := Lib.hid (grant_twice T.out.t j u WJ.out (by rw [hbj]; rfl))
          have LK := Lib.hid (look_is T.out.t g.n (T.out.t.ok.wn hg))
          rw [byN_of T.out.t.ok hg] at LK
          rw [hbj] at OF
          simp only [Option.getD_some, Option.isSome_some] at OF LK
          have HG := Lib.hid (And.intro hg (T.out.t.ok.wn hg))
          obtain ⟨m, gj, gu⟩ := g
          simp only at hgj hgu
          subst hgj hgu
          unfold gv at LK
          simp only at OF LK
          clear hbj hg
          go_wp2_with fail
          refine OF.out.mono ?_
          rintro _ _ ⟨rfl, rfl⟩
          go_wp2_with fail
          refine GT.out.mono ?_
          rintro _ _ ⟨rfl, rfl⟩
          go_wp2_with fail
          refine LK.out.mono ?_
          rintro _ w3 ⟨rfl, g3⟩
          obtain ⟨w4, hw4⟩ : ∃ w4, w3.alloc (.cells #[.int .i64 m, .int .i64 gj, .int .u64 (gu : Nat)] 39) = w4 := ⟨_, rfl⟩
          have T4 := Lib.hid (T.out.later (show Grw _ w4 by rw [← hw4]; exact g3.alloc _))
          have b0 : w4.cell? ⟨w3.heap.size, 0, none⟩ = some (.int .i64 m) := by rw [← hw4]; simp [go_sem]
          have b1 : w4.cell? ⟨w3.heap.size, 1, none⟩ = some (.int .i64 gj) := by rw [← hw4]; simp [go_sem]
          have b2 : w4.cell? ⟨w3.heap.size, 2, none⟩ = some (.int .u64 (gu : Nat)) := by rw [← hw4]; simp [go_sem]
          clear g3 c1
          go_wp2_with fail
          have c4 := CJ.out _ T4.out.g
          have z0 := gw_cell b0
          have z1 := gw_cell b1
          have z2 := gw_cell b2
          have z4 := gw_cell c4
          clear b0 b1 b2 c4 hw4
          refine wp_region_grown (by kernel_rfl) (by kernel_rfl) ?_
          repeat (go_big_quiet_step (fail))
          refine wpQuiet_nil ?_
          rintro _ ⟨q, rfl⟩
          have T5 := Lib.hid (T4.out.later q.h)
          have DY := Lib.hid (m_drop T5.out m HG.out.2 (byN_of T5.out.t.ok HG.out.1))
          clear z0 z1 z2 z4
          go_wp2_with fail
          refine DY.out.mono ?_
          rintro _ w6 ⟨rfl, t6, _⟩
          have T6 := Lib.hid t6
          have LN := Lib.hid (look_is t6.t m HG.out.2)
          rw [byN_off T.out.t.ok HG.out.1] at LN
          simp only [Option.getD_none, Option.isSome_none] at LN
          unfold gv g0 at LN
          clear t6
          go_wp2_with fail
          refine LN.out.mono ?_
          rintro _ w7 ⟨rfl, g7⟩
          have T8 := Lib.hid (T6.out.later (g7.alloc (.cells #[.int .i64 0, .int .i64 0, .int .u64 0] 39)))
          have G7 := T6.out.g.trans g7
          have c8 : ∀ o, (w7.alloc o).cell? ⟨b, off' + k, none⟩ = some (.int .i64 gj) := fun o => CJ.out _ (G7.alloc o)
          have OF8 := Lib.hid (of_is T8.out.t gj WJ.out)
          rw [byJ_off T.out.t.ok HG.out.1] at OF8
          simp only [Option.getD_none, Option.isSome_none] at OF8
          unfold g0 at OF8
          have DN := Lib.hid (drop_no T8.out.t m HG.out.2 (byN_off T.out.t.ok HG.out.1))
          clear g7 G7
          go_wp2_with fail
          refine OF8.out.mono ?_
          rintro _ _ ⟨rfl, rfl⟩
          go_wp2_with fail
          refine DN.out.mono ?_
          rintro _ w9 ⟨rfl, g9⟩
          have T9 := Lib.hid (T8.out.later g9)
          have c9 := CJ.out _ T9.out.g
          clear g9 c8
          go_wp2_with fail
          have hkn : k + 1 ≤ n := hk'
          go_roundw
          case rel => exact ⟨k + 1, last, _, hkn, rfl, rfl, T9.out, by omega, fun g hg => AL.out g (mem_off.1 hg).1⟩
          case measure => simp only [intOf]; omega
      · have d1 : decide (k < n) = false := by simp [hk']
        have hki : ¬ (k : Int) < (n : Int) := by omega
        go_wp2_with fail
        refine (WK.out _).mono ?_
        rintro _ w2 ⟨rfl, g⟩
        have G := Lib.hid (T.out.g.trans g)
        clear g
        go_wp2_with fail
        go_ret
        exact ⟨rfl, G.out⟩
end Go.Proofs.Ytoejmopppkjaoaa
