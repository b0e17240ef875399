/- The law TurnServed, walked. -/
import Derived.Test.YtffoaldfklcfgaaSv
import Derived.Deep.CutBlock
namespace Go.Proofs.Ytffoaldfklcfgaa
open Go.RowKit
set_option linter.unusedSimpArgs false

theorem bnd_is {a room : Nat} (ha1 : 1 ≤ a) (ha2 : a ≤ 12) (hr1 : 1 ≤ room) (hr2 : room ≤ 12) : bnd a room = ((a * 8 + room : Nat) : Int) := by unfold bnd lim; omega
set_option maxHeartbeats 4000000 in
set_option maxRecDepth 100000 in
theorem served_walk (n0 n1 mine : Nat) (ao : Option Addr) (cap : Nat) (ps : List (Nat × Nat)) (w : World) (h0 : n0 < 65536) (h1 : n1 < 65536) (hmi : mine < 256) (hl : Lies w ao (cp .u8 ps)) (hps : ∀ d ∈ ps, d.1 < 256 ∧ d.2 < 256) (hpn : ps.length ≤ 9223372036854775807) :
    Calls Try.prog 7 #[.agg #[.int .u16 (n0 : Nat), .int .u16 (n1 : Nat)], .int .u8 (mine : Nat), .slice ao ps.length cap] w fun e w' => e = .returned (.bool true) ∧ Grw w w' := by
  obtain ⟨i0, hi, hz0, hz1, hz2⟩ := info_parts Try.info24
  obtain ⟨n, hn⟩ : ∃ n, ps.length = n := ⟨_, rfl⟩
  rw [hn] at hpn ⊢
  have WK := Lib.hid wakes_any
  have HN := Lib.hid hn
  have LI := Lib.hid hl
  have HP := Lib.hid hps
  obtain ⟨a, ha⟩ : ∃ a : Nat, 1 + n0 % 12 = a := ⟨_, rfl⟩
  obtain ⟨room, hroom⟩ : ∃ a : Nat, 1 + n1 % 12 = a := ⟨_, rfl⟩
  obtain ⟨c, hc⟩ : ∃ a : Nat, mine % 8 = a := ⟨_, rfl⟩
  have ha1 : 1 ≤ a := by omega
  have ha2 : a ≤ 12 := by omega
  have hr1 : 1 ≤ room := by omega
  have hr2 : room ≤ 12 := by omega
  have hc8 : c < 8 := by omega
  obtain ⟨B, hB⟩ : ∃ B, a * 8 + room = B := ⟨_, rfl⟩
  have hB2 : B ≤ 108 := by omega
  have BD := Lib.hid (fun w => bound_is a room B w (by rw [bnd_is ha1 ha2 hr1 hr2, hB]))
  have q1 : IntKind.i64.wrap (n0 : Int) = n0 := by simp [IntKind.wrap_i64]; omega
  have q2 : IntKind.i64.wrap (n1 : Int) = n1 := by simp [IntKind.wrap_i64]; omega
  have q3 : IntKind.i64.wrap (1 + (n0 : Int) % 12) = a := by simp [IntKind.wrap_i64]; omega
  have q4 : IntKind.i64.wrap (1 + (n1 : Int) % 12) = room := by simp [IntKind.wrap_i64]; omega
  have q5 : IntKind.i64.wrap (mine : Int) = mine := by simp [IntKind.wrap_i64]; omega
  have q6 : ((mine : Int) % 8) = (c : Int) := by omega
  have BN : Hid ((w.alloc (.cells #[.int .u16 (n0 : Nat), .int .u16 (n1 : Nat)] 37)).cell? ⟨w.heap.size, 0, none⟩ = some (.int .u16 (n0 : Nat)) ∧ (w.alloc (.cells #[.int .u16 (n0 : Nat), .int .u16 (n1 : Nat)] 37)).cell? ⟨w.heap.size, 1, none⟩ = some (.int .u16 (n1 : Nat))) := (⟨by simp [go_sem], by simp [go_sem]⟩ : _ ∧ _)
  have G0 := Lib.hid ((Grw.rfl' w).alloc (.cells #[.int .u16 (n0 : Nat), .int .u16 (n1 : Nat)] 37))
  clear hn hl hps ha hroom hc
  go_enter Try.func7, Try.ntmps7
  go_wp2_with fail
  have m0 := gw_cell BN.out.1
  have m1 := gw_cell BN.out.2
  refine wp_region_grown (by kernel_rfl) (by kernel_rfl) ?_
  repeat (go_big_quiet_step (fail))
  refine wpQuiet_nil ?_
  rintro _ ⟨q, rfl⟩
  have G1 := Lib.hid (G0.out.trans q.h)
  obtain ⟨wq, hwq⟩ : ∃ wq, q.x = wq := ⟨_, rfl⟩
  rw [hwq] at G1 ⊢
  clear m0 m1 hwq
  obtain ⟨x, hx⟩ : ∃ x : Wt, x = ⟨0, (c : Int), 7⟩ := ⟨_, rfl⟩
  have HX := Lib.hid hx
  have o0 := own_one (wq.alloc (.cells #[.int .i64 0, .int .i64 (c : Int), .int .i64 7] 24)) w.heap.size x (by rw [size_new]; have := Below.size G1.out; omega)
  rw [size_new] at o0
  have O0 : Hid (((wq.alloc (.cells #[.int .i64 0, .int .i64 (c : Int), .int .i64 7] 24)).alloc (.cells #[.int .i64 0, .int .i64 (c : Int), .int .i64 7] 24)).ownsRow w.heap.size 24 3 (.slice (some ⟨wq.heap.size + 1, 0, none⟩) 1 1) 1 (cw [x])) := (by rw [hx] at o0 ⊢; exact o0 : ((wq.alloc (.cells #[.int .i64 0, .int .i64 (c : Int), .int .i64 7] 24)).alloc (.cells #[.int .i64 0, .int .i64 (c : Int), .int .i64 7] 24)).ownsRow w.heap.size 24 3 (.slice (some ⟨wq.heap.size + 1, 0, none⟩) 1 1) 1 (cw [x]))
  have G2 := Lib.hid ((G1.out.alloc (.cells #[.int .i64 0, .int .i64 (c : Int), .int .i64 7] 24)).alloc (.cells #[.int .i64 0, .int .i64 (c : Int), .int .i64 7] 24))
  clear hx o0
  go_wp2_with fail
  clear q6
  go_loopw [10, 11, 12, 13] (fun u10 u11 u12 u13 wr => ∃ (l : List Wt) (id k count : Nat), u11 = .int .i64 id ∧ u12 = .int .i64 k ∧ u13 = .int .i64 count ∧ wr.ownsRow w.heap.size 24 3 u10 l.length (cw l) ∧ Inv a room (a * c + 1) x count l ∧ id ≤ 12 * count ∧ k ≤ n ∧ count ≤ B ∧ Grw w wr) (fun _ _ _ u13 _ => B - (intOf u13).toNat)
  case atStart => exact ⟨[x], 0, 0, 0, rfl, rfl, rfl, O0.out, Inv.start hr1, by omega, by omega, by omega, G2.out⟩
  case round =>
    obtain ⟨l, id, k, count, rfl, rfl, rfl, hown, hinv, hid, hk, hcB, hg⟩ := hrel
    obtain ⟨lo, lc, rfl, hlies⟩ := ownsRow_lies hown
    obtain ⟨m, hm⟩ : ∃ m, l.length = m := ⟨_, rfl⟩
    rw [hm] at hown ⊢
    have HM := Lib.hid hm
    have O := Lib.hid hown
    have IV := Lib.hid hinv
    have G := Lib.hid hg
    by_cases hcnt : count < B
    · have hci : (count : Int) < (B : Int) := by omega
      clear hm hown hg hlies hinv
      go_upto_block 2 with (go_at_call 19; refine (BD.out _).mono ?_; rintro _ w1 ⟨rfl, rfl⟩)
      go_cut [10, 11, 12] from 40 to 81 (fun u10 u11 u12 wx => ∃ (l : List Wt) (id k : Nat), u11 = .int .i64 id ∧ u12 = .int .i64 k ∧ wx.ownsRow w.heap.size 24 3 u10 l.length (cw l) ∧ Inv a room (a * c + 1) x count l ∧ id + (room - l.length) ≤ 12 * count + 12 ∧ k ≤ n ∧ Grw w wx)
      case first =>
        go_wp2_with fail
        go_loopw [10, 11, 12] (fun u10 u11 u12 wx => ∃ (l : List Wt) (id k : Nat), u11 = .int .i64 id ∧ u12 = .int .i64 k ∧ wx.ownsRow w.heap.size 24 3 u10 l.length (cw l) ∧ Inv a room (a * c + 1) x count l ∧ id + (room - l.length) ≤ 12 * count + 12 ∧ k ≤ n ∧ Grw w wx) (fun _ u11 _ _ => 12 * count + 12 - (intOf u11).toNat)
        case atStart => exact ⟨l, id, k, rfl, rfl, by rw [HM.out]; exact O.out, IV.out, by omega, hk, G.out⟩
        case round =>
          clear O IV G HM hid hk
          obtain ⟨l, id, k, rfl, rfl, hown, hinv, hid, hk, hg⟩ := hrel
          obtain ⟨lo, lc, rfl, hlies⟩ := ownsRow_lies hown
          obtain ⟨m, hm⟩ : ∃ m, l.length = m := ⟨_, rfl⟩
          rw [hm] at hown hid ⊢
          have HM := Lib.hid hm
          have O := Lib.hid hown
          have IV := Lib.hid hinv
          have G := Lib.hid hg
          by_cases hmr : m < room
          · have hmi2 : (m : Int) < (room : Int) := by omega
            by_cases hkn : k < n
            · have hki : (k : Int) < (n : Int) := by omega
              have hkp : k < ps.length := by rw [HN.out]; exact hkn
              obtain ⟨b, off, rfl, c0, c1⟩ := plies_at (LI.out.later hg) hkp
              have hb := HP.out _ (List.getElem_mem hkp)
              obtain ⟨d, hd⟩ : ∃ d, ps[k] = d := ⟨_, rfl⟩
              rw [hd] at c0 c1 hb
              obtain ⟨p, q⟩ := d
              simp only at c0 c1 hb
              have q7 : IntKind.i64.wrap (p : Int) = p := by simp [IntKind.wrap_i64]; omega
              obtain ⟨z, hz⟩ : ∃ z : Int, (p : Int) % 8 = z := ⟨_, rfl⟩
              have hz0' : 0 ≤ z := by omega
              have hz8 : z < 8 := by omega
              clear hd
              by_cases h4 : q % 4 = 0
              · have h4i : ((q : Int) % 4 == 0) = true := by simp; omega
                clear hinv hown hg hm hlies
                go_wp2_with fail
                go_meet
                exact ⟨l, id, k + 1, rfl, by go_num, by rw [HM.out]; exact O.out, IV.out, by rw [HM.out]; exact hid, by omega, G.out⟩
              · have h4i : ((q : Int) % 4 == 0) = false := by simp; omega
                by_cases hev : (id + 1) % 2 = 0
                · skip
                  have ev : (((id : Int) + 1) % 2 == 0) = true := by simp; omega
                  obtain ⟨y, hy⟩ : ∃ y : Wt, y = ⟨(-((id : Int) + 1)), z, 7 + (count : Int)⟩ := ⟨_, rfl⟩
                  have gy : gd y = true := by rw [hy]; exact gd_of (by simp only; omega) (by simp only; omega) (by simp only; omega) (by simp only; omega)
                  have hle : a * c + 1 ≤ count → les a y x = false := fun h => late ha1 (by omega) HX.out hc8 gy (by rw [hy]) h
                  have IA := Lib.hid (hinv.add (by rw [HM.out]; exact hmr) y (by rw [hy]; simp only; omega) hle)
                  have O1 := Lib.hid (own_later O.out ((Grw.rfl' wr).alloc (.cells #[.int .i64 (-((id : Int) + 1)), .int .i64 z, .int .i64 (7 + (count : Int))] 24)))
                  have G3 := Lib.hid (G.out.alloc (.cells #[.int .i64 (-((id : Int) + 1)), .int .i64 z, .int .i64 (7 + (count : Int))] 24))
                  have D1 := one_wt wr y
                  rw [hy] at D1
                  have DD := Lib.hid D1
                  have D2 := Lib.hid (cw_one [y])
                  have E : Hid (cw (l ++ [y]) = cw l ++ cw [y]) := cw_app l [y]
                  have HY := Lib.hid hy
                  rw [hy] at D2
                  clear hy gy hle D1 hinv hown hg hm hlies
                  go_wp2_with (at_builtin; refine wpList_append_own _ rfl _ _ 25 rfl w.heap.size 24 i0 _ 3 24 Try.underlying25 hi hz0 hz1 hz2 rfl (by decide) _ _ _ rfl O1.out ⟨wr.heap.size, 0, none⟩ 1 1 (cw [⟨(-((id : Int) + 1)), z, 7 + (count : Int)⟩]) rfl rfl (by simpa using DD.out) D2.out (by unfold maxLen; omega) (by omega) (Below.size G3.out) ?_)
                  intro v' w2 hown' hgrow _
                  have U := Lib.hid (And.intro hown' (grown_own O1.out G3.out hgrow))
                  clear hown' hgrow
                  go_wp2_with fail
                  go_roundw
                  case rel => exact ⟨l ++ [y], id + 1, k + 1, by go_num, by go_num, by rw [E.out, List.length_append, List.length_singleton, HM.out, HY.out]; exact U.out.1, IA.out, by rw [List.length_append, List.length_singleton, HM.out]; omega, by omega, U.out.2⟩
                  case measure => simp [intOf]; omega
                · skip
                  have ev : (((id : Int) + 1) % 2 == 0) = false := by simp; omega
                  obtain ⟨y, hy⟩ : ∃ y : Wt, y = ⟨((id : Int) + 1), z, 7 + (count : Int)⟩ := ⟨_, rfl⟩
                  have gy : gd y = true := by rw [hy]; exact gd_of (by simp only; omega) (by simp only; omega) (by simp only; omega) (by simp only; omega)
                  have hle : a * c + 1 ≤ count → les a y x = false := fun h => late ha1 (by omega) HX.out hc8 gy (by rw [hy]) h
                  have IA := Lib.hid (hinv.add (by rw [HM.out]; exact hmr) y (by rw [hy]; simp only; omega) hle)
                  have O1 := Lib.hid (own_later O.out ((Grw.rfl' wr).alloc (.cells #[.int .i64 ((id : Int) + 1), .int .i64 z, .int .i64 (7 + (count : Int))] 24)))
                  have G3 := Lib.hid (G.out.alloc (.cells #[.int .i64 ((id : Int) + 1), .int .i64 z, .int .i64 (7 + (count : Int))] 24))
                  have D1 := one_wt wr y
                  rw [hy] at D1
                  have DD := Lib.hid D1
                  have D2 := Lib.hid (cw_one [y])
                  have E : Hid (cw (l ++ [y]) = cw l ++ cw [y]) := cw_app l [y]
                  have HY := Lib.hid hy
                  rw [hy] at D2
                  clear hy gy hle D1 hinv hown hg hm hlies
                  go_wp2_with (at_builtin; refine wpList_append_own _ rfl _ _ 25 rfl w.heap.size 24 i0 _ 3 24 Try.underlying25 hi hz0 hz1 hz2 rfl (by decide) _ _ _ rfl O1.out ⟨wr.heap.size, 0, none⟩ 1 1 (cw [⟨((id : Int) + 1), z, 7 + (count : Int)⟩]) rfl rfl (by simpa using DD.out) D2.out (by unfold maxLen; omega) (by omega) (Below.size G3.out) ?_)
                  intro v' w2 hown' hgrow _
                  have U := Lib.hid (And.intro hown' (grown_own O1.out G3.out hgrow))
                  clear hown' hgrow
                  go_wp2_with fail
                  go_roundw
                  case rel => exact ⟨l ++ [y], id + 1, k + 1, by go_num, by go_num, by rw [E.out, List.length_append, List.length_singleton, HM.out, HY.out]; exact U.out.1, IA.out, by rw [List.length_append, List.length_singleton, HM.out]; omega, by omega, U.out.2⟩
                  case measure => simp [intOf]; omega
            · have hki : ¬ (k : Int) < (n : Int) := by omega
              by_cases hev : (id + 1) % 2 = 0
              · skip
                have ev : (((id : Int) + 1) % 2 == 0) = true := by simp; omega
                obtain ⟨y, hy⟩ : ∃ y : Wt, y = ⟨(-((id : Int) + 1)), 0, 7 + (count : Int)⟩ := ⟨_, rfl⟩
                have gy : gd y = true := by rw [hy]; exact gd_of (by simp only; omega) (by simp only; omega) (by simp only; omega) (by simp only; omega)
                have hle : a * c + 1 ≤ count → les a y x = false := fun h => late ha1 (by omega) HX.out hc8 gy (by rw [hy]) h
                have IA := Lib.hid (hinv.add (by rw [HM.out]; exact hmr) y (by rw [hy]; simp only; omega) hle)
                have O1 := Lib.hid (own_later O.out ((Grw.rfl' wr).alloc (.cells #[.int .i64 (-((id : Int) + 1)), .int .i64 0, .int .i64 (7 + (count : Int))] 24)))
                have G3 := Lib.hid (G.out.alloc (.cells #[.int .i64 (-((id : Int) + 1)), .int .i64 0, .int .i64 (7 + (count : Int))] 24))
                have D1 := one_wt wr y
                rw [hy] at D1
                have DD := Lib.hid D1
                have D2 := Lib.hid (cw_one [y])
                have E : Hid (cw (l ++ [y]) = cw l ++ cw [y]) := cw_app l [y]
                have HY := Lib.hid hy
                rw [hy] at D2
                clear hy gy hle D1 hinv hown hg hm hlies
                go_wp2_with (at_builtin; refine wpList_append_own _ rfl _ _ 25 rfl w.heap.size 24 i0 _ 3 24 Try.underlying25 hi hz0 hz1 hz2 rfl (by decide) _ _ _ rfl O1.out ⟨wr.heap.size, 0, none⟩ 1 1 (cw [⟨(-((id : Int) + 1)), 0, 7 + (count : Int)⟩]) rfl rfl (by simpa using DD.out) D2.out (by unfold maxLen; omega) (by omega) (Below.size G3.out) ?_)
                intro v' w2 hown' hgrow _
                have U := Lib.hid (And.intro hown' (grown_own O1.out G3.out hgrow))
                clear hown' hgrow
                go_wp2_with fail
                go_roundw
                case rel => exact ⟨l ++ [y], id + 1, k, by go_num, by go_num, by rw [E.out, List.length_append, List.length_singleton, HM.out, HY.out]; exact U.out.1, IA.out, by rw [List.length_append, List.length_singleton, HM.out]; omega, by omega, U.out.2⟩
                case measure => simp [intOf]; omega
              · skip
                have ev : (((id : Int) + 1) % 2 == 0) = false := by simp; omega
                obtain ⟨y, hy⟩ : ∃ y : Wt, y = ⟨((id : Int) + 1), 0, 7 + (count : Int)⟩ := ⟨_, rfl⟩
                have gy : gd y = true := by rw [hy]; exact gd_of (by simp only; omega) (by simp only; omega) (by simp only; omega) (by simp only; omega)
                have hle : a * c + 1 ≤ count → les a y x = false := fun h => late ha1 (by omega) HX.out hc8 gy (by rw [hy]) h
                have IA := Lib.hid (hinv.add (by rw [HM.out]; exact hmr) y (by rw [hy]; simp only; omega) hle)
                have O1 := Lib.hid (own_later O.out ((Grw.rfl' wr).alloc (.cells #[.int .i64 ((id : Int) + 1), .int .i64 0, .int .i64 (7 + (count : Int))] 24)))
                have G3 := Lib.hid (G.out.alloc (.cells #[.int .i64 ((id : Int) + 1), .int .i64 0, .int .i64 (7 + (count : Int))] 24))
                have D1 := one_wt wr y
                rw [hy] at D1
                have DD := Lib.hid D1
                have D2 := Lib.hid (cw_one [y])
                have E : Hid (cw (l ++ [y]) = cw l ++ cw [y]) := cw_app l [y]
                have HY := Lib.hid hy
                rw [hy] at D2
                clear hy gy hle D1 hinv hown hg hm hlies
                go_wp2_with (at_builtin; refine wpList_append_own _ rfl _ _ 25 rfl w.heap.size 24 i0 _ 3 24 Try.underlying25 hi hz0 hz1 hz2 rfl (by decide) _ _ _ rfl O1.out ⟨wr.heap.size, 0, none⟩ 1 1 (cw [⟨((id : Int) + 1), 0, 7 + (count : Int)⟩]) rfl rfl (by simpa using DD.out) D2.out (by unfold maxLen; omega) (by omega) (Below.size G3.out) ?_)
                intro v' w2 hown' hgrow _
                have U := Lib.hid (And.intro hown' (grown_own O1.out G3.out hgrow))
                clear hown' hgrow
                go_wp2_with fail
                go_roundw
                case rel => exact ⟨l ++ [y], id + 1, k, by go_num, by go_num, by rw [E.out, List.length_append, List.length_singleton, HM.out, HY.out]; exact U.out.1, IA.out, by rw [List.length_append, List.length_singleton, HM.out]; omega, by omega, U.out.2⟩
                case measure => simp [intOf]; omega
          · have hmi2 : ¬ (m : Int) < (room : Int) := by omega
            clear hinv hown hg hm hlies
            go_wp2_with fail
            go_meet
            exact ⟨l, id, k, rfl, rfl, by rw [HM.out]; exact O.out, IV.out, by rw [HM.out]; exact hid, hk, G.out⟩
      case rest =>
        clear O IV G HM hid hk
        obtain ⟨l, id, k, rfl, rfl, hown, hinv, hid, hk, hg⟩ := hcut
        obtain ⟨lo, lc, rfl, hlies⟩ := ownsRow_lies hown
        have hpos : 0 < l.length := by
          have := List.length_pos_of_mem hinv.mem
          exact this
        have hlr := hinv.len
        obtain ⟨f, hf, hF⟩ := frs_spec a hpos
        have hfl := hF.lt
        obtain ⟨m, hm⟩ : ∃ m, l.length = m := ⟨_, rfl⟩
        have FC := Lib.hid (first_is a lo lc l m f _ hlies (by omega) hm hf)
        have hcap : m ≤ lc := by
          rw [hm] at hown
          rcases hown.2 with ⟨h1, h2⟩ | ⟨g', cap', cur, h1, _, h3, h4, h5, h6, h7⟩
          · omega
          · injection h1 with _ _ h1; omega
        rw [hm] at hid hfl hlr hpos ⊢
        have HM := Lib.hid hm
        have IV := Lib.hid hinv
        have G := Lib.hid hg
        have LW := Lib.hid hlies
        have FF := Lib.hid hF
        have f1 : decide ((f : Int) < 0) = false := by simp
        have f2 : decide ((m : Int) ≤ (f : Int)) = false := by simp; omega
        have f3 : decide (m ≤ f) = false := by simp; omega
        clear hf hF hown hinv hg hlies hm
        go_wp2_with fail
        refine FC.out.mono ?_
        rintro _ w1 ⟨rfl, hw⟩
        have G3 := Lib.hid (G.out.trans hw)
        have LW1 := Lib.hid (LW.out.later hw)
        obtain ⟨b, off, rfl, c0, c1, c2⟩ := wlies_at LW1.out (j := f) FF.out.lt
        obtain ⟨t, ht⟩ : ∃ t, (l[f]'FF.out.lt).id = t := ⟨_, rfl⟩
        rw [ht] at c0
        have HT := Lib.hid ht
        clear hw ht c1 c2
        by_cases hz : t = 0
        · have hzi : (t == 0) = true := by simp [hz]
          clear hz
          go_wp2_with fail
          refine (WK.out _).mono ?_
          rintro _ w2 ⟨rfl, hw⟩
          have G4 := Lib.hid (G3.out.trans hw)
          clear hw
          go_wp2_with fail
          go_ret
          exact ⟨rfl, G4.out⟩
        · have hzi : (t == 0) = false := by simp [hz]
          have RM := Lib.hid (IV.out.rem (by rw [HX.out]) FF.out (by rw [HT.out]; exact hz))
          obtain ⟨e, he⟩ : ∃ e, f + 1 = e := ⟨_, rfl⟩
          clear hz
          by_cases hle : lc = e
          · skip
            have hml : m = lc := by omega
            obtain ⟨v1, y1, v2, y2, r1, r2, ho, hgo⟩ := cut_ex w w1 l f lc FF.out.lt b off b off 0 0 LW1.out (by rw [List.drop_eq_nil_of_le (by rw [HM.out]; omega)]; exact Or.inl rfl) (by rw [HM.out]; omega) (by rw [HM.out]; omega) G3.out
            have HO := Lib.hid (And.intro ho hgo)
            have R1 := Lib.hid r1
            have R2 := Lib.hid r2
            have hf1 : IntKind.i64.wrap ((f : Int) + 1) = (e : Int) := by simp [IntKind.wrap_i64]; omega
            have b2 : (f : Int) ≤ (m : Int) := by omega
            have d1 : f ≤ m := by omega
            subst hml
            subst hle
            clear he ho hgo r1 r2
            go_wp2_with fail
            go_region_held3 (fun _ => True) (trivial) (first | (refine step_append_run rfl (.tmp 100) (.tmp 103) 25 rfl (.slice (some ⟨w1.heap.size, 0, none⟩) 0 0) (.slice (some ⟨b, off, none⟩) f m) rfl rfl R1.out ?_) | (refine step_append_run rfl (.tmp 104) (.tmp 108) 25 rfl v1 (.slice (some ⟨b, off, none⟩) 0 0) rfl rfl R2.out ?_))
            go_wp2_with fail
            go_roundw
            case rel => exact ⟨l.take f ++ l.drop (f + 1), id, k, count + 1, rfl, rfl, by go_num, HO.out.1, RM.out, by omega, hk, by omega, HO.out.2⟩
            case measure => simp [intOf]; omega
          · skip
            obtain ⟨v1, y1, v2, y2, r1, r2, ho, hgo⟩ := cut_ex w w1 l f lc FF.out.lt b off b (off + e * 3) (m - e) (lc - e) LW1.out (by rw [← he]; exact lies_drop LW1.out (f + 1)) (by rw [HM.out, he]) (by rw [HM.out]; omega) G3.out
            have HO := Lib.hid (And.intro ho hgo)
            have R1 := Lib.hid r1
            have R2 := Lib.hid r2
            have hf1 : IntKind.i64.wrap ((f : Int) + 1) = (e : Int) := by simp [IntKind.wrap_i64]; omega
            have b1 : (0 : Int) ≤ (f : Int) := by omega
            have b2 : (f : Int) ≤ (m : Int) := by omega
            have b3 : (f : Int) ≤ (lc : Int) := by omega
            have b4 : (0 : Int) ≤ (e : Int) := by omega
            have b5 : (e : Int) ≤ (m : Int) := by omega
            have b6 : (e : Int) ≤ (lc : Int) := by omega
            have b7 : (m : Int) ≤ (lc : Int) := by omega
            have d1 : f ≤ m := by omega
            have d2 : f ≤ lc := by omega
            have d3 : e ≤ m := by omega
            have d4 : e ≤ lc := by omega
            clear he ho hgo r1 r2
            go_wp2_with fail
            go_region_held3 (fun _ => True) (trivial) (first | (refine step_append_run rfl (.tmp 100) (.tmp 103) 25 rfl (.slice (some ⟨w1.heap.size, 0, none⟩) 0 0) (.slice (some ⟨b, off, none⟩) f lc) rfl rfl R1.out ?_) | (refine step_append_run rfl (.tmp 104) (.tmp 108) 25 rfl v1 (.slice (some ⟨b, off + e * 3, none⟩) (m - e) (lc - e)) rfl rfl R2.out ?_))
            go_wp2_with fail
            go_roundw
            case rel => exact ⟨l.take f ++ l.drop (f + 1), id, k, count + 1, rfl, rfl, by go_num, HO.out.1, RM.out, by omega, hk, by omega, HO.out.2⟩
            case measure => simp [intOf]; omega
    · exfalso
      exact hinv.no (a := a) (by have : a * c ≤ a * 7 := Nat.mul_le_mul_left a (by omega)
                                 omega) ha1 (by omega)
end Go.Proofs.Ytffoaldfklcfgaa
