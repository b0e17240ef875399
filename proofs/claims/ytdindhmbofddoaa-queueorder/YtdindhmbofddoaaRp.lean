/- The law QueueOrder, walked. -/
import Derived.Test.YtdindhmbofddoaaRo
namespace Go.Proofs.Ytdindhmbofddoaa
open Go.RowKit
set_option linter.unusedSimpArgs false

set_option maxHeartbeats 4000000 in
set_option maxRecDepth 100000 in
theorem order_walk (n0 : Nat) (ao : Option Addr) (n cap : Nat) (acts : List Wt) (w : World) (h0 : n0 < 65536) (ha : Lies w ao (cw acts)) (hn : acts.length = n) (hnn : n ≤ 9223372036854775807) :
    Calls Try.prog 4 #[.int .u16 (n0 : Nat), .slice ao n cap] w fun e w' => e = .returned (.bool true) ∧ Grw w w' := by
  obtain ⟨a, hra⟩ : ∃ a : Nat, 1 + n0 % 1000 = a := ⟨_, rfl⟩
  have ra : 1 ≤ a ∧ a ≤ 1000 := by omega
  have q1 : IntKind.i64.wrap (n0 : Int) = n0 := by simp [IntKind.wrap_i64]; omega
  have q4 : IntKind.i64.wrap (1 + (n0 : Int) % 1000) = (a : Int) := by simp [IntKind.wrap_i64]; omega
  have A := Lib.hid ha
  have HA := Lib.hid (And.intro hn hnn)
  have RA := Lib.hid ra
  clear ha hn hnn hra ra h0
  go_enter Try.func4, Try.ntmps4
  go_wp2_with fail
  refine (m_new (a : Int) 60 w w (Grw.rfl' w) (by have := RA.out; omega) (by have := RA.out; omega) (by omega) (by omega)).mono ?_
  rintro _ w2 ⟨p, rfl, hq, hp⟩
  have Q2 := Lib.hid hq
  clear hq hp
  go_upto_region 5 with fail
  obtain ⟨i0, hi, hz0, hz1, hz2⟩ := info_parts (show (Try.prog.info? 3).map (fun i => (i.zero, i.size, i.bytes)) = some (some (.int .i64 0), 1, 8) by kernel_rfl)
  obtain ⟨w3, hrun, ro, rg⟩ := run_make_own (P := Try.prog) w2.drew w2.drew.heap.size 46 3 i0 _ 1 Try.underlying46 hi hz0 hz1 .i64 .i64 60 (by rw [hz2]; omega) (by unfold maxLen; omega) (Nat.le_refl _)
  have hrun2 : (Instr.makeSlice 46 (.int .i64 0) (.int .i64 60)).run Try.prog w2.drew = .ok (.slice (some ⟨w2.heap.size, 0, none⟩) 0 60) w3 := hrun
  have g23 : Grw w2 w3 := ((Grw.rfl' w2).drew).trans (Below.grown (B := w2.drew.heap.size) (a := w2.drew) (Grw.rfl' _) rg (Nat.le_refl _) (fun k e => by cases e))
  have hp2 : p < w2.heap.size := World.block_lt_of_cell? _ _ Q2.out.q.c0
  have Q3 : Hid (QO w w3 p (a : Int) w2.heap.size 0 0 (.slice none 0 0) [] [] acts) := (⟨Q2.out.later g23, row_base ro (fun k e => by injection e with e; rw [← e]; exact Below.size Q2.out.g), (by
    intro h
    rcases h with e | e
    · omega
    · simp [Value.ownBlock] at e), by omega, by omega, Nat.zero_le _, fun x hx => by cases hx⟩ : QO w w3 p (a : Int) w2.heap.size 0 0 (.slice none 0 0) [] [] acts)
  clear hrun ro rg g23 hp2
  go_region
  obtain ⟨g, hg⟩ : ∃ g, w2.heap.size = g := ⟨_, rfl⟩
  rw [hg] at Q3 ⊢
  clear hrun2 Q2 hg
  go_wp2_with fail
  go_loopw [7, 8, 9] (fun nn cc i wr => ∃ k m count v L cs, k ≤ n ∧ k ≤ 60 ∧ L.length = m ∧ nn = .int .i64 (m : Nat) ∧ cc = .slice (some ⟨g, 0, none⟩) k 60 ∧ i = .int .i64 (k : Nat) ∧ QO w wr p (a : Int) g k count v L cs acts) (fun _ _ i _ => n - (intOf i).toNat)
  case atStart => exact ⟨0, 0, _, _, _, _, Nat.zero_le _, Nat.zero_le _, rfl, rfl, rfl, rfl, Q3.out⟩
  case round =>
    obtain ⟨k, m, count, v, L, cs, hk, hk60, hm, rfl, rfl, rfl, hq⟩ := hrel
    have Q := Lib.hid hq
    have HM := Lib.hid hm
    clear hq hm Q3
    by_cases c : k < n ∧ k < 60
    · have c1 : (k : Int) < (n : Int) := by omega
      have c2 : (k : Int) < 60 := by omega
      have ck : k < n := c.1
      have hm60 : m ≤ 60 := by have := Q.out.len; have := HM.out; omega
      have hkl : k < acts.length := by rw [HA.out.1]; exact ck
      obtain ⟨ab, off, rfl, e0, e1, e2⟩ := wlies_at A.out hkl
      obtain ⟨act, hact⟩ : ∃ x, acts[k] = x := ⟨_, rfl⟩
      rw [hact] at e0 e1 e2
      obtain ⟨ax, ay, az⟩ := act
      simp only at e0 e1 e2
      have HX : Hid (gt acts k = ⟨ax, ay, az⟩) := (by rw [gt_at hkl]; exact hact : gt acts k = ⟨ax, ay, az⟩)
      have E : Hid (∀ u, Grw w u → u.cell? ⟨ab, off + k * 3, none⟩ = some (.int .i64 ax) ∧ u.cell? ⟨ab, off + k * 3 + 2, none⟩ = some (.int .i64 az)) := (fun u g => ⟨g.cell e0, g.cell e2⟩ : ∀ u, Grw w u → u.cell? ⟨ab, off + k * 3, none⟩ = some (.int .i64 ax) ∧ u.cell? ⟨ab, off + k * 3 + 2, none⟩ = some (.int .i64 az))
      have q8 : (0 : Int) ≤ az % 8 ∧ az % 8 < 8 := ⟨Int.emod_nonneg _ (by decide), Int.emod_lt_of_pos _ (by decide)⟩
      have MO := Lib.hid (fun w => mod_any az 8 w (by decide) (by decide))
      obtain ⟨cl, hcl⟩ : ∃ cl, az % (8 : Int) = cl := ⟨_, rfl⟩
      rw [hcl] at q8
      have MO2 : Hid (∀ w, Calls Try.prog 11 #[.int .i64 az, .int .i64 8] w fun e w' => e = .returned (.int .i64 cl) ∧ w = w') := (fun w => by have := MO.out w; rw [← hcl]; exact this : ∀ w, Calls Try.prog 11 #[.int .i64 az, .int .i64 8] w fun e w' => e = .returned (.int .i64 cl) ∧ w = w')
      have Q8 := Lib.hid q8
      have HX2 : Hid ((⟨(k : Int), cl, count⟩ : Wt) = ⟨(k : Int), (gt acts k).ca % 8, count⟩) := (by rw [HX.out, hcl] : (⟨(k : Int), cl, count⟩ : Wt) = ⟨(k : Int), (gt acts k).ca % 8, count⟩)
      have HK := Lib.hid hkl
      have q5 : IntKind.i64.wrap ((m : Int) + 1) = ((m + 1 : Nat) : Int) := by simp [IntKind.wrap_i64]; omega
      have q6 : IntKind.i64.wrap ((k : Int) + 1) = ((k + 1 : Nat) : Int) := by simp [IntKind.wrap_i64]; omega
      clear hact e0 e1 e2 q8 hcl hkl MO c
      go_wp2_with fail
      refine (count_is Q.out.m.q).mono ?_
      rintro _ _ ⟨rfl, rfl⟩
      go_wp2_with (at_builtin; refine wpList_append_own_spare _ rfl _ _ 46 rfl w.heap.size 3 i0 1 Try.underlying46 hi hz1 g k 60 _ rfl (World.ownsRow.alloc Q.out.row _) ⟨_, 0, none⟩ 1 1 [.int .i64 count] rfl rfl (one_int _ _ _) (by simp [Value.oneCell']) (by omega) ?_)
      intro w4 row4 gb4
      have F4 : Frm (fun k => k = g) wr w4 := (((Grw.rfl' wr).alloc (.cells #[.int .i64 count] 3)).frm (fun k => k = g)).trans (grownBy_frm gb4) (fun _ e => Or.inl (by injection e with e; exact e.symm))
      have M4 := Lib.hid (Q.out.m.frm F4 Q.out.off Q.out.gb.1)
      have R4 := Lib.hid row4
      have e2 := (E.out w4 M4.out.g).2
      clear row4 gb4 F4
      go_wp2_with fail
      refine (MO2.out _).mono ?_
      rintro _ _ ⟨rfl, rfl⟩
      clear e2
      go_wp2_with fail
      refine (m_put M4.out (k : Int) cl Q8.out.1 Q8.out.2 Q.out.new (by have := HM.out; have := Q.out.len; omega) (by have := HM.out; omega)).mono ?_
      rintro _ w5 ⟨rfl, v5, m5, f5, n5⟩
      have Q5 := Lib.hid (Q.out.add R4.out Q.out.cl HK.out HX2.out m5 f5 n5)
      obtain ⟨L5, hL5⟩ : ∃ L5, L ++ [(⟨(k : Int), cl, count⟩ : Wt)] = L5 := ⟨_, rfl⟩
      obtain ⟨cs5, hc5⟩ : ∃ cs5, cs ++ [Value.int .i64 count] = cs5 := ⟨_, rfl⟩
      have HL5 : Hid (L5.length = m + 1) := (by rw [← hL5, List.length_append, HM.out]; rfl : L5.length = m + 1)
      rw [hL5, hc5] at Q5
      have e0 := (E.out w5 Q5.out.m.g).1
      clear m5 f5 n5 hL5 hc5
      obtain ⟨t4, ht4⟩ : ∃ t, (ax.tmod 4 == 0) = t := ⟨_, rfl⟩
      cases t4 with
      | false =>
        go_wp2_with fail
        go_roundw
        case rel => exact ⟨k + 1, m + 1, count, v5, L5, cs5, by omega, by omega, HL5.out, by go_num, rfl, by go_num, Q5.out⟩
        case measure => simp [intOf]; omega
      | true =>
        obtain ⟨f, hf⟩ := fst_ex (a : Int) L5 (by rw [HL5.out]; omega) Q5.out.m.q.ids
        have T := m_take Q5.out.m hf Q5.out.c0 (by have := Q5.out.c1; omega)
        obtain ⟨y, hy⟩ : ∃ y, gt L5 f = y := ⟨_, rfl⟩
        rw [hy] at T
        have TT := Lib.hid T
        have HF := Lib.hid hf.lt
        have q7 : IntKind.i64.wrap (((m + 1 : Nat) : Int) - 1) = (m : Int) := by simp [IntKind.wrap_i64]; omega
        have CC : Hid (count + 1 ≤ ((k + 1 : Nat) : Int)) := (by have := Q.out.c1; omega : count + 1 ≤ ((k + 1 : Nat) : Int))
        clear T hf hy
        go_wp2_with fail
        refine TT.out.mono ?_
        rintro _ w6 ⟨rfl, v6, m6, f6, n6⟩
        have Q6 := Lib.hid ((Q5.out.took HF.out CC.out m6 f6 n6).later ((Grw.rfl' w6).alloc (.cells #[.int .i64 y.id, .int .i64 y.cl, .int .i64 y.ca] 37)))
        have HL6 : Hid ((rem L5 f).length = m) := (by have := rem_len HF.out; have := HL5.out; omega : (rem L5 f).length = m)
        clear m6 f6 n6
        simp only [wv]
        go_wp2_with fail
        go_roundw
        case rel => exact ⟨k + 1, m, _, _, _, _, by omega, by omega, HL6.out, by go_num, rfl, by go_num, Q6.out⟩
        case measure => simp [intOf]; omega
    · have c0 : ¬ (k < n ∧ k < 60) := c
      have Q' := Lib.hid (show L.length = m from HM.out)
      go_upto_region 7 with fail
      go_cut [34] from 27 to 35 (fun s34 wx => s34 = .bool false ∧ wx = wr)
      case first =>
        by_cases c1 : k < n
        · have c2 : ¬ k < 60 := fun e => c0 ⟨c1, e⟩
          have c3 : decide ((k : Int) < 60) = false := by simp; omega
          have c4 : (k : Int) < (n : Int) := by omega
          go_wp2_with fail
          go_meet
          case rel => exact ⟨rfl, rfl⟩
        · have c2 : ¬ (k : Int) < (n : Int) := by omega
          go_wp2_with fail
          go_meet
          case rel => exact ⟨rfl, rfl⟩
      case rest =>
        obtain ⟨rfl, e1⟩ := hcut
        subst e1
        clear c c0
        go_wp2_with fail
        refine (list_is Q.out.m.q).mono ?_
        rintro _ w4 ⟨u, s, rfl, hs⟩
        obtain ⟨so, sc, hu⟩ := own_slice (row_base hs.row (fun _ _ => Nat.zero_le _))
        subst hu
        have SL := Lib.hid (show s.length = m from (hs.perm.length_eq.trans HM.out))
        have T0 : Hid (QT w w4 p (a : Int) g k (.slice so m sc) s cs 0 count v L) := (SL.out ▸ QT.start Q.out hs : QT w w4 p (a : Int) g k (.slice so m sc) s cs 0 count v L)
        have SS := Lib.hid hs.srt
        have SI := Lib.hid (show (s.map Wt.id).Nodup from ((hs.perm.map Wt.id).nodup_iff).2 Q.out.m.q.ids)
        have TO : Hid (∀ x ∈ s, ∃ d : Nat, x.id = (d : Int) ∧ d < k ∧ d < acts.length ∧ x.cl = (gt acts d).ca % 8 ∧ cs[d]? = some (.int .i64 x.ca)) := (fun x hx => Q.out.told x (hs.perm.mem_iff.1 hx) : ∀ x ∈ s, ∃ d : Nat, x.id = (d : Int) ∧ d < k ∧ d < acts.length ∧ x.cl = (gt acts d).ca % 8 ∧ cs[d]? = some (.int .i64 x.ca))
        have CN := Lib.hid (And.intro Q.out.c0 Q.out.c1)
        have M60 : Hid (m ≤ 60) := (by have := Q.out.len; have := HM.out; omega : m ≤ 60)
        rw [SL.out]
        clear hs
        have M4 := Lib.hid T0.out.m
        go_wp2_with fail
        refine (len_is M4.out.q HM.out).mono ?_
        rintro _ _ ⟨rfl, rfl⟩
        clear Q Q' M4 HM
        go_wp2_with fail
        go_loopw [13] (fun i wx => ∃ j cnt v' L', j ≤ m ∧ i = .int .i64 (j : Nat) ∧ 0 ≤ cnt ∧ cnt ≤ ((k + j : Nat) : Int) ∧ QT w wx p (a : Int) g k (.slice so m sc) s cs j cnt v' L') (fun i _ => m - (intOf i).toNat)
        case atStart => exact ⟨0, _, _, _, Nat.zero_le _, rfl, CN.out.1, CN.out.2, T0.out⟩
        case round =>
          obtain ⟨j, cnt, v', L', hj, rfl, n0', n1', ht⟩ := hrel
          have T := Lib.hid ht
          have NN := Lib.hid (And.intro n0' n1')
          clear ht n0' n1' T0
          by_cases cj : j < m
          · have cji : (j : Int) < (m : Int) := by omega
            have hjs : j < s.length := by rw [SL.out]; exact cj
            obtain ⟨f, hf⟩ := fst_ex (a : Int) L' (by have := T.out.perm.length_eq; rw [List.length_drop, SL.out] at this; omega) T.out.m.q.ids
            have hfe := T.out.first SS.out hjs hf
            have TK := m_take T.out.m hf NN.out.1 (by have := NN.out.2; have := M60.out; omega)
            obtain ⟨d, t1, t2, t3, t4, t5⟩ := TO.out _ (gt_mem hjs)
            obtain ⟨y, hy⟩ : ∃ y, gt s j = y := ⟨_, rfl⟩
            rw [hfe, hy] at TK
            rw [hy] at t1 t4 t5
            obtain ⟨yi, yt, yc⟩ := y
            simp only at t1 t4 t5
            subst t1
            have HY := Lib.hid hy
            have HFE := Lib.hid hfe
            have TT := Lib.hid TK
            have HF := Lib.hid hf.lt
            have HD := Lib.hid (And.intro t2 (And.intro t3 (And.intro t4 t5)))
            clear TK hf hfe hy t2 t3 t4 t5
            go_wp2_with fail
            refine TT.out.mono ?_
            rintro _ w5 ⟨rfl, v5, m5, f5, n5⟩
            have T5 := Lib.hid (T.out.took hjs HF.out HFE.out m5 f5 n5)
            have GB := Lib.hid (Bx.new w5 (.int .i64 (d : Nat)) (.int .i64 yt) (.int .i64 yc) 37)
            clear m5 f5 n5
            simp only [wv]
            go_upto_region 25 with fail
            have T6 := Lib.hid (T5.out.later ((Grw.rfl' w5).alloc (.cells #[.int .i64 (d : Nat), .int .i64 yt, .int .i64 yc] 37)))
            obtain ⟨w6, hw6⟩ : ∃ w6, w5.alloc (.cells #[.int .i64 (d : Nat), .int .i64 yt, .int .i64 yc] 37) = w6 := ⟨_, rfl⟩
            obtain ⟨jb, hjb⟩ : ∃ jb, w5.heap.size = jb := ⟨_, rfl⟩
            rw [hw6, hjb] at GB
            rw [hw6] at T6
            rw [hw6, hjb]
            clear hw6 hjb T5
            have b0 := gw_cell GB.out.c0
            have b1 := gw_cell GB.out.c1
            have b2 := gw_cell GB.out.c2
            obtain ⟨ab, aoff, hao, e0, e1, e2⟩ := wlies_at (A.out.later T6.out.m.g) HD.out.2.1
            subst hao
            have a2 := gw_cell e2
            have hcd : (acts[d]'HD.out.2.1).ca % 8 = yt := by have := HD.out.2.2.1; rw [gt_at HD.out.2.1] at this; exact this.symm
            obtain ⟨az, haz⟩ : ∃ az, (acts[d]'HD.out.2.1).ca = az := ⟨_, rfl⟩
            rw [haz] at a2 hcd
            have MO : Hid (∀ w, Calls Try.prog 11 #[.int .i64 az, .int .i64 8] w fun e w' => e = .returned (.int .i64 yt) ∧ w = w') := (fun w => by have := mod_any az 8 w (by decide) (by decide); rw [show az % ((8 : Nat) : Int) = yt from hcd] at this; exact this : ∀ w, Calls Try.prog 11 #[.int .i64 az, .int .i64 8] w fun e w' => e = .returned (.int .i64 yt) ∧ w = w')
            have k2 := gw_cell (T6.out.rowc.cells (g := g) rfl d _ HD.out.2.2.2)
            simp only [Addr.add_lit, Nat.zero_add] at k2
            obtain ⟨sso, ssc, hsl, lis⟩ := ownsRow_lies T6.out.rows
            injection hsl with hs1 hs2
            subst hs1
            obtain ⟨sb, soff, hso, s0, s1, s2⟩ := wlies_at lis hjs
            subst hso
            have hyj : s[j] = ⟨(d : Int), yt, yc⟩ := by have := HY.out; rw [gt_at hjs] at this; exact this
            rw [hyj] at s0 s1 s2
            simp only at s0 s1 s2
            have s0' := gw_cell s0
            have s1' := gw_cell s1
            have s2' := gw_cell s2
            have d1 : decide ((d : Int) < 0) = false := by simp
            have d2 : decide ((k : Int) ≤ (d : Int)) = false := by have := HD.out.1; simp; omega
            have d3 : decide (k ≤ d) = false := by have := HD.out.1; simp; omega
            have d4 : (d : Int) < (k : Int) := by have := HD.out.1; omega
            have d5 : (d : Int) < (n : Int) := by have := HD.out.2.1; have := HA.out.1; omega
            have d6 : d < k := HD.out.1
            have d7 : d < n := by have := HD.out.2.1; have := HA.out.1; omega
            clear hcd haz e0 e1 e2 s0 s1 s2 lis hyj hs2
            rcases Nat.eq_zero_or_pos j with z | z
            · have z1 : decide ((0 : Int) < (j : Int)) = false := by simp; omega
              have z2 : decide (0 < j) = false := by simp; omega
              clear z
              refine wp_region_grown (by kernel_rfl) (by kernel_rfl) ?_
              repeat (go_big_quiet_step (first | (go_at_call 11; with_reducible exact calls_grown_same (MO.out _))))
              refine wpQuiet_nil ?_
              rintro _ ⟨q, rfl⟩
              obtain ⟨w7, hw7⟩ : ∃ w7, q.x = w7 := ⟨_, rfl⟩
              have T7 := Lib.hid (T6.out.later q.h)
              rw [hw7] at T7 ⊢
              have q6 : IntKind.i64.wrap ((j : Int) + 1) = ((j + 1 : Nat) : Int) := by have := M60.out; simp [IntKind.wrap_i64]; omega
              clear b0 b1 b2 a2 k2 s0' s1' s2' hw7
              go_wp2_with fail
              go_roundw
              case rel => exact ⟨j + 1, _, _, _, by omega, by go_num, by have := NN.out.1; omega, by have := NN.out.2; omega, T7.out⟩
              case measure => simp [intOf]; omega
            · obtain ⟨i, hi0⟩ : ∃ i, j = i + 1 := ⟨j - 1, by omega⟩
              have z1 : decide ((0 : Int) < (j : Int)) = true := by simp; omega
              have z2 : decide (0 < j) = true := by simp; omega
              have z3 : IntKind.i64.wrap ((j : Int) - 1) = (i : Int) := by have := M60.out; rw [hi0]; simp [IntKind.wrap_i64]; omega
              have z4 : (i : Int) < (m : Int) := by omega
              have z5 : i < m := by omega
              have his : i < s.length := by omega
              have hls : les (a : Int) (gt s i) ⟨(d : Int), yt, yc⟩ = true := by
                rw [← HY.out]
                refine les_tot (SS.out i j (Nat.zero_le _) (by omega) hjs) fun c => ?_
                have := ids_inj SI.out hjs his c
                omega
              obtain ⟨sb2, soff2, hso, s0, s1, s2⟩ := wlies_at (ownsRow_lies_at T6.out.rows) his
              injection hso with hso
              injection hso with hso1 hso2
              subst hso1
              subst hso2
              obtain ⟨y2, hy2⟩ : ∃ y2, s[i] = y2 := ⟨_, rfl⟩
              rw [gt_at his, hy2] at hls
              rw [hy2] at s0 s1 s2
              obtain ⟨xi, xt, xc⟩ := y2
              simp only at s0 s1 s2
              have p0 := gw_cell s0
              have p1 := gw_cell s1
              have p2 := gw_cell s2
              have LE := Lib.hid (fun w => less_is (a : Int) xi xt xc (d : Int) yt yc true w hls)
              clear s0 s1 s2 hls hy2 hi0 z
              refine wp_region_grown (by kernel_rfl) (by kernel_rfl) ?_
              repeat (go_big_quiet_step (first | (go_at_call 11; with_reducible exact calls_grown_same (MO.out _)) | (go_at_call 23; with_reducible exact calls_grown (LE.out _))))
              refine wpQuiet_nil ?_
              rintro _ ⟨q, rfl⟩
              obtain ⟨w7, hw7⟩ : ∃ w7, q.x = w7 := ⟨_, rfl⟩
              have T7 := Lib.hid (T6.out.later q.h)
              rw [hw7] at T7 ⊢
              have q6 : IntKind.i64.wrap ((j : Int) + 1) = ((j + 1 : Nat) : Int) := by have := M60.out; simp [IntKind.wrap_i64]; omega
              clear b0 b1 b2 a2 k2 s0' s1' s2' p0 p1 p2 hw7 z3
              go_wp2_with fail
              go_roundw
              case rel => exact ⟨j + 1, _, _, _, by omega, by go_num, by have := NN.out.1; omega, by have := NN.out.2; omega, T7.out⟩
              case measure => simp [intOf]; omega
          · have cji : ¬ (j : Int) < (m : Int) := by omega
            have eL : L' = [] := by
              have := T.out.perm.length_eq
              rw [List.length_drop, SL.out] at this
              exact List.eq_nil_of_length_eq_zero (by omega)
            subst eL
            go_wp2_with fail
            refine (take_none T.out.m.q).mono ?_
            rintro _ w5 ⟨rfl, g5⟩
            have M5 := Lib.hid (T.out.m.later (g5.alloc (.cells #[.int .i64 0, .int .i64 0, .int .i64 0] 37)))
            clear g5
            simp only [wv]
            go_wp2_with fail
            refine (len_is (n := 0) M5.out.q rfl).mono ?_
            rintro _ _ ⟨rfl, rfl⟩
            go_wp2_with fail
            refine (wakes_any _).mono ?_
            rintro _ w7 ⟨rfl, g7⟩
            have M7 := Lib.hid (M5.out.g.trans g7)
            clear g7
            go_wp2_with fail
            go_ret
            exact ⟨rfl, M7.out⟩
end Go.Proofs.Ytdindhmbofddoaa
