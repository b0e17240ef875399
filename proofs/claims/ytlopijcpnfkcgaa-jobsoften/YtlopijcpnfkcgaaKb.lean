/- The law JobsRoom, walked. -/
import Derived.Test.YtlopijcpnfkcgaaJh
import Derived.Test.YtlopijcpnfkcgaaOe
import Derived.Deep.CutBlock
namespace Go.Proofs.Ytlopijcpnfkcgaa
open Go.RowKit
set_option linter.unusedSimpArgs false

theorem gon_upd (J : List Jb) (z : Jb) : gon (upd J z) z.id = gon J z.id := by
  unfold gon upd
  rw [List.filter_map]
  have : ((fun x => decide (x.id ≠ z.id)) ∘ fun x => if x.id = z.id then z else x) = fun x : Jb => decide (x.id ≠ z.id) := by
    funext x
    simp only [Function.comp]
    split
    · next h => simp [h]
    · rfl
  rw [this]
  refine (List.map_congr_left fun x hx => ?_).trans (List.map_id _)
  have := (List.mem_filter.1 hx).2
  simp only [ne_eq, decide_eq_true_eq] at this
  rw [if_neg this]; rfl
theorem fnd_gon (J : List Jb) (i : Int) : fnd (gon J i) i = none := fnd_no fun _ hx => (mem_gon.1 hx).2
theorem BS.some_w {w0 w : World} {B : BB} {a room n count : Int} {v : Value} {last k : Nat} {L : List QQ.Wt} {G : List LE.Gr} {J : List Jb} (h : BS w0 w B a room n count v last k L G J) {x : Jb} (hx : x ∈ J) (hs : x.s = 1) : ∃ j, QQ.Fst a L j := by
  obtain ⟨y, hy, _⟩ := (h.bi.ws x.id).2 ⟨x, hx, rfl, hs⟩
  obtain ⟨j, _, hj⟩ := QQ.frs_spec a (List.length_pos_of_mem hy)
  exact ⟨j, hj⟩
theorem Stp.cell {B : BB} {v v' : Value} {w x : World} (h : Stp B v v' w x) {a : Addr} {u : Value} (hc : w.cell? a = some u) (hn : ¬ bf B v a.block) : x.cell? a = some u := h.f.cell hc hn
set_option maxHeartbeats 8000000 in
set_option maxRecDepth 100000 in
theorem room_walk (n0 m0 : Nat) (ao : Option Addr) (cap : Nat) (l : List Nat) (w : World) (h0 : n0 < 256) (h1 : m0 < 256) (hl : Lies w ao (cb l)) (hb : ∀ x ∈ l, x < 256) :
    Calls Try.prog 4 #[.int .u8 (n0 : Nat), .int .u8 (m0 : Nat), .slice ao l.length cap] w fun e w' => e = .returned (.bool true) ∧ Grw w w' := by
  obtain ⟨n, hn⟩ : ∃ a : Nat, 1 + n0 % 20 = a := ⟨_, rfl⟩
  obtain ⟨m, hm⟩ : ∃ a : Nat, m0 % 3 = a := ⟨_, rfl⟩
  obtain ⟨nn, hN⟩ : ∃ a : Nat, l.length = a := ⟨_, rfl⟩
  have rn : 1 ≤ n ∧ n ≤ 20 := by omega
  have rm : m ≤ 2 := by omega
  have q1 : IntKind.i64.wrap (n0 : Int) = n0 := by simp [IntKind.wrap_i64]; omega
  have q2 : IntKind.i64.wrap (m0 : Int) = m0 := by simp [IntKind.wrap_i64]; omega
  have q3 : IntKind.i64.wrap (1 + (n0 : Int) % 20) = (n : Int) := by simp [IntKind.wrap_i64]; omega
  have q4 : (m0 : Int) % 3 = (m : Int) := by omega
  rw [hN]
  have LI := Lib.hid hl
  have HN := Lib.hid hN
  have HB := Lib.hid hb
  clear h0 h1 hl hb hn hm hN
  go_enter Try.func4, Try.ntmps4
  go_wp2_with fail
  refine (s_new 1 n m w w (Grw.rfl' w) (by decide) (by decide) (by omega) (by omega) (by omega) (by omega)).mono ?_
  rintro _ w1 ⟨B, rfl, b1, _⟩
  have B1 := Lib.hid b1
  clear b1
  go_wp2_with fail
  go_loopw [10] (fun s10 wr => ∃ (i k : Nat) (v : Value) (L : List QQ.Wt) (G : List LE.Gr) (J : List Jb), s10 = .int .i64 i ∧ i ≤ n ∧ BS w wr B 1 n m 0 v 0 k L G J ∧ k ≤ i ∧ J.length = i ∧ ∀ x ∈ J, x.s = 1 ∧ x.u = 0 ∧ 0 ≤ x.id ∧ x.id < i) (fun s10 _ => n - (intOf s10).toNat)
  case atStart => exact ⟨0, 0, _, [], [], [], rfl, Nat.zero_le _, B1.out, Nat.le_refl _, rfl, fun _ h => by cases h⟩
  case round =>
    obtain ⟨i, k, v, L, G, J, rfl, hi, hs, hk, hlen, hall⟩ := hrel
    have S := Lib.hid hs
    have AL := Lib.hid (And.intro hk (And.intro hlen hall))
    clear hs hk hlen hall
    by_cases ci : i < n
    · have d1 : decide (i < n) = true := by simp [ci]
      obtain ⟨c, hc⟩ : ∃ c, i % 8 = c := ⟨_, rfl⟩
      have q5 : (i : Int) % 8 = (c : Int) := by omega
      have q6 : IntKind.i64.wrap ((i : Int) + 1) = ((i + 1 : Nat) : Int) := by simp [IntKind.wrap_i64]; omega
      have AD := Lib.hid (s_add S.out (i := (i : Int)) (cl := (c : Int)) (by unfold LE.Wi; omega) (by omega) (by omega) (fnd_no (fun x hx => by have := AL.out.2.2 x hx; omega)) (by have := AL.out.2.1; omega) (by have := AL.out.1; omega))
      clear hc
      go_wp2_with fail
      refine AD.out.mono ?_
      rintro _ w2 ⟨rfl, v', b2, _⟩
      have B2 := Lib.hid b2
      clear b2
      go_wp2_with fail
      go_roundw
      case rel => exact ⟨i + 1, k + 1, v', _, _, _, by first | rfl | go_num, by omega, B2.out, by have := AL.out.1; omega, by simp [AL.out.2.1], fun x hx => by
        rcases List.mem_append.1 hx with hx | hx
        · have := AL.out.2.2 x hx; exact ⟨this.1, this.2.1, this.2.2.1, by omega⟩
        · rw [List.mem_singleton.1 hx]; exact ⟨rfl, rfl, by simp only; omega, by simp only; omega⟩⟩
      case measure => simp [intOf]; omega
    · have d1 : decide (i < n) = false := by simp; omega
      obtain rfl : i = n := by omega
      clear ci
      go_wp2_with fail
      clear d1
      go_loopw [11] (fun s11 wr => ∃ (i' k last : Nat) (count : Int) (v : Value) (L : List QQ.Wt) (G : List LE.Gr) (J : List Jb), s11 = .int .i64 i' ∧ i' ≤ i ∧ BS w wr B 1 i m count v last k L G J ∧ k ≤ 20 + 10 * i' ∧ J.length = i ∧ ∀ x ∈ J, x.s = 1 ∧ x.u = 0 ∧ x.id < 1000 + i') (fun s11 _ => i - (intOf s11).toNat)
      case atStart => exact ⟨0, k, 0, 0, v, L, G, J, rfl, Nat.zero_le _, S.out, by have := AL.out.1; omega, AL.out.2.1, fun x hx => by have := AL.out.2.2 x hx; exact ⟨this.1, this.2.1, by omega⟩⟩
      case round =>
        clear S AL
        obtain ⟨r, k, last, count, v, L, G, J, rfl, hi, hs, hk, hlen, hall⟩ := hrel
        have S := Lib.hid hs
        have AL := Lib.hid (And.intro hk (And.intro hlen hall))
        clear hs hk hlen hall
        by_cases ci : r < i
        · have d1 : decide (r < i) = true := by simp [ci]
          obtain ⟨tb, htb⟩ : ∃ tb, decide (r < nn) = tb := ⟨_, rfl⟩
          have HTB := Lib.hid htb
          have q6 : IntKind.i64.wrap ((r : Int) + 1) = ((r + 1 : Nat) : Int) := by simp [IntKind.wrap_i64]; omega
          go_upto_if 53 with fail
          go_cut [12] from 54 to 58 (fun s12 wx => ∃ hb : Nat, s12 = .int .u8 (hb : Nat) ∧ hb < 256 ∧ BS w wx B 1 i m count v last k L G J)
          case first =>
            cases tb with
            | true =>
              have hrn : r < nn := by have := HTB.out; simpa using this
              have hrl : r < l.length := by rw [HN.out]; exact hrn
              obtain ⟨bb, off, rfl, cj⟩ := lies_map LI.out hrl
              have X := HB.out l[r] (List.getElem_mem hrl)
              obtain ⟨hb, hhb⟩ : ∃ hb, l[r] = hb := ⟨_, rfl⟩
              rw [hhb] at cj X
              have c1 := S.out.g.cell cj
              have hrI : (r : Int) < (nn : Int) := by omega
              clear cj hhb hrl htb
              go_wp2_with fail
              go_meet
              case rel => exact ⟨hb, rfl, X, S.out⟩
            | false =>
              go_wp2_with fail
              go_meet
              case rel => exact ⟨0, rfl, by omega, S.out⟩
          case rest =>
            obtain ⟨hb, rfl, hb8, hs⟩ := hcut
            clear S htb
            have S := Lib.hid hs
            obtain ⟨K, hK⟩ : ∃ K, 1000 + r = K := ⟨_, rfl⟩
            have q7 : IntKind.i64.wrap (1000 + (r : Int)) = (K : Int) := by simp [IntKind.wrap_i64]; omega
            have hKi : LE.Wi (K : Int) := by unfold LE.Wi; omega
            have hKn : ∀ x ∈ J, x.id ≠ (K : Int) := fun x hx => by have := AL.out.2.2 x hx; omega
            have FU := Lib.hid (s_full S.out (i := (K : Int)) (cl := 0) hKi (by decide) (by decide) (fnd_no hKn) (by rw [AL.out.2.1]; exact Int.le_refl _))
            have HK := Lib.hid (And.intro hK (And.intro hKi hKn))
            clear hs hK hKi hKn
            go_wp2_with fail
            refine FU.out.mono ?_
            rintro _ w3 ⟨rfl, g3⟩
            have S3 := Lib.hid (S.out.later g3)
            clear g3
            go_wp2_with fail
            refine (s_open S3.out AL.out.2.1).mono ?_
            rintro _ _ ⟨rfl, rfl⟩
            go_wp2_with fail
            have hJ : 0 < J.length := by rw [AL.out.2.1]; have := rn.1; omega
            obtain ⟨jj, hjj⟩ := S3.out.some_w (List.getElem_mem hJ) (AL.out.2.2 _ (List.getElem_mem hJ)).1
            obtain ⟨y, hy, hys, _, _, C⟩ := s_fetch S3.out hjj (t := 5) (by decide) (by have := AL.out.1; omega)
            obtain ⟨hyJ, hyi⟩ := fnd_some hy
            have hyu := (AL.out.2.2 y hyJ).2.1
            obtain ⟨yi, yc, ys, yu⟩ := y
            simp only at hys hyu hyi C
            subst hys hyu
            obtain ⟨mm, hmm⟩ : ∃ mm, last + 1 = mm := ⟨_, rfl⟩
            rw [hmm] at C
            have CF := Lib.hid C
            have YJ := Lib.hid hyJ
            clear C hy hyJ hyi hjj hJ hmm
            refine CF.out.mono ?_
            rintro _ w4 ⟨rfl, v4, b4, _⟩
            have S4 := Lib.hid (b4.later ((Grw.rfl' w4).alloc (.cells #[.int .i64 (mm : Nat), .int .i64 yi, .int .i64 0, .int .i64 0, .int .i64 (0 + 1), .int .u64 ((5 : Nat) : Int)] 33)))
            have NB : Hid (¬ bf B v4 w4.heap.size) := (fun e => Nat.lt_irrefl _ (b4.lt _ e) : ¬ bf B v4 w4.heap.size)
            clear b4
            simp only [lv]
            have FU4 := Lib.hid (s_full S4.out (i := (K : Int)) (cl := 0) HK.out.2.1 (by decide) (by decide) (fnd_no (fun x hx => by
              rcases mem_upd.1 hx with ⟨hx, _⟩ | ⟨rfl, _⟩
              · exact HK.out.2.2 x hx
              · exact (HK.out.2.2 ⟨yi, yc, 1, 0⟩ YJ.out : yi ≠ (K : Int)))) (by rw [upd_len, AL.out.2.1]; exact Int.le_refl _))
            go_wp2_with fail
            refine FU4.out.mono ?_
            rintro _ w5 ⟨rfl, g5⟩
            have S5 := Lib.hid (S4.out.later g5)
            have c0 : w5.cell? ⟨w4.heap.size, 0, none⟩ = some (.int .i64 (mm : Nat)) := g5.cell (by simp [go_sem])
            have c1 : w5.cell? ⟨w4.heap.size, 1, none⟩ = some (.int .i64 yi) := g5.cell (by simp [go_sem])
            obtain ⟨xb, hxb⟩ : ∃ xb, w4.heap.size = xb := ⟨_, rfl⟩
            rw [hxb] at NB c0 c1 ⊢
            clear g5 hxb
            go_upto_block 4 with fail
            go_cut [] from 83 to 136 (fun wx => ∃ (v' : Value) (last' k' : Nat) (L' : List QQ.Wt) (G' : List LE.Gr), BS w wx B 1 i m (count + 1) v' last' k' L' G' (gon J yi) ∧ k' ≤ k + 3 ∧ wx.cell? ⟨xb, 1, none⟩ = some (.int .i64 yi))
            case first =>
              have OKG := Lib.hid S5.out.ok
              have BN := Lib.hid (LE.byN_of (g := ⟨(mm : Nat), yi, 5⟩) S5.out.ok (by simp))
              have WM := Lib.hid (Ids.wn (g := ⟨(mm : Nat), yi, 5⟩) S5.out.ok (by simp))
              have FY := Lib.hid (fnd_upd (z := ⟨yi, yc, 2, 0 + 1⟩) (J := J) S.out.bi.ids ⟨_, YJ.out, rfl⟩)
              have GU := Lib.hid (gon_upd J ⟨yi, yc, 2, 0 + 1⟩)
              rcases (by omega : (hb : Int) % 3 = 0 ∨ (hb : Int) % 3 = 1 ∨ (hb : Int) % 3 = 2) with ht | ht | ht
              · have t0 : ((hb : Int) % 3 == 0) = true := by simp [ht]
                clear ht
                have AN := Lib.hid (s_answer S5.out WM.out BN.out)
                simp only at AN
                go_wp2_with fail
                refine AN.out.mono ?_
                rintro _ w6 ⟨rfl, b6, s6⟩
                have R6 := Lib.hid b6
                have c6 := s6.cell c1 NB.out
                clear b6 s6 c0 c1
                go_wp2_with fail
                go_meet
                case rel => exact ⟨_, _, k + 1, _, _, by rw [← GU.out]; exact R6.out, by omega, c6⟩
              · have t0 : ((hb : Int) % 3 == 0) = false := by simp [ht]
                have t1 : ((hb : Int) % 3 == 1) = true := by simp [ht]
                clear ht
                obtain ⟨L', _, _, _, D⟩ := s_drop S5.out FY.out
                have DR := Lib.hid D
                clear D
                go_wp2_with fail
                refine DR.out.mono ?_
                rintro _ w6 ⟨rfl, v6, b6, s6⟩
                have R6 := Lib.hid b6
                have c6 := s6.cell c1 NB.out
                clear b6 s6 c0 c1
                go_wp2_with fail
                go_meet
                case rel => exact ⟨_, _, k + 1, _, _, by rw [← GU.out]; exact R6.out, by omega, c6⟩
              · have t0 : ((hb : Int) % 3 == 0) = false := by simp [ht]
                have t1 : ((hb : Int) % 3 == 1) = false := by simp [ht]
                clear ht
                by_cases cm : m = 0
                · have d5 : ((m : Int) == 0) = true := by simp [cm]
                  have DE := Lib.hid (s_dead S5.out WM.out BN.out FY.out (by simp only; omega))
                  clear cm
                  simp only at DE
                  go_wp2_with fail
                  refine DE.out.mono ?_
                  rintro _ w6 ⟨rfl, b6, s6⟩
                  have R6 := Lib.hid b6
                  have c6 := s6.cell c1 NB.out
                  clear b6 s6 c0 c1
                  go_wp2_with fail
                  go_meet
                  case rel => exact ⟨_, _, k + 1, _, _, by rw [← GU.out]; exact R6.out, by omega, c6⟩
                · have d5 : ((m : Int) == 0) = false := by simp [cm]
                  have FA := Lib.hid (s_fail S5.out WM.out BN.out FY.out (by simp only; omega) (by have := AL.out.1; omega))
                  simp only at FA
                  clear cm
                  go_wp2_with fail
                  refine FA.out.mono ?_
                  rintro _ w6 ⟨rfl, b6, s6⟩
                  have R6 := Lib.hid b6
                  have c6 := s6.cell c1 NB.out
                  clear b6 s6 c0 c1
                  have FU6 := Lib.hid (s_full R6.out (i := (K : Int)) (cl := 0) HK.out.2.1 (by decide) (by decide) (fnd_no (fun x hx => by
                    rcases mem_upd.1 hx with ⟨hx, _⟩ | ⟨rfl, _⟩
                    · rcases mem_upd.1 hx with ⟨hx, _⟩ | ⟨rfl, _⟩
                      · exact HK.out.2.2 x hx
                      · exact (HK.out.2.2 ⟨yi, yc, 1, 0⟩ YJ.out : yi ≠ (K : Int))
                    · exact (HK.out.2.2 ⟨yi, yc, 1, 0⟩ YJ.out : yi ≠ (K : Int)))) (by rw [upd_len, upd_len, AL.out.2.1]; exact Int.le_refl _))
                  go_wp2_with fail
                  refine FU6.out.mono ?_
                  rintro _ w7 ⟨rfl, g7⟩
                  have R7 := Lib.hid (R6.out.later g7)
                  have c7 := g7.cell c6
                  clear g7 c6
                  obtain ⟨L', _, _, _, D⟩ := s_drop (y := ⟨yi, yc, 3, 0 + 1⟩) R7.out (fnd_upd (z := ⟨yi, yc, 3, 0 + 1⟩) (S5.out.bi.ids) ⟨⟨yi, yc, 2, 0 + 1⟩, (fnd_some FY.out).1, rfl⟩)
                  have DR := Lib.hid D
                  clear D
                  go_wp2_with fail
                  refine DR.out.mono ?_
                  rintro _ w8 ⟨rfl, v8, b8, s8⟩
                  have R8 := Lib.hid b8
                  have c8 := s8.cell c7 NB.out
                  clear b8 s8 c7
                  go_wp2_with fail
                  go_meet
                  case rel => exact ⟨_, _, k + 2, _, _, by rw [← GU.out, ← gon_upd _ ⟨yi, yc, 3, 0 + 1⟩]; exact R8.out, by omega, c8⟩
            case rest =>
              obtain ⟨v9, last9, k9, L9, G9, b9, hk9, c9⟩ := hcut
              have S9 := Lib.hid b9
              have YW := Lib.hid (S.out.wi YJ.out)
              have LG := Lib.hid (gon_len S.out.bi.ids YJ.out)
              have K9 := Lib.hid hk9
              clear b9 hk9 c0 c1
              simp only at YW LG
              go_wp2_with fail
              refine (s_state S9.out YW.out (y := j0) (by rw [fnd_gon]; rfl) (b := false) (by rw [fnd_gon]; rfl)).mono ?_
              rintro _ wa ⟨rfl, ga⟩
              have SA := Lib.hid (S9.out.later (ga.alloc (.cells #[.int .i64 0, .int .i64 0] 48)))
              clear ga c9
              simp only [j0]
              go_wp2_with fail
              refine (s_add SA.out (i := (K : Int)) (cl := 7) HK.out.2.1 (by decide) (by decide) (fnd_no (fun x hx => HK.out.2.2 x (mem_gon.1 hx).1)) (by have := LG.out; have := AL.out.2.1; omega) (by have := K9.out; have := AL.out.1; omega)).mono ?_
              rintro _ wb ⟨rfl, vb, bb, _⟩
              have SB := Lib.hid bb
              clear bb
              go_wp2_with fail
              refine (s_open SB.out (m := i) (by have := LG.out; have := AL.out.2.1; simp; omega)).mono ?_
              rintro _ _ ⟨rfl, rfl⟩
              go_wp2_with fail
              go_roundw
              case rel => exact ⟨r + 1, k9 + 1, _, _, _, _, _, _, by first | rfl | go_num, by omega, SB.out, by have := K9.out; have := AL.out.1; omega, by have := LG.out; have := AL.out.2.1; simp; omega, fun x hx => by
                have hK := HK.out.1
                rcases List.mem_append.1 hx with hx | hx
                · have := AL.out.2.2 x (mem_gon.1 hx).1; exact ⟨this.1, this.2.1, by omega⟩
                · rw [List.mem_singleton.1 hx]; exact ⟨rfl, rfl, by simp only; omega⟩⟩
              case measure => simp [intOf]; omega
        · have d1 : decide (r < i) = false := by simp; omega
          go_wp2_with fail
          refine (wakes_any _).mono ?_
          rintro _ w9 ⟨rfl, g9⟩
          have G9 := Lib.hid (S.out.g.trans g9)
          clear g9
          go_wp2_with fail
          go_ret
          exact ⟨rfl, G9.out⟩
end Go.Proofs.Ytlopijcpnfkcgaa
