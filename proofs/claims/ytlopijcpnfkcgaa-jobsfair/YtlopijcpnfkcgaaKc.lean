/- The law JobsFair, walked. -/
import Derived.Test.YtlopijcpnfkcgaaKb
import Derived.Test.YtlopijcpnfkcgaaQFm
namespace Go.Proofs.Ytlopijcpnfkcgaa
open Go.RowKit
set_option linter.unusedSimpArgs false

theorem later0 {a : Nat} {x y : QQ.Wt} {c0 t : Nat} {cl : Nat} (ha : 1 ≤ a) (ha' : a ≤ 1000) (hx : x = ⟨0, cl, c0⟩) (hcl : cl < 8) (hc0 : c0 ≤ 1000000) (hy0 : 0 ≤ y.cl) (hy8 : y.cl < 8) (hca : y.ca = c0 + t) (ht : t ≤ 1000000) (hc : a * cl + 1 ≤ t) : QQ.les a y x = false := by
  have h1 : QQ.trn a y = y.ca + a * y.cl := QQ.trn_of (QQ.gd_of hy0 hy8 (by omega) (by omega)) (by omega) (by omega)
  have h2 : QQ.trn a x = x.ca + a * x.cl := QQ.trn_of (by subst hx; exact QQ.gd_of (by simp) (by simp; omega) (by simp) (by simp; omega)) (by omega) (by omega)
  rw [QQ.les_f, h1, h2, hca]
  subst hx
  have h4 : (0 : Int) ≤ (a : Int) * y.cl := Int.mul_nonneg (by omega) hy0
  have h5 : ((a * cl : Nat) : Int) = (a : Int) * (cl : Int) := by simp
  simp only
  omega
/-- between the calls: all that are open wait; the next number. -/
structure FA (w0 w : World) (B : BB) (a room next count k : Nat) (L : List QQ.Wt) (J : List Jb) : Prop where
  s : ∃ v last G, BS w0 w B a room 1 (count : Nat) v last k L G J
  al : ∀ x ∈ J, x.s = 1 ∧ 0 ≤ x.id ∧ x.id < next
  nx : next ≤ k ∧ 1 ≤ next
/-- job 0 has been tried so often. -/
def Z0 (cl rd : Nat) (J : List Jb) : Prop := ∀ x ∈ J, x.id = 0 → x.u = (rd : Int) ∧ x.cl = (cl : Int)
/-- ready for a round. -/
def NX (cl rd count : Nat) (L : List QQ.Wt) (J : List Jb) : Prop := rd < 2 → (⟨0, cl, (count : Nat)⟩ : QQ.Wt) ∈ L ∧ Z0 cl rd J
variable {w0 w : World} {B : BB} {a room next count k : Nat} {L : List QQ.Wt} {J : List Jb}
theorem FA.g (h : FA w0 w B a room next count k L J) : Grw w0 w := by obtain ⟨v, last, G, b⟩ := h.s; exact b.g
theorem FA.later {x : World} (h : FA w0 w B a room next count k L J) (g : Grw w x) : FA w0 x B a room next count k L J := by
  obtain ⟨v, last, G, b⟩ := h.s; exact ⟨⟨v, last, G, b.later g⟩, h.al, h.nx⟩
theorem FA.len (h : FA w0 w B a room next count k L J) : L.length ≤ J.length ∧ J.length ≤ room := by
  obtain ⟨v, last, G, b⟩ := h.s; exact ⟨b.bi.room b.ids, by have := b.rr.1; omega⟩
theorem fa_open (h : FA w0 w B a room next count k L J) {m : Nat} (hm : J.length = m) :
    Calls Try.prog 17 #[.pointer (some ⟨B.p, 0, none⟩)] w fun e w' => e = .returned (.int .i64 m) ∧ w = w' := by
  obtain ⟨v, last, G, b⟩ := h.s; exact s_open b hm
theorem fa_add (h : FA w0 w B a room next count k L J) {c : Nat} (hc : c < 8) (hr : J.length < room) (hk : k ≤ 50000) :
    Calls Try.prog 9 #[.pointer (some ⟨B.p, 0, none⟩), .int .i64 (next : Nat), .int .i64 (c : Nat)] w fun e w' => e = .returned (.int .i64 0) ∧ FA w0 w' B a room (next + 1) count (k + 1) (L ++ [⟨next, c, (count : Nat)⟩]) (J ++ [⟨next, c, 1, 0⟩]) := by
  obtain ⟨v, last, G, b⟩ := h.s
  have nx := h.nx
  refine (s_add b (i := (next : Nat)) (cl := (c : Nat)) (by unfold LE.Wi; omega) (by omega) (by omega) (fnd_no fun x hx => by have := h.al x hx; omega) (by omega) (by omega)).mono ?_
  rintro e w' ⟨he, v', b', _⟩
  refine ⟨he, ⟨v', last, G, b'⟩, fun x hx => ?_, by omega, by omega⟩
  rcases List.mem_append.1 hx with hx | hx
  · have := h.al x hx; exact ⟨this.1, this.2.1, by omega⟩
  · rw [List.mem_singleton.1 hx]; exact ⟨rfl, by simp only; omega, by simp only; omega⟩
theorem Z0.add {cl rd : Nat} {J : List Jb} (h : Z0 cl rd J) {i c : Int} (hi : i ≠ 0) : Z0 cl rd (J ++ [⟨i, c, 1, 0⟩]) := fun x hx e => by
  rcases List.mem_append.1 hx with hx | hx
  · exact h x hx e
  · rw [List.mem_singleton.1 hx] at e; exact absurd e hi
theorem Z0.gon {cl rd : Nat} {J : List Jb} (h : Z0 cl rd J) (i : Int) : Z0 cl rd (gon J i) := fun x hx e => h x (mem_gon.1 hx).1 e
set_option maxHeartbeats 8000000 in
set_option maxRecDepth 100000 in
theorem fair_walk (n0 n1 mine : Nat) (ao : Option Addr) (cap : Nat) (l : List Nat) (w : World) (h0 : n0 < 65536) (h1 : n1 < 65536) (hm : mine < 256) (hl : Lies w ao (cb l)) (hb : ∀ x ∈ l, x < 256) :
    Calls Try.prog 5 #[.agg #[.int .u16 (n0 : Nat), .int .u16 (n1 : Nat)], .int .u8 (mine : Nat), .slice ao l.length cap] w fun e w' => e = .returned (.bool true) ∧ Grw w w' := by
  obtain ⟨a, hra⟩ : ∃ a : Nat, 1 + n0 % 8 = a := ⟨_, rfl⟩
  obtain ⟨room, hrr⟩ : ∃ r : Nat, 1 + n1 % 10 = r := ⟨_, rfl⟩
  obtain ⟨cl, hcl⟩ : ∃ k : Nat, mine % 8 = k := ⟨_, rfl⟩
  obtain ⟨nn, hN⟩ : ∃ a : Nat, l.length = a := ⟨_, rfl⟩
  have ra : 1 ≤ a ∧ a ≤ 8 := by omega
  have rr : 1 ≤ room ∧ room ≤ 10 := by omega
  have cl' : cl < 8 := by omega
  have q1 : IntKind.i64.wrap (n0 : Int) = n0 := by simp [IntKind.wrap_i64]; omega
  have q2 : IntKind.i64.wrap (n1 : Int) = n1 := by simp [IntKind.wrap_i64]; omega
  have q3 : IntKind.i64.wrap (mine : Int) = mine := by simp [IntKind.wrap_i64]; omega
  have q4 : IntKind.i64.wrap (1 + (n0 : Int) % 8) = (a : Int) := by simp [IntKind.wrap_i64]; omega
  have q5 : IntKind.i64.wrap (1 + (n1 : Int) % 10) = (room : Int) := by simp [IntKind.wrap_i64]; omega
  have q6 : (mine : Int) % 8 = (cl : Int) := by omega
  rw [hN]
  have LI := Lib.hid hl
  have HN := Lib.hid hN
  have HB := Lib.hid hb
  have RA := Lib.hid (And.intro ra (And.intro rr cl'))
  have m0 := gw_cell (w := w.alloc (.cells #[.int .u16 (n0 : Nat), .int .u16 (n1 : Nat)] 53)) (a := ⟨w.heap.size, 0, none⟩) (v := .int .u16 (n0 : Nat)) (by simp [go_sem])
  have m1 := gw_cell (w := w.alloc (.cells #[.int .u16 (n0 : Nat), .int .u16 (n1 : Nat)] 53)) (a := ⟨w.heap.size, 1, none⟩) (v := .int .u16 (n1 : Nat)) (by simp [go_sem])
  have G0 := Lib.hid ((Grw.rfl' w).alloc (.cells #[.int .u16 (n0 : Nat), .int .u16 (n1 : Nat)] 53))
  clear h0 h1 hl hb hN hra hrr hcl hm ra rr cl'
  go_enter Try.func5, Try.ntmps5
  go_wp2_with fail
  refine wp_region_grown (by kernel_rfl) (by kernel_rfl) ?_
  repeat (go_big_quiet_step (fail))
  refine wpQuiet_nil ?_
  rintro _ ⟨q, rfl⟩
  obtain ⟨w1, hw1⟩ : ∃ w1, q.x = w1 := ⟨_, rfl⟩
  have G1 := Lib.hid (G0.out.trans q.h)
  rw [hw1] at G1 ⊢
  clear m0 m1 hw1
  go_wp2_with fail
  refine (s_new a room 1 w w1 G1.out (by have := RA.out; omega) (by have := RA.out; omega) (by omega) (by have := RA.out; omega) (by decide) (by decide)).mono ?_
  rintro _ w2 ⟨B, rfl, b2, _⟩
  have AD := Lib.hid (s_add b2 (i := 0) (cl := (cl : Nat)) (wi_small 0 (by decide) (by decide)) (by omega) (by have := RA.out; omega) rfl (by have := RA.out; simp; omega) (by decide))
  clear b2
  go_wp2_with fail
  refine AD.out.mono ?_
  rintro _ w3 ⟨rfl, v3, b3, _⟩
  have F3 : Hid (FA w w3 B a room 1 0 1 [⟨0, cl, (0 : Nat)⟩] [⟨0, cl, 1, 0⟩]) := (⟨⟨_, _, _, b3⟩, fun x hx => by rw [List.mem_singleton.1 hx]; exact ⟨rfl, Int.le_refl _, by simp⟩, Nat.le_refl _, Nat.le_refl _⟩ : FA w w3 B a room 1 0 1 [⟨0, cl, (0 : Nat)⟩] [⟨0, cl, 1, 0⟩])
  clear b3
  obtain ⟨Bd, hB⟩ : ∃ Bd : Nat, a * 8 + room = Bd := ⟨_, rfl⟩
  have hB2 : Bd ≤ 74 := by have := RA.out; omega
  have BO := Lib.hid (fun w => QQ.bound_is (a : Int) (room : Int) (Bd : Int) w (by have := RA.out; rw [← hB]; simp only [QQ.bnd, QQ.lim]; omega))
  have HBd := Lib.hid hB
  clear hB
  go_wp2_with fail
  go_loopw [10, 11] (fun s10 s11 wr => ∃ (rd next count k : Nat) (L : List QQ.Wt) (J : List Jb), s10 = .int .i64 next ∧ s11 = .int .i64 rd ∧ rd ≤ 2 ∧ FA w wr B a room next count k L J ∧ k ≤ 1 + 2000 * rd ∧ NX cl rd count L J) (fun _ s11 _ => 2 - (intOf s11).toNat)
  case atStart => exact ⟨0, 1, 0, 1, _, _, rfl, rfl, by omega, F3.out, by omega, fun _ => ⟨by simp, fun x hx e => by rw [List.mem_singleton.1 hx]; exact ⟨rfl, rfl⟩⟩⟩
  case round =>
    obtain ⟨rd, next, count, k, L, J, rfl, rfl, hrd, hF, hk, hN⟩ := hrel
    have F := Lib.hid hF
    have NN := Lib.hid hN
    clear hF hN
    by_cases ci : rd < 2
    · have d1 : decide (rd < 2) = true := by simp [ci]
      have d1i : decide ((rd : Int) < 2) = true := by simp; omega
      have d1j : (rd : Int) < 2 := by omega
      go_wp2_with fail
      clear d1 d1i d1j
      go_loopw [10, 12, 13] (fun s10 s12 s13 wr => ∃ (fb : Bool) (i next count k : Nat) (L : List QQ.Wt) (J : List Jb), s10 = .int .i64 next ∧ s12 = .bool fb ∧ s13 = .int .i64 i ∧ i ≤ Bd ∧ FA w wr B a room next count k L J ∧ k ≤ 1 + 2000 * rd + 20 * i ∧ (fb = true → NX cl (rd + 1) count L J) ∧ (fb = false → Z0 cl rd J ∧ ∃ c0, count = c0 + i ∧ QQ.InvQ (a : Int) room (a * cl + 1) ⟨0, cl, (c0 : Nat)⟩ i L)) (fun _ _ s13 _ => Bd - (intOf s13).toNat)
      case atStart => exact ⟨false, 0, next, count, k, L, J, rfl, rfl, rfl, Nat.zero_le _, F.out, by omega, (fun e => by cases e), fun _ => ⟨(NN.out ci).2, count, rfl, QQ.InvQ.start (by have := F.out.len; omega) (NN.out ci).1⟩⟩
      case round =>
        clear F NN hk
        obtain ⟨fb, i, next, count, k, L, J, rfl, rfl, rfl, hi, hF, hk, ht, hf⟩ := hrel
        have F := Lib.hid hF
        have HT := Lib.hid ht
        have HF := Lib.hid hf
        clear hF ht hf
        cases fb with
        | true =>
          go_wp2_with fail
          have q7 : IntKind.i64.wrap ((rd : Int) + 1) = ((rd + 1 : Nat) : Int) := by simp [IntKind.wrap_i64]; omega
          go_wp2_with fail
          go_roundw
          case rel => exact ⟨rd + 1, next, count, k, L, J, rfl, by first | rfl | go_num, by omega, F.out, by omega, HT.out rfl⟩
          case measure => simp [intOf]; omega
        | false =>
          have IQ := Lib.hid (HF.out rfl)
          have hib : i < Bd := by
            obtain ⟨_, c0, _, iq⟩ := IQ.out
            rcases Nat.lt_or_ge i Bd with h | h
            · exact h
            · exact (iq.no (z := a) (by have : a * cl ≤ a * 7 := Nat.mul_le_mul_left a (by have := RA.out; omega)
                                        omega) (by have := RA.out; omega) (by have := HBd.out; omega)).elim
          have d2 : decide (i < Bd) = true := by simp [hib]
          clear HT HF
          go_wp2_with fail
          refine (BO.out _).mono ?_
          rintro _ _ ⟨rfl, rfl⟩
          go_wp2_with fail
          obtain ⟨hZ, c0, hc0, hI⟩ := IQ.out
          clear IQ d2
          have I0 := Lib.hid (And.intro hZ (And.intro hI hk))
          have KB : Hid (∃ K, K = 1 + 2000 * rd + 20 * i ∧ K ≤ 10000 ∧ c0 + i ≤ 20000) := (⟨_, rfl, by omega, by
            obtain ⟨v, last, G, b⟩ := F.out.s
            have := b.cc.2
            omega⟩ : ∃ K, K = 1 + 2000 * rd + 20 * i ∧ K ≤ 10000 ∧ c0 + i ≤ 20000)
          obtain ⟨K, hK, hK2, hK3⟩ := KB.out
          subst hc0
          clear hZ hI KB
          have HK := Lib.hid hK
          rw [← hK] at hk
          have I1 := Lib.hid hk
          clear hk hK
          go_loopw [10] (fun s10 wr => ∃ (next k : Nat) (L : List QQ.Wt) (J : List Jb), s10 = .int .i64 next ∧ FA w wr B a room next (c0 + i) k L J ∧ k ≤ K + J.length ∧ Z0 cl rd J ∧ QQ.InvQ (a : Int) room (a * cl + 1) ⟨0, cl, (c0 : Nat)⟩ i L) (fun s10 _ => 100000 - (intOf s10).toNat)
          case atStart => exact ⟨next, k, L, J, rfl, F.out, by have := I1.out; omega, I0.out.1, I0.out.2.1⟩
          case round =>
            clear F I0 I1
            obtain ⟨next, k, L, J, rfl, hF, hk, hZ, hI⟩ := hrel
            have F := Lib.hid hF
            have IV := Lib.hid (And.intro hk (And.intro hZ hI))
            clear hF hk hZ hI
            obtain ⟨m, hm⟩ : ∃ m, J.length = m := ⟨_, rfl⟩
            have HM := Lib.hid hm
            have OP := Lib.hid (fa_open F.out hm)
            have hnx : next ≤ 20000 := by have := F.out.nx.1; have := IV.out.1; have := F.out.len; have := RA.out; omega
            clear hm
            by_cases cm : m < room
            · have d3 : decide (m < room) = true := by simp [cm]
              go_wp2_with fail
              refine OP.out.mono ?_
              rintro _ _ ⟨rfl, rfl⟩
              obtain ⟨tb, htb⟩ : ∃ tb, decide (next < nn) = tb := ⟨_, rfl⟩
              have HTB := Lib.hid htb
              go_upto_if 67 with fail
              go_cut [14] from 68 to 74 (fun s14 wx => ∃ c : Nat, s14 = .int .i64 (c : Nat) ∧ c < 8 ∧ FA w wx B a room next (c0 + i) k L J)
              case first =>
                cases tb with
                | true =>
                  have hrn : next < nn := by have := HTB.out; simpa using this
                  have hrl : next < l.length := by rw [HN.out]; exact hrn
                  obtain ⟨bb, off, rfl, cj⟩ := lies_map LI.out hrl
                  have X := HB.out l[next] (List.getElem_mem hrl)
                  obtain ⟨hb, hhb⟩ : ∃ hb, l[next] = hb := ⟨_, rfl⟩
                  rw [hhb] at cj X
                  obtain ⟨hr, hhr⟩ : ∃ hr, hb % 8 = hr := ⟨_, rfl⟩
                  have q8 : IntKind.i64.wrap (hb : Int) = hb := by simp [IntKind.wrap_i64]; omega
                  have q9 : (hb : Int) % 8 = (hr : Int) := by omega
                  have hr8 : hr < 8 := by omega
                  have c1 := F.out.g.cell cj
                  have hrI : (next : Int) < (nn : Int) := by omega
                  clear cj hhb hrl htb hhr
                  go_wp2_with fail
                  go_meet
                  case rel => exact ⟨hr, by first | rfl | rw [q9], hr8, F.out⟩
                | false =>
                  go_wp2_with fail
                  go_meet
                  case rel => exact ⟨0, rfl, by omega, F.out⟩
              case rest =>
                obtain ⟨c, rfl, hc, hF⟩ := hcut
                have AD := Lib.hid (fa_add hF hc (by rw [HM.out]; exact cm) (by have := IV.out.1; have := hF.len; have := RA.out; omega))
                have LN := Lib.hid hF.len
                have q7 : IntKind.i64.wrap ((next : Int) + 1) = ((next + 1 : Nat) : Int) := by simp [IntKind.wrap_i64]; omega
                have N1 := Lib.hid hF.nx.2
                clear hF htb
                go_wp2_with fail
                refine AD.out.mono ?_
                rintro _ w5 ⟨rfl, f5⟩
                have F5 := Lib.hid f5
                clear f5
                go_wp2_with fail
                go_roundw
                case rel => exact ⟨next + 1, k + 1, _, _, by first | rfl | go_num, F5.out, by have := IV.out.1; simp; omega, IV.out.2.1.add (by have := N1.out; omega), IV.out.2.2.add (by have := LN.out; have := HM.out; simp; omega) (fun ht y hy => by
                  rw [List.mem_singleton.1 hy]
                  exact later0 (by have := RA.out; omega) (by have := RA.out; omega) rfl (by have := RA.out; omega) (by omega) (by simp only; omega) (by simp only; omega) (by simp) (by omega) ht)⟩
                case measure => simp [intOf]; omega
            · have d3 : decide (m < room) = false := by simp; omega
              go_wp2_with fail
              refine OP.out.mono ?_
              rintro _ _ ⟨rfl, rfl⟩
              obtain ⟨v, last, G, b⟩ := F.out.s
              obtain ⟨j, _, hj⟩ := QQ.frs_spec (a : Int) (List.length_pos_of_mem IV.out.2.2.mem)
              obtain ⟨y, hy, hys, _, _, C⟩ := s_fetch b hj (t := 9) (by decide) (by have := IV.out.1; have := F.out.len; have := RA.out; omega)
              obtain ⟨hyJ, hyi⟩ := fnd_some hy
              obtain ⟨yi, yc, ys, yu⟩ := y
              simp only at hys hyi C
              subst hys
              obtain ⟨mm, hmm⟩ : ∃ mm, last + 1 = mm := ⟨_, rfl⟩
              rw [hmm] at C
              have CF := Lib.hid C
              have YJ := Lib.hid (And.intro hyJ (And.intro hyi hj))
              have ID := Lib.hid b.bi.ids
              clear C hy hyJ hyi hj hmm b cm
              go_wp2_with fail
              clear d3
              refine CF.out.mono ?_
              rintro _ w4 ⟨rfl, v4, b4, _⟩
              have S4 := Lib.hid (b4.later ((Grw.rfl' w4).alloc (.cells #[.int .i64 (mm : Nat), .int .i64 yi, .int .i64 0, .int .i64 0, .int .i64 (yu + 1), .int .u64 ((9 : Nat) : Int)] 33)))
              have BN := Lib.hid (LE.byN_of (g := ⟨(mm : Nat), yi, 9⟩) S4.out.ok (by simp))
              have WM := Lib.hid (Ids.wn (g := ⟨(mm : Nat), yi, 9⟩) S4.out.ok (by simp))
              have FY := Lib.hid (fnd_upd (z := ⟨yi, yc, 2, yu + 1⟩) (J := J) ID.out ⟨_, YJ.out.1, rfl⟩)
              have CC := Lib.hid (show ((c0 + (i + 1) : Nat) : Int) = ((c0 + i : Nat) : Int) + 1 by omega)
              have q8 : IntKind.i64.wrap ((i : Int) + 1) = ((i + 1 : Nat) : Int) := by simp [IntKind.wrap_i64]; omega
              clear b4
              simp only [lv]
              by_cases cy : yi = 0
              · obtain ⟨hu, hc⟩ := IV.out.2.1 _ YJ.out.1 cy
                simp only at hu hc
                subst cy hu hc
                by_cases c1 : rd = 0
                · have d6 : ((rd : Int) == 1) = false := by simp; omega
                  have hr0 : Hid (rd = 0) := (c1 : rd = 0)
                  clear c1
                  have FA := Lib.hid (s_fail S4.out WM.out BN.out FY.out (by have := hr0.out; simp only; omega) (by have := IV.out.1; have := F.out.len; have := RA.out; omega))
                  simp only at FA
                  go_wp2_with fail
                  refine FA.out.mono ?_
                  rintro _ w5 ⟨rfl, b5, _⟩
                  have RE := Lib.hid (s_rested (y := ⟨0, cl, 3, (rd : Int) + 1⟩) b5 (fnd_upd (z := ⟨0, cl, 3, (rd : Int) + 1⟩) (S4.out.bi.ids) ⟨_, (fnd_some FY.out).1, rfl⟩) rfl (by have := IV.out.1; have := F.out.len; have := RA.out; omega))
                  clear b5
                  go_wp2_with fail
                  refine RE.out.mono ?_
                  rintro _ w6 ⟨rfl, v6, b6, _⟩
                  have S6 := Lib.hid b6
                  clear b6
                  go_wp2_with fail
                  go_roundw
                  case rel =>
                    refine ⟨true, i + 1, next, c0 + (i + 1), _, _, _, rfl, rfl, by first | rfl | go_num, hib, ⟨⟨_, _, _, by rw [CC.out]; exact S6.out⟩, fun x hx => ?_, by have := F.out.nx; omega⟩, by have := IV.out.1; have := F.out.len; have := RA.out; have := HK.out; omega, fun _ _ => ⟨by rw [CC.out]; simp, fun x hx e => ?_⟩, fun e => by cases e⟩
                    · rcases mem_upd.1 hx with ⟨hx, c⟩ | ⟨rfl, _⟩
                      · rcases mem_upd.1 hx with ⟨hx, c⟩ | ⟨rfl, _⟩
                        · rcases mem_upd.1 hx with ⟨hx, c⟩ | ⟨rfl, _⟩
                          · exact F.out.al x hx
                          · exact absurd rfl c
                        · exact absurd rfl c
                      · exact ⟨rfl, Int.le_refl _, by have := F.out.nx.2; simp only; omega⟩
                    · rcases mem_upd.1 hx with ⟨hx, c⟩ | ⟨rfl, _⟩
                      · exact absurd e c
                      · exact ⟨by simp only; omega, rfl⟩
                  case measure => simp [intOf]; omega
                · have d6 : ((rd : Int) == 1) = true := by simp; omega
                  have hr0 : Hid (rd = 1) := (by omega : rd = 1)
                  clear c1
                  have DE := Lib.hid (s_dead S4.out WM.out BN.out FY.out (by have := hr0.out; simp only; omega))
                  simp only at DE
                  go_wp2_with fail
                  refine DE.out.mono ?_
                  rintro _ w5 ⟨rfl, b5, _⟩
                  have S5 := Lib.hid b5
                  clear b5
                  go_wp2_with fail
                  go_roundw
                  case rel =>
                    refine ⟨true, i + 1, next, c0 + (i + 1), _, _, _, rfl, rfl, by first | rfl | go_num, hib, ⟨⟨_, _, _, by rw [CC.out]; exact S5.out⟩, fun x hx => ?_, by have := F.out.nx; omega⟩, by have := IV.out.1; have := F.out.len; have := RA.out; have := HK.out; omega, fun _ h => by have := hr0.out; omega, fun e => by cases e⟩
                    have hx := mem_gon.1 hx
                    rcases mem_upd.1 hx.1 with ⟨hx, c⟩ | ⟨rfl, _⟩
                    · exact F.out.al x hx
                    · exact absurd rfl hx.2
                  case measure => simp [intOf]; omega
              · have d5 : (yi == 0) = false := by simp [cy]
                have AN := Lib.hid (s_answer S4.out WM.out BN.out)
                simp only at AN
                go_wp2_with fail
                refine AN.out.mono ?_
                rintro _ w5 ⟨rfl, b5, _⟩
                have S5 := Lib.hid b5
                clear b5
                go_wp2_with fail
                go_roundw
                case rel =>
                  refine ⟨false, i + 1, next, c0 + (i + 1), _, _, _, rfl, rfl, by first | rfl | go_num, hib, ⟨⟨_, _, _, by rw [CC.out]; exact S5.out⟩, fun x hx => ?_, by have := F.out.nx; omega⟩, by have := IV.out.1; have := F.out.len; have := RA.out; have := HK.out; omega, (fun e => by cases e), fun _ => ⟨fun x hx e => ?_, c0, rfl, IV.out.2.2.tak YJ.out.2.2 (by rw [← YJ.out.2.1]; exact cy)⟩⟩
                  · have hx := mem_gon.1 hx
                    rcases mem_upd.1 hx.1 with ⟨hx, c⟩ | ⟨rfl, _⟩
                    · exact F.out.al x hx
                    · exact absurd rfl hx.2
                  · have hx := mem_gon.1 hx
                    rcases mem_upd.1 hx.1 with ⟨hx, c⟩ | ⟨rfl, _⟩
                    · exact IV.out.2.1 x hx e
                    · exact absurd e cy
                case measure => simp [intOf]; omega
    · have d1 : decide (rd < 2) = false := by simp; omega
      have d1i : decide ((rd : Int) < 2) = false := by simp; omega
      go_wp2_with fail
      refine (wakes_any _).mono ?_
      rintro _ w9 ⟨rfl, g9⟩
      have G9 := Lib.hid (F.out.g.trans g9)
      clear g9
      go_wp2_with fail
      go_ret
      exact ⟨rfl, G9.out⟩
end Go.Proofs.Ytlopijcpnfkcgaa
