/- Count and Waits of the program; does a book tell what the document's does? -/
import Derived.Test.YtlopijcpnfkcgaaGreatZf
import Derived.Test.YtlopijcpnfkcgaaGreatQSk
import Derived.Test.YtlopijcpnfkcgaaGreatQDh
import Derived.Deep.LoopGhost
import Derived.Deep.CutBlock
import Derived.Deep.RegionHeld3
namespace Go.Proofs.YtlopijcpnfkcgaaGreat
open Go.RowKit
set_option linter.unusedSimpArgs false
variable {w0 w x : World} {B : BB} {r : Nat} {a room n count : Int} {v : Value} {V V' : ZV} {last k : Nat} {L : List QQ.Wt} {G : List LE.Gr} {J : List Jb}
set_option maxHeartbeats 1000000 in
set_option maxRecDepth 100000 in
theorem s_count (h : BS w0 w B a room n count v last k L G J) : Calls Tryz.prog 46 #[.pointer (some ⟨B.p, 0, none⟩)] w fun e w' => e = .returned (.int .i64 count) ∧ w = w' := by
  obtain ⟨_, _, m⟩ := h.m
  have c0 := m.b.c0
  have C := Lib.hid (QQ.count_is m.b.qu)
  clear h m
  go_enter Tryz.func46, Tryz.ntmps46
  go_wp2_with fail
  refine C.out.mono ?_
  rintro _ _ ⟨rfl, rfl⟩
  go_wp2_with fail
  go_ret
  exact ⟨rfl, rfl⟩
set_option maxHeartbeats 1000000 in
set_option maxRecDepth 100000 in
theorem s_waits (h : BS w0 w B a room n count v last k L G J) : Calls Tryz.prog 48 #[.pointer (some ⟨B.p, 0, none⟩)] w fun e w' => ∃ u s, e = .returned u ∧ QQ.LQ a L w u s w' := by
  obtain ⟨_, _, m⟩ := h.m
  have c0 := m.b.c0
  have C := Lib.hid (QQ.list_is m.b.qu)
  clear h m
  go_enter Tryz.func48, Tryz.ntmps48
  go_wp2_with fail
  refine C.out.mono ?_
  rintro _ w1 ⟨u, s, rfl, q⟩
  have Q := Lib.hid q
  clear q
  go_wp2_with fail
  go_ret
  exact ⟨u, s, rfl, Q.out⟩
/-- a number's lease, as both tell it. -/
theorem both_lease (h : BS w0 w B a room n count v last k L G J) (z : ZB w r a room n count V last L G J) {i : Int} (hi : LE.Wi i) : ∃ (c d t : Int) (u : Nat) (e : Int) (b : Bool), (e == 0) = b ∧
    (∀ x, Grw w x → Calls Tryz.prog 33 #[.pointer (some ⟨B.p, 0, none⟩), .int .i64 i] x fun o w' => o = .returned (.tuple #[lv c d t u, .bool b]) ∧ Grw x w') ∧
    (∀ x, Grw w x → Calls Tryz.prog 37 #[.pointer (some ⟨r, 0, none⟩), .int .i64 i] x fun o w' => o = .returned (.tuple #[lv c d t u, .int .i64 e]) ∧ Grw x w') := by
  rcases hb : LE.byN G i with _ | g
  · exact ⟨0, 0, 0, 0, 13, false, rfl, fun x gx => s_nolease (h.later gx) hi hb, fun x gx => zlease_no (z.later gx) hb⟩
  · obtain ⟨hg, hn⟩ := LE.byN_some hb
    obtain ⟨y, hf, hy, hid, hs, _⟩ := h.of_l hg
    obtain ⟨j, hj, e⟩ := List.mem_iff_getElem.1 hy
    refine ⟨i, g.j, y.u, g.u, 0, true, rfl, fun x gx => ?_, fun x gx => ?_⟩
    · obtain ⟨y', hf', _, C⟩ := s_lease (h.later gx) hi hb
      obtain rfl : y' = y := by rw [hf] at hf'; injection hf' with e; exact e.symm
      rw [hn] at C
      exact C
    · have := zlease_is (z.later gx) h.bi.ids hb hj (by rw [e]; exact hid)
      rw [e] at this
      exact this
set_option maxHeartbeats 16000000 in
set_option maxRecDepth 100000 in
theorem same_is (h : BS w0 w B a room n count v last k L G J) (z : ZB w r a room n count V last L G J) (hk : k ≤ 100000) (hLb : L.length ≤ 1000000) (hJb : J.length ≤ 1000000) :
    Calls Tryz.prog 21 #[.pointer (some ⟨B.p, 0, none⟩), .pointer (some ⟨r, 0, none⟩)] w fun e w' => e = .returned (.bool true) ∧ Grw w w' := by
  obtain ⟨m, hm⟩ : ∃ m, J.length = m := ⟨_, rfl⟩
  have HM := Lib.hid hm
  obtain ⟨aoj, capj, hvj, lj⟩ := ownsRow_lies (RB.rj z)
  have c7 := RB.c7 z
  have c2 := RB.c2 z
  have c5 := RB.c5 z
  rw [hvj, hm] at c7
  have H := Lib.hid h
  have Z := Lib.hid z
  have HV := Lib.hid hvj
  have LJ := Lib.hid lj
  have OP := Lib.hid (fun u (g : Grw w u) => s_open (h.later g) hm)
  have CO := Lib.hid (fun u (g : Grw w u) => s_count (h.later g))
  have WT := Lib.hid (fun u (g : Grw w u) => s_waits (h.later g))
  have RL := Lib.hid (fun u (g : Grw w u) => QQ.rlist_is (RB.toQ (z.later g)) h.ids)
  have IDS := Lib.hid h.ids
  have BD := Lib.hid (And.intro hk (And.intro hLb (And.intro hJb h.ll)))
  have SS : Hid (∀ u, Grw w u → (u.cell? ⟨r, 7, none⟩ = some (.slice aoj m capj) ∧ u.cell? ⟨r, 2, none⟩ = some (.int .i64 count))) := (fun u g => ⟨g.cell c7, g.cell c2⟩ : ∀ u, Grw w u → (u.cell? ⟨r, 7, none⟩ = some (.slice aoj m capj) ∧ u.cell? ⟨r, 2, none⟩ = some (.int .i64 count)))
  have S3 : Hid (∀ u, Grw w u → (u.cell? ⟨r, 7, none⟩ = some (.slice aoj m capj) ∧ u.cell? ⟨r, 5, none⟩ = some (.int .i64 (last : Nat)))) := (fun u g => ⟨g.cell c7, g.cell c5⟩ : ∀ u, Grw w u → (u.cell? ⟨r, 7, none⟩ = some (.slice aoj m capj) ∧ u.cell? ⟨r, 5, none⟩ = some (.int .i64 (last : Nat))))
  have WS : Hid (∀ (y u : World) (u1 u2 : Value) (s1 s2 : List QQ.Wt) (x1 x2 y1 y2 : World), QQ.LQ a L x1 u1 s1 y1 → QQ.LD a L x2 u2 s2 y2 → Grw y1 y → Grw y2 y → Calls Tryz.prog 47 #[u1, u2] y fun e w' => e = .returned (.bool true) ∧ Grw y w') := (fun y u u1 u2 s1 s2 x1 x2 y1 y2 q1 q2 g1 g2 => by
    obtain ⟨ao2, cap2, rfl, l2⟩ := q2.row
    obtain ⟨ao1, cap1, rfl, l1⟩ := ownsRow_lies q1.row
    have es : s1 = s2 := QQ.one_order (q1.perm.trans q2.perm.symm) (((q1.perm.map QQ.Wt.id).nodup_iff).2 IDS.out) q1.srt.pw q2.pw
    subst es
    exact QQ.waits_same ao1 ao2 cap1 cap2 s1 y (by have h1 := q2.perm.length_eq; have h2 := BD.out.2.1; omega) (l1.later g1) (l2.later g2) : ∀ (y u : World) (u1 u2 : Value) (s1 s2 : List QQ.Wt) (x1 x2 y1 y2 : World), QQ.LQ a L x1 u1 s1 y1 → QQ.LD a L x2 u2 s2 y2 → Grw y1 y → Grw y2 y → Calls Tryz.prog 47 #[u1, u2] y fun e w' => e = .returned (.bool true) ∧ Grw y w')
  have GD : Grw w w.drew := (Grw.rfl' w).drew
  clear h z hm lj hvj hk hLb hJb c5
  go_enter Tryz.func21, Tryz.ntmps21
  go_upto_region 1 with fail
  go_region_held3 (fun u => u.cell? ⟨r, 7, none⟩ = some (.slice aoj m capj) ∧ u.cell? ⟨r, 2, none⟩ = some (.int .i64 count))
    ((refine SS.out _ ?_; (first | exact g12 | exact g13 | exact gx1 | exact gx2 | exact GD)))
    (first
      | (go_at_call 27; refine (OP.out _ GD).mono ?_; rintro _ _ ⟨rfl, rfl⟩)
      | (go_at_call 46; refine (CO.out _ GD).mono ?_; rintro _ _ ⟨rfl, rfl⟩)
      | (go_at_call 48; first
          | (refine (WT.out _ gx2).mono ?_; rintro _ y1 ⟨u1, s1, rfl, q1⟩; have g12 : Grw w y1 := gx2.trans q1.gw; have W47 := Lib.hid (WS.out y1 y1 u1 u2 s1 s2 _ _ y1 _ q1 q2.out (Grw.rfl' _) q1.gw); clear q1 q2)
          | (refine (WT.out _ GD).mono ?_; rintro _ y1 ⟨u1, s1, rfl, q1⟩; have gx1 : Grw w y1 := GD.trans q1.gw; have q1 := Lib.hid q1))
      | (go_at_call 49; first
          | (refine (RL.out _ gx1).mono ?_; rintro _ y2 ⟨u2, s2, rfl, q2⟩; have g12 : Grw w y2 := gx1.trans q2.gw; have W47 := Lib.hid (WS.out y2 y2 u1 u2 s1 s2 _ _ _ y2 q1.out q2 q2.gw (Grw.rfl' _)); clear q1 q2)
          | (refine (RL.out _ GD).mono ?_; rintro _ y2 ⟨u2, s2, rfl, q2⟩; have gx2 : Grw w y2 := GD.trans q2.gw; have q2 := Lib.hid q2))
      | (go_at_call 47; refine W47.out.mono ?_; rintro _ y3 ⟨rfl, q3⟩; have g13 : Grw w y3 := g12.trans q3; clear q3 g12))
  have G13 := Lib.hid g13
  clear g13 c7 c2 GD
  go_wp2_with fail
  go_loopw [5] (fun u5 wr => ∃ i : Nat, i ≤ m ∧ u5 = .int .i64 (i : Nat) ∧ Grw w wr) (fun u5 _ => m - (intOf u5).toNat)
  case atStart => exact ⟨0, Nat.zero_le _, rfl, G13.out⟩
  case round =>
    obtain ⟨i, him, rfl, gr⟩ := hrel
    have GR := Lib.hid gr
    have c7 := (S3.out _ gr).1
    by_cases ci : i < m
    · have d1 : decide ((i : Int) < (m : Int)) = true := by simp; omega
      have hj : i < J.length := by rw [HM.out]; exact ci
      obtain ⟨gb, cap, hv, -, b0, -, b2, b3, -, -⟩ := own_at (RB.rj Z.out) hj
      have e1 := HV.out.symm.trans hv
      injection e1 with e1 e2 e3
      subst e1 e3
      obtain ⟨y, hy⟩ : ∃ y, J[i] = y := ⟨_, rfl⟩
      have hyJ : y ∈ J := hy ▸ List.getElem_mem hj
      have hf : fnd J y.id = some y := fnd_of H.out.bi.ids hyJ
      have ST := Lib.hid (fun u (g : Grw w u) => s_state (H.out.later g) (H.out.wi hyJ) (y := y) (by rw [hf]; rfl) (b := true) (by rw [hf]; rfl))
      rw [hy] at b0 b2 b3
      obtain ⟨yi, yc, ys, yu⟩ := y
      simp only at b0 b2 b3 ST
      have q6 : IntKind.i64.wrap ((i : Int) + 1) = ((i + 1 : Nat) : Int) := by simp [IntKind.wrap_i64]; have := BD.out.2.2.1; omega
      have hki : (i : Int) < (m : Int) := by omega
      have z0 := gr.cell b0
      have BB3 := Lib.hid (And.intro b2 b3)
      clear hf hyJ hy hv gr e2 b0 b2 b3 hj
      go_wp2_with fail
      refine (ST.out _ GR.out).mono ?_
      rintro _ w1 ⟨rfl, g1⟩
      obtain ⟨w2, hw2⟩ : ∃ w2, w1.alloc (.cells #[.int .i64 ys, .int .i64 yu] 48) = w2 := ⟨_, rfl⟩
      have g2 : Grw w1 w2 := by rw [← hw2]; exact (Grw.rfl' w1).alloc _
      have G2 := Lib.hid (GR.out.trans (g1.trans g2))
      have x0 : w2.cell? ⟨w1.heap.size, 0, none⟩ = some (.int .i64 ys) := by rw [← hw2]; simp [go_sem]
      have x1 : w2.cell? ⟨w1.heap.size, 1, none⟩ = some (.int .i64 yu) := by rw [← hw2]; simp [go_sem]
      clear c7
      have c7 := (S3.out _ G2.out).1
      have k2 := G2.out.cell BB3.out.1
      have k3 := G2.out.cell BB3.out.2
      have k3' : w2.cell? ⟨gb, i * 4 + 2 + 1, none⟩ = some (.int .i64 yu) := k3
      clear g1 g2 z0
      go_wp2_with fail
      clear hw2
      go_region
      go_wp2_with fail
      go_roundw
      case rel => exact ⟨i + 1, by omega, by first | rfl | go_num, G2.out.drew⟩
      case measure => simp only [intOf]; omega
    · have d1 : decide ((i : Int) < (m : Int)) = false := by simp; omega
      have hl : last ≤ 100000 := by have h1 := BD.out.2.2.2; have h2 := BD.out.1; omega
      obtain ⟨m2, hm2⟩ : ∃ m2, last + 1 = m2 := ⟨_, rfl⟩
      have q1 : IntKind.i64.wrap ((last : Int) + 1) = (m2 : Int) := by simp [IntKind.wrap_i64]; omega
      have HM2 := Lib.hid (show m2 ≤ 100001 by omega)
      clear hm2 hl gr
      go_wp2_with fail
      clear c7
      go_loopw [8] (fun u8 wr => ∃ i : Nat, i ≤ m2 + 1 ∧ u8 = .int .i64 (i : Nat) ∧ Grw w wr) (fun u8 _ => m2 + 1 - (intOf u8).toNat)
      case atStart => exact ⟨0, Nat.zero_le _, rfl, GR.out⟩
      case round =>
        obtain ⟨j, hjm, rfl, gs⟩ := hrel
        have GS := Lib.hid gs
        have c5 := (S3.out _ gs).2
        by_cases cj : j ≤ m2
        · have d2 : decide ((j : Int) ≤ (m2 : Int)) = true := by simp; omega
          obtain ⟨c, d, t, u, e, b, he, hA, hB⟩ := both_lease H.out Z.out (i := (j : Int)) ⟨by omega, by have := HM2.out; omega⟩
          have A33 := Lib.hid hA
          have A37 := Lib.hid hB
          have q7 : IntKind.i64.wrap ((j : Int) + 1) = ((j + 1 : Nat) : Int) := by simp [IntKind.wrap_i64]; have := HM2.out; omega
          unfold lv at A33 A37
          clear hA hB gs
          go_wp2_with fail
          refine (A33.out _ GS.out).mono ?_
          rintro _ w1 ⟨rfl, g1⟩
          obtain ⟨w2, hw2⟩ : ∃ w2, w1.alloc (.cells #[.int .i64 c, .int .i64 d, .int .i64 0, .int .i64 0, .int .i64 t, .int .u64 (u : Nat)] 38) = w2 := ⟨_, rfl⟩
          have g2 : Grw w1 w2 := by rw [← hw2]; exact (Grw.rfl' w1).alloc _
          have S2 : Hid (Six w2 w1.heap.size (.int .i64 c) (.int .i64 d) (.int .i64 0) (.int .i64 0) (.int .i64 t) (.int .u64 (u : Nat))) := (by rw [← hw2]; exact Six.new _ _ _ _ _ _ _ _ : Six w2 w1.heap.size (.int .i64 c) (.int .i64 d) (.int .i64 0) (.int .i64 0) (.int .i64 t) (.int .u64 (u : Nat)))
          have G2 := Lib.hid (GS.out.trans (g1.trans g2))
          have hs : Hid (w1.heap.size < w2.heap.size) := (by rw [← hw2, size_new]; omega : w1.heap.size < w2.heap.size)
          clear g1 g2 c5
          go_wp2_with fail
          refine (A37.out _ G2.out).mono ?_
          rintro _ w3 ⟨rfl, g3⟩
          obtain ⟨w4, hw4⟩ : ∃ w4, w3.alloc (.cells #[.int .i64 c, .int .i64 d, .int .i64 0, .int .i64 0, .int .i64 t, .int .u64 (u : Nat)] 38) = w4 := ⟨_, rfl⟩
          have g4 : Grw w3 w4 := by rw [← hw4]; exact (Grw.rfl' w3).alloc _
          obtain ⟨x0, x1, x2, x3, x4, x5, _, _, _, _, _, _⟩ := S2.out.later (g3.trans g4) hs.out
          obtain ⟨y0, y1, y2, y3, y4, y5, _, _, _, _, _, _⟩ := (show Six w4 w3.heap.size (.int .i64 c) (.int .i64 d) (.int .i64 0) (.int .i64 0) (.int .i64 t) (.int .u64 (u : Nat)) from by rw [← hw4]; exact Six.new _ _ _ _ _ _ _ _)
          have G4 := Lib.hid (G2.out.trans (g3.trans g4))
          clear g3 g4 hw2
          go_wp2_with fail
          go_roundw
          case rel => exact ⟨j + 1, by omega, by first | rfl | go_num, G4.out⟩
          case measure => simp only [intOf]; omega
        · have d2 : decide ((j : Int) ≤ (m2 : Int)) = false := by simp; omega
          go_wp2_with fail
          go_ret
          exact ⟨rfl, GS.out⟩
end Go.Proofs.YtlopijcpnfkcgaaGreat
