/- The law JobsPlays: both books side by side. -/
import Derived.Test.YtlopijcpnfkcgaaGreatZh
import Derived.Test.YtlopijcpnfkcgaaGreatOc
namespace Go.Proofs.YtlopijcpnfkcgaaGreat
open Go.RowKit
set_option linter.unusedSimpArgs false
theorem PZ.start {w w1 w3 : World} {B : BB} {r : Nat} {a room n : Int} (b1 : BS w w1 B a room n 0 (.slice none 0 0) 0 0 [] [] []) (g3 : Grw w1 w3) (z3 : RB w3 r a room n 0 (.slice none 0 0) (.slice none 0 0) (.slice none 0 0) 0 [] [] []) (hr : w1.heap.size = r) :
    PZ w w3 B r a room n (.slice none 0 0) ⟨.slice none 0 0, .slice none 0 0, .slice none 0 0⟩ 0 ⟨0, 0, [], [], []⟩ := by
  have hj : ∀ j, zb r ⟨.slice none 0 0, .slice none 0 0, .slice none 0 0⟩ j → j = r := by
    rintro j (c | c | c | c)
    · exact c
    · cases c
    · cases c
    · cases c
  refine ⟨BS.later b1 g3, z3, fun j e1 e2 => ?_, fun j e1 => ?_⟩
  · have h1 := hj j e1
    have h2 := BS.lt b1 j e2
    omega
  · rw [hj j e1, ← hr]
    exact Below.size (BS.g b1)
set_option maxHeartbeats 4000000 in
set_option maxRecDepth 100000 in
theorem plays_bad (a room n : Int) (ao : Option Addr) (cap m : Nat) (w : World) (h : ¬ (1 ≤ a ∧ a ≤ 1000 ∧ 0 ≤ room ∧ room ≤ 1000 ∧ 0 ≤ n ∧ n ≤ 9)) :
    Calls Tryz.prog 3 #[.agg #[.int .i64 a, .int .i64 room, .int .i64 n], .slice ao m cap] w fun e w' => e = .returned (.bool true) ∧ Grw w w' := by
  have WK := Lib.hid (fun w => wakes_any w)
  have MY := Lib.hid (fun w => zmay_is a room n w false (by simp only [h, decide_false]))
  have NW := Lib.hid (fun w => new_none a room n w h)
  obtain ⟨wb, hwb⟩ : ∃ wb, w.alloc (.cells #[.int .i64 a, .int .i64 room, .int .i64 n] 23) = wb := ⟨_, rfl⟩
  have gb : Grw w wb := by rw [← hwb]; exact (Grw.rfl' w).alloc _
  have x0 : wb.cell? ⟨w.heap.size, 0, none⟩ = some (.int .i64 a) := by rw [← hwb]; simp [go_sem]
  have x1 : wb.cell? ⟨w.heap.size, 1, none⟩ = some (.int .i64 room) := by rw [← hwb]; simp [go_sem]
  have x2 : wb.cell? ⟨w.heap.size, 2, none⟩ = some (.int .i64 n) := by rw [← hwb]; simp [go_sem]
  have GB := Lib.hid gb
  clear h gb
  go_enter Tryz.func3, Tryz.ntmps3
  go_wp2_with fail
  refine (NW.out _).mono ?_
  rintro _ w1 ⟨rfl, g1⟩
  have y0 := g1.cell x0
  have y1 := g1.cell x1
  have y2 := g1.cell x2
  have G1 := Lib.hid (GB.out.trans g1)
  clear g1 x0 x1 x2 hwb
  go_wp2_with fail
  refine (MY.out _).mono ?_
  rintro _ _ ⟨rfl, rfl⟩
  go_wp2_with fail
  refine (WK.out _).mono ?_
  rintro _ w2 ⟨rfl, hw⟩
  have G := Lib.hid (G1.out.trans hw)
  clear hw
  go_wp2_with fail
  go_ret
  exact ⟨rfl, G.out⟩
set_option maxHeartbeats 16000000 in
set_option maxRecDepth 100000 in
theorem plays_good (a room n : Int) (ao : Option Addr) (cap : Nat) (acts : List Ac) (w : World) (hl : ALies w ao acts) (hw : ∀ x ∈ acts, LE.Wi x.i ∧ x.t < 18446744073709551616) (hm : acts.length ≤ 9223372036854775807) (h : 1 ≤ a ∧ a ≤ 1000 ∧ 0 ≤ room ∧ room ≤ 1000 ∧ 0 ≤ n ∧ n ≤ 9) :
    Calls Tryz.prog 3 #[.agg #[.int .i64 a, .int .i64 room, .int .i64 n], .slice ao acts.length cap] w fun e w' => e = .returned (.bool true) ∧ Grw w w' := by
  have LI := Lib.hid hl
  have WI := Lib.hid hw
  have MY := Lib.hid (fun w => zmay_is a room n w true (by simp only [h, and_self, decide_true]))
  have NW := Lib.hid (fun u (g : Grw w u) => s_new a room n w u g h.1 h.2.1 h.2.2.1 h.2.2.2.1 h.2.2.2.2.1 h.2.2.2.2.2)
  have NZ := Lib.hid (fun u => znew_is a room n u)
  obtain ⟨nn, hn⟩ : ∃ nn, acts.length = nn := ⟨_, rfl⟩
  rw [hn] at hm ⊢
  have HN := Lib.hid hn
  obtain ⟨wb, hwb⟩ : ∃ wb, w.alloc (.cells #[.int .i64 a, .int .i64 room, .int .i64 n] 23) = wb := ⟨_, rfl⟩
  have gb : Grw w wb := by rw [← hwb]; exact (Grw.rfl' w).alloc _
  have x0 : wb.cell? ⟨w.heap.size, 0, none⟩ = some (.int .i64 a) := by rw [← hwb]; simp [go_sem]
  have x1 : wb.cell? ⟨w.heap.size, 1, none⟩ = some (.int .i64 room) := by rw [← hwb]; simp [go_sem]
  have x2 : wb.cell? ⟨w.heap.size, 2, none⟩ = some (.int .i64 n) := by rw [← hwb]; simp [go_sem]
  have GB := Lib.hid gb
  clear h gb hl hw hn
  go_enter Tryz.func3, Tryz.ntmps3
  go_wp2_with fail
  refine (NW.out _ GB.out).mono ?_
  rintro _ w1 ⟨B, rfl, b1, g1, _⟩
  have B1 := Lib.hid b1
  have y0 := g1.cell x0
  have y1 := g1.cell x1
  have y2 := g1.cell x2
  clear b1 g1 x0 x1 x2 hwb
  go_wp2_with fail
  refine (MY.out _).mono ?_
  rintro _ _ ⟨rfl, rfl⟩
  go_wp2_with fail
  refine (NZ.out _).mono ?_
  rintro _ w3 ⟨rfl, z3, g3⟩
  obtain ⟨r, hr⟩ : ∃ r, w1.heap.size = r := ⟨_, rfl⟩
  rw [hr] at z3 ⊢
  have P3 := Lib.hid (PZ.start (n := n) B1.out g3 z3 hr)
  clear y0 y1 y2 z3 g3 hr
  go_wp2_with fail
  go_loopw [7] (fun u7 wr => ∃ (i k : Nat) (v : Value) (V : ZV) (S : Sta), i ≤ nn ∧ i ≤ 60 ∧ k ≤ i ∧ u7 = .int .i64 (i : Nat) ∧ PZ w wr B r a room n v V k S) (fun u7 _ => nn - (intOf u7).toNat)
  case atStart => exact ⟨0, 0, _, _, _, Nat.zero_le _, Nat.zero_le _, Nat.le_refl _, rfl, P3.out⟩
  case round =>
    clear P3 B1 NW NZ MY
    obtain ⟨i, k, v, V, S, hin, hi60, hki, rfl, hT⟩ := hrel
    have T := Lib.hid hT
    clear hT
    by_cases ci : i < nn
    · have d1 : decide ((i : Int) < (nn : Int)) = true := by simp; omega
      by_cases c60 : i < 60
      · have d2 : decide ((i : Int) < 60) = true := by simp; omega
        have hkl : i < acts.length := by rw [HN.out]; exact ci
        have hkn : (i : Int) < (nn : Int) := by omega
        obtain ⟨b, o, rfl, hbo, e0, e1, e2, e3⟩ := (LI.out.later (BS.g T.out.p)).at hkl
        have WA := Lib.hid (WI.out acts[i] (List.getElem_mem hkl))
        obtain ⟨x, hx⟩ : ∃ x, acts[i] = x := ⟨_, rfl⟩
        rw [hx] at e0 e1 e2 e3 WA
        obtain ⟨xd, xi, xc, xt⟩ := x
        simp only at e0 e1 e2 e3 WA
        have q6 : IntKind.i64.wrap ((i : Int) + 1) = ((i + 1 : Nat) : Int) := by simp [IntKind.wrap_i64]; omega
        obtain ⟨X, hX⟩ : ∃ X, wr.heap.size = X := ⟨_, rfl⟩
        obtain ⟨w2, hw2⟩ : ∃ w2, wr.alloc (.cells #[.int .i64 xd, .int .i64 xi, .int .i64 xc, .int .u64 (xt : Nat)] 33) = w2 := ⟨_, rfl⟩
        have g2 : Grw wr w2 := by rw [← hw2]; exact (Grw.rfl' wr).alloc _
        have ST2 := Lib.hid (T.out.later g2)
        have NX : Hid (¬ bf B v X ∧ ¬ zb r V X) := (⟨fun e => by have := BS.lt T.out.p X e; omega, fun e => by have := RB.lt8 T.out.z X e; omega⟩ : ¬ bf B v X ∧ ¬ zb r V X)
        have x0 : w2.cell? ⟨X, 0, none⟩ = some (.int .i64 xd) := by rw [← hX, ← hw2]; simp [go_sem]
        have x1 : w2.cell? ⟨X, 1, none⟩ = some (.int .i64 xi) := by rw [← hX, ← hw2]; simp [go_sem]
        have x2 : w2.cell? ⟨X, 2, none⟩ = some (.int .i64 xc) := by rw [← hX, ← hw2]; simp [go_sem]
        have x3 : w2.cell? ⟨X, 3, none⟩ = some (.int .u64 (xt : Nat)) := by rw [← hX, ← hw2]; simp [go_sem]
        have XX := Lib.hid (And.intro x1 (And.intro x2 x3))
        obtain ⟨q, hq⟩ : ∃ q : Int, xd % 9 = q := ⟨_, rfl⟩
        have q0 := Int.emod_nonneg xd (show (9 : Int) ≠ 0 by decide)
        have q1 := Int.emod_lt_of_pos xd (show (0 : Int) < 9 by decide)
        rw [hq] at q0 q1
        have MO : Hid (∀ w, Calls Tryz.prog 8 #[.int .i64 xd, .int .i64 9] w fun e w' => e = .returned (.int .i64 q) ∧ w = w') := (fun w => by have := mod_any xd 9 w (by decide) (by decide); rw [show ((9 : Nat) : Int) = 9 from rfl, hq] at this; exact this : ∀ w, Calls Tryz.prog 8 #[.int .i64 xd, .int .i64 9] w fun e w' => e = .returned (.int .i64 q) ∧ w = w')
        have HL := Lib.hid (And.intro hki (And.intro hi60 hin))
        clear hx hq hkl T hki hi60 hin g2 x1 x2 x3 hbo
        go_upto_block 2 with (with_reducible refine (MO.out _).mono ?_; rintro _ _ ⟨rfl, rfl⟩)
        clear hw2 hX
        go_cut [] from 52 to 189 (fun wx => ∃ v' V' S', PZ w wx B r a room n v' V' (k + 1) S')
        case first =>
          have x1 := XX.out.1
          have x2 := XX.out.2.1
          have x3 := XX.out.2.2
          rcases (show q = 0 ∨ q = 1 ∨ q = 2 ∨ q = 3 ∨ q = 4 ∨ q = 5 ∨ q = 6 ∨ q = 7 ∨ q = 8 by omega) with rfl | rfl | rfl | rfl | rfl | rfl | rfl | rfl | rfl
          · as_aux_lemma =>
            obtain ⟨c, S', hP, hZ⟩ := add_both ST2.out.p (by have := HL.out; omega) WA.out.1 (cl := xc) r
            have A1 := Lib.hid hP
            have A2 := Lib.hid hZ
            clear hP hZ
            have SS : Hid (∀ u, Grw w2 u → (u.cell? ⟨X, 1, none⟩ = some (.int .i64 xi) ∧ u.cell? ⟨X, 2, none⟩ = some (.int .i64 xc))) := (fun u g => ⟨g.cell x1, g.cell x2⟩ : ∀ u, Grw w2 u → (u.cell? ⟨X, 1, none⟩ = some (.int .i64 xi) ∧ u.cell? ⟨X, 2, none⟩ = some (.int .i64 xc)))
            have GD : Grw w2 w2.drew := (Grw.rfl' w2).drew
            have SD := Lib.hid (ST2.out.later GD)
            have U1 := Lib.hid (SS.out _ GD)
            go_wp2_with fail
            go_region_held3 (fun u => u.cell? ⟨X, 1, none⟩ = some (.int .i64 xi) ∧ u.cell? ⟨X, 2, none⟩ = some (.int .i64 xc))
              ((first | with_reducible assumption | exact ⟨cX1, cX2⟩ | (refine SS.out _ ?_; exact GD)))
              (first
                | (go_at_call 9; first
                    | (refine (A1.out _ _ tq).mono ?_; rintro _ y ⟨rfl, v2, q2, f2⟩; have sf := SD.out.both' rz fz q2 f2; have cX1 := f2.f.cell cY1 NX.out.1; have cX2 := f2.f.cell cY2 NX.out.1; have SG := Lib.hid sf; clear sf tq rz fz q2 f2)
                    | (refine (A1.out _ _ SD.out.p).mono ?_; rintro _ y ⟨rfl, v2, q2, f2⟩; have ry := SD.out.half f2; have cY1 := f2.f.cell U1.out.1 NX.out.1; have cY2 := f2.f.cell U1.out.2 NX.out.1; have cX1 := cY1; have cX2 := cY2))
                | (go_at_call 10; first
                    | (refine (A2.out _ _ ry).mono ?_; rintro _ z ⟨rfl, V3, rz, fz⟩; have sf := SD.out.both q2 f2 rz fz; have cX1 := fz.f.cell cY1 NX.out.2; have cX2 := fz.f.cell cY2 NX.out.2; have SG := Lib.hid sf; clear sf ry rz fz q2 f2)
                    | (refine (A2.out _ _ SD.out.z).mono ?_; rintro _ z ⟨rfl, V3, rz, fz⟩; have tq := SD.out.half' fz; have cY1 := fz.f.cell U1.out.1 NX.out.2; have cY2 := fz.f.cell U1.out.2 NX.out.2; have cX1 := cY1; have cX2 := cY2)))
            all_goals
              clear x1 x2
              go_wp2_with fail
              go_meet
              case rel => exact ⟨_, _, _, SG.out⟩
          · as_aux_lemma =>
            obtain ⟨c, S', hP, hZ⟩ := add_both ST2.out.p (by have := HL.out; omega) WA.out.1 (cl := xc) r
            have A1 := Lib.hid hP
            have A2 := Lib.hid hZ
            clear hP hZ
            have SS : Hid (∀ u, Grw w2 u → (u.cell? ⟨X, 1, none⟩ = some (.int .i64 xi) ∧ u.cell? ⟨X, 2, none⟩ = some (.int .i64 xc))) := (fun u g => ⟨g.cell x1, g.cell x2⟩ : ∀ u, Grw w2 u → (u.cell? ⟨X, 1, none⟩ = some (.int .i64 xi) ∧ u.cell? ⟨X, 2, none⟩ = some (.int .i64 xc)))
            have GD : Grw w2 w2.drew := (Grw.rfl' w2).drew
            have SD := Lib.hid (ST2.out.later GD)
            have U1 := Lib.hid (SS.out _ GD)
            go_wp2_with fail
            go_region_held3 (fun u => u.cell? ⟨X, 1, none⟩ = some (.int .i64 xi) ∧ u.cell? ⟨X, 2, none⟩ = some (.int .i64 xc))
              ((first | with_reducible assumption | exact ⟨cX1, cX2⟩ | (refine SS.out _ ?_; exact GD)))
              (first
                | (go_at_call 9; first
                    | (refine (A1.out _ _ tq).mono ?_; rintro _ y ⟨rfl, v2, q2, f2⟩; have sf := SD.out.both' rz fz q2 f2; have cX1 := f2.f.cell cY1 NX.out.1; have cX2 := f2.f.cell cY2 NX.out.1; have SG := Lib.hid sf; clear sf tq rz fz q2 f2)
                    | (refine (A1.out _ _ SD.out.p).mono ?_; rintro _ y ⟨rfl, v2, q2, f2⟩; have ry := SD.out.half f2; have cY1 := f2.f.cell U1.out.1 NX.out.1; have cY2 := f2.f.cell U1.out.2 NX.out.1; have cX1 := cY1; have cX2 := cY2))
                | (go_at_call 10; first
                    | (refine (A2.out _ _ ry).mono ?_; rintro _ z ⟨rfl, V3, rz, fz⟩; have sf := SD.out.both q2 f2 rz fz; have cX1 := fz.f.cell cY1 NX.out.2; have cX2 := fz.f.cell cY2 NX.out.2; have SG := Lib.hid sf; clear sf ry rz fz q2 f2)
                    | (refine (A2.out _ _ SD.out.z).mono ?_; rintro _ z ⟨rfl, V3, rz, fz⟩; have tq := SD.out.half' fz; have cY1 := fz.f.cell U1.out.1 NX.out.2; have cY2 := fz.f.cell U1.out.2 NX.out.2; have cX1 := cY1; have cX2 := cY2)))
            all_goals
              clear x1 x2
              go_wp2_with fail
              go_meet
              case rel => exact ⟨_, _, _, SG.out⟩
          · as_aux_lemma =>
            obtain ⟨c, S', hP, hZ⟩ := add_both ST2.out.p (by have := HL.out; omega) WA.out.1 (cl := xc) r
            have A1 := Lib.hid hP
            have A2 := Lib.hid hZ
            clear hP hZ
            have SS : Hid (∀ u, Grw w2 u → (u.cell? ⟨X, 1, none⟩ = some (.int .i64 xi) ∧ u.cell? ⟨X, 2, none⟩ = some (.int .i64 xc))) := (fun u g => ⟨g.cell x1, g.cell x2⟩ : ∀ u, Grw w2 u → (u.cell? ⟨X, 1, none⟩ = some (.int .i64 xi) ∧ u.cell? ⟨X, 2, none⟩ = some (.int .i64 xc)))
            have GD : Grw w2 w2.drew := (Grw.rfl' w2).drew
            have SD := Lib.hid (ST2.out.later GD)
            have U1 := Lib.hid (SS.out _ GD)
            go_wp2_with fail
            go_region_held3 (fun u => u.cell? ⟨X, 1, none⟩ = some (.int .i64 xi) ∧ u.cell? ⟨X, 2, none⟩ = some (.int .i64 xc))
              ((first | with_reducible assumption | exact ⟨cX1, cX2⟩ | (refine SS.out _ ?_; exact GD)))
              (first
                | (go_at_call 9; first
                    | (refine (A1.out _ _ tq).mono ?_; rintro _ y ⟨rfl, v2, q2, f2⟩; have sf := SD.out.both' rz fz q2 f2; have cX1 := f2.f.cell cY1 NX.out.1; have cX2 := f2.f.cell cY2 NX.out.1; have SG := Lib.hid sf; clear sf tq rz fz q2 f2)
                    | (refine (A1.out _ _ SD.out.p).mono ?_; rintro _ y ⟨rfl, v2, q2, f2⟩; have ry := SD.out.half f2; have cY1 := f2.f.cell U1.out.1 NX.out.1; have cY2 := f2.f.cell U1.out.2 NX.out.1; have cX1 := cY1; have cX2 := cY2))
                | (go_at_call 10; first
                    | (refine (A2.out _ _ ry).mono ?_; rintro _ z ⟨rfl, V3, rz, fz⟩; have sf := SD.out.both q2 f2 rz fz; have cX1 := fz.f.cell cY1 NX.out.2; have cX2 := fz.f.cell cY2 NX.out.2; have SG := Lib.hid sf; clear sf ry rz fz q2 f2)
                    | (refine (A2.out _ _ SD.out.z).mono ?_; rintro _ z ⟨rfl, V3, rz, fz⟩; have tq := SD.out.half' fz; have cY1 := fz.f.cell U1.out.1 NX.out.2; have cY2 := fz.f.cell U1.out.2 NX.out.2; have cX1 := cY1; have cX2 := cY2)))
            all_goals
              clear x1 x2
              go_wp2_with fail
              go_meet
              case rel => exact ⟨_, _, _, SG.out⟩
          · as_aux_lemma =>
            obtain ⟨c, d, u, t', e, S', hP, hZ⟩ := fetch_both ST2.out.p (by have := HL.out; omega) WA.out.2 r
            have A1 := Lib.hid hP
            have A2 := Lib.hid hZ
            unfold lv at A1 A2
            clear hP hZ
            have X3 := Lib.hid x3
            go_wp2_with fail
            refine (A1.out _ _ ST2.out.p).mono ?_
            rintro _ y ⟨rfl, v2, q2, f2⟩
            obtain ⟨y2, hy2⟩ : ∃ y2, y.alloc (.cells #[.int .i64 c, .int .i64 d, .int .i64 0, .int .i64 0, .int .i64 u, .int .u64 (t' : Nat)] 38) = y2 := ⟨_, rfl⟩
            have gy : Grw y y2 := by rw [← hy2]; exact (Grw.rfl' y).alloc _
            have sx : Six y2 y.heap.size (.int .i64 c) (.int .i64 d) (.int .i64 0) (.int .i64 0) (.int .i64 u) (.int .u64 (t' : Nat)) := by rw [← hy2]; exact Six.new _ _ _ _ _ _ _ _
            have f3 := f2.trans (Stp.of B v2 gy)
            have cX3 := f3.f.cell X3.out NX.out.1
            have ny : ¬ zb r V y.heap.size := fun e => by have := RB.lt8 (ST2.out.half f2) _ e; omega
            have hsz : y.heap.size < y2.heap.size := by rw [← hy2, size_new]; omega
            have Y := Lib.hid (And.intro (show PS w y2 B a room n v2 (k + 1) S' from BS.later q2 gy) (And.intro f3 (And.intro (ST2.out.half f3) (And.intro sx (And.intro ny hsz)))))
            clear q2 f2 gy sx f3 ny hsz x1 x2 x3
            go_wp2_with fail
            refine (A2.out _ _ Y.out.2.2.1).mono ?_
            rintro _ z ⟨rfl, V3, rz, fz⟩
            obtain ⟨z2, hz2⟩ : ∃ z2, z.alloc (.cells #[.int .i64 c, .int .i64 d, .int .i64 0, .int .i64 0, .int .i64 u, .int .u64 (t' : Nat)] 38) = z2 := ⟨_, rfl⟩
            have gz : Grw z z2 := by rw [← hz2]; exact (Grw.rfl' z).alloc _
            obtain ⟨p0, p1, p2, p3, p4, p5, _, _, _, _, _, _⟩ := (Y.out.2.2.2.1.frm fz.f Y.out.2.2.2.2.1).later gz (by have h1 := fz.f.size; have h2 := Y.out.2.2.2.2.2; omega)
            obtain ⟨s0, s1, s2, s3, s4, s5, _, _, _, _, _, _⟩ := (show Six z2 z.heap.size (.int .i64 c) (.int .i64 d) (.int .i64 0) (.int .i64 0) (.int .i64 u) (.int .u64 (t' : Nat)) from by rw [← hz2]; exact Six.new _ _ _ _ _ _ _ _)
            have SG := Lib.hid ((ST2.out.both Y.out.1 Y.out.2.1 rz fz).later gz)
            clear rz fz gz hy2 cX3
            go_wp2_with fail
            go_meet
            case rel => exact ⟨_, _, _, SG.out⟩
          · as_aux_lemma =>
            obtain ⟨c, d, u, t', e, S', hP, hZ⟩ := fetch_both ST2.out.p (by have := HL.out; omega) WA.out.2 r
            have A1 := Lib.hid hP
            have A2 := Lib.hid hZ
            unfold lv at A1 A2
            clear hP hZ
            have X3 := Lib.hid x3
            go_wp2_with fail
            refine (A1.out _ _ ST2.out.p).mono ?_
            rintro _ y ⟨rfl, v2, q2, f2⟩
            obtain ⟨y2, hy2⟩ : ∃ y2, y.alloc (.cells #[.int .i64 c, .int .i64 d, .int .i64 0, .int .i64 0, .int .i64 u, .int .u64 (t' : Nat)] 38) = y2 := ⟨_, rfl⟩
            have gy : Grw y y2 := by rw [← hy2]; exact (Grw.rfl' y).alloc _
            have sx : Six y2 y.heap.size (.int .i64 c) (.int .i64 d) (.int .i64 0) (.int .i64 0) (.int .i64 u) (.int .u64 (t' : Nat)) := by rw [← hy2]; exact Six.new _ _ _ _ _ _ _ _
            have f3 := f2.trans (Stp.of B v2 gy)
            have cX3 := f3.f.cell X3.out NX.out.1
            have ny : ¬ zb r V y.heap.size := fun e => by have := RB.lt8 (ST2.out.half f2) _ e; omega
            have hsz : y.heap.size < y2.heap.size := by rw [← hy2, size_new]; omega
            have Y := Lib.hid (And.intro (show PS w y2 B a room n v2 (k + 1) S' from BS.later q2 gy) (And.intro f3 (And.intro (ST2.out.half f3) (And.intro sx (And.intro ny hsz)))))
            clear q2 f2 gy sx f3 ny hsz x1 x2 x3
            go_wp2_with fail
            refine (A2.out _ _ Y.out.2.2.1).mono ?_
            rintro _ z ⟨rfl, V3, rz, fz⟩
            obtain ⟨z2, hz2⟩ : ∃ z2, z.alloc (.cells #[.int .i64 c, .int .i64 d, .int .i64 0, .int .i64 0, .int .i64 u, .int .u64 (t' : Nat)] 38) = z2 := ⟨_, rfl⟩
            have gz : Grw z z2 := by rw [← hz2]; exact (Grw.rfl' z).alloc _
            obtain ⟨p0, p1, p2, p3, p4, p5, _, _, _, _, _, _⟩ := (Y.out.2.2.2.1.frm fz.f Y.out.2.2.2.2.1).later gz (by have h1 := fz.f.size; have h2 := Y.out.2.2.2.2.2; omega)
            obtain ⟨s0, s1, s2, s3, s4, s5, _, _, _, _, _, _⟩ := (show Six z2 z.heap.size (.int .i64 c) (.int .i64 d) (.int .i64 0) (.int .i64 0) (.int .i64 u) (.int .u64 (t' : Nat)) from by rw [← hz2]; exact Six.new _ _ _ _ _ _ _ _)
            have SG := Lib.hid ((ST2.out.both Y.out.1 Y.out.2.1 rz fz).later gz)
            clear rz fz gz hy2 cX3
            go_wp2_with fail
            go_meet
            case rel => exact ⟨_, _, _, SG.out⟩
          · as_aux_lemma =>
            obtain ⟨c, e, S', hP, hZ⟩ := answer_both ST2.out.p WA.out.1 r
            have A1 := Lib.hid hP
            have A2 := Lib.hid hZ
            clear hP hZ
            have X1 := Lib.hid x1
            go_wp2_with fail
            refine (A1.out _ _ ST2.out.p).mono ?_
            rintro _ y ⟨rfl, v2, q2, f2⟩
            have cX1 := f2.f.cell X1.out NX.out.1
            have Y := Lib.hid (And.intro q2 (And.intro f2 (ST2.out.half f2)))
            clear q2 f2 x1 x2 x3
            go_wp2_with fail
            refine (A2.out _ _ Y.out.2.2).mono ?_
            rintro _ z ⟨rfl, V3, rz, fz⟩
            have SG := Lib.hid (ST2.out.both Y.out.1 Y.out.2.1 rz fz)
            clear rz fz cX1
            go_wp2_with fail
            go_meet
            case rel => exact ⟨_, _, _, SG.out⟩
          · as_aux_lemma =>
            obtain ⟨c, d, e, S', hP, hZ⟩ := fail_both ST2.out.p (by have := HL.out; omega) WA.out.1 r
            have A1 := Lib.hid hP
            have A2 := Lib.hid hZ
            clear hP hZ
            have X1 := Lib.hid x1
            go_wp2_with fail
            refine (A1.out _ _ ST2.out.p).mono ?_
            rintro _ y ⟨rfl, v2, q2, f2⟩
            have cX1 := f2.f.cell X1.out NX.out.1
            have Y := Lib.hid (And.intro q2 (And.intro f2 (ST2.out.half f2)))
            clear q2 f2 x1 x2 x3
            go_wp2_with fail
            refine (A2.out _ _ Y.out.2.2).mono ?_
            rintro _ z ⟨rfl, V3, rz, fz⟩
            have SG := Lib.hid (ST2.out.both Y.out.1 Y.out.2.1 rz fz)
            clear rz fz cX1
            go_wp2_with fail
            go_meet
            case rel => exact ⟨_, _, _, SG.out⟩
          · as_aux_lemma =>
            obtain ⟨c, S', hP, hZ⟩ := rested_both ST2.out.p (by have := HL.out; omega) WA.out.1 r
            have A1 := Lib.hid hP
            have A2 := Lib.hid hZ
            clear hP hZ
            have SS : Hid (∀ u, Grw w2 u → (u.cell? ⟨X, 1, none⟩ = some (.int .i64 xi) ∧ u.cell? ⟨X, 2, none⟩ = some (.int .i64 xc))) := (fun u g => ⟨g.cell x1, g.cell x2⟩ : ∀ u, Grw w2 u → (u.cell? ⟨X, 1, none⟩ = some (.int .i64 xi) ∧ u.cell? ⟨X, 2, none⟩ = some (.int .i64 xc)))
            have GD : Grw w2 w2.drew := (Grw.rfl' w2).drew
            have SD := Lib.hid (ST2.out.later GD)
            have U1 := Lib.hid (SS.out _ GD)
            go_wp2_with fail
            go_region_held3 (fun u => u.cell? ⟨X, 1, none⟩ = some (.int .i64 xi) ∧ u.cell? ⟨X, 2, none⟩ = some (.int .i64 xc))
              ((first | with_reducible assumption | exact ⟨cX1, cX2⟩ | (refine SS.out _ ?_; exact GD)))
              (first
                | (go_at_call 17; first
                    | (refine (A1.out _ _ tq).mono ?_; rintro _ y ⟨rfl, v2, q2, f2⟩; have sf := SD.out.both' rz fz q2 f2; have cX1 := f2.f.cell cY1 NX.out.1; have cX2 := f2.f.cell cY2 NX.out.1; have SG := Lib.hid sf; clear sf tq rz fz q2 f2)
                    | (refine (A1.out _ _ SD.out.p).mono ?_; rintro _ y ⟨rfl, v2, q2, f2⟩; have ry := SD.out.half f2; have cY1 := f2.f.cell U1.out.1 NX.out.1; have cY2 := f2.f.cell U1.out.2 NX.out.1; have cX1 := cY1; have cX2 := cY2))
                | (go_at_call 18; first
                    | (refine (A2.out _ _ ry).mono ?_; rintro _ z ⟨rfl, V3, rz, fz⟩; have sf := SD.out.both q2 f2 rz fz; have cX1 := fz.f.cell cY1 NX.out.2; have cX2 := fz.f.cell cY2 NX.out.2; have SG := Lib.hid sf; clear sf ry rz fz q2 f2)
                    | (refine (A2.out _ _ SD.out.z).mono ?_; rintro _ z ⟨rfl, V3, rz, fz⟩; have tq := SD.out.half' fz; have cY1 := fz.f.cell U1.out.1 NX.out.2; have cY2 := fz.f.cell U1.out.2 NX.out.2; have cX1 := cY1; have cX2 := cY2)))
            all_goals
              clear x1 x2
              go_wp2_with fail
              go_meet
              case rel => exact ⟨_, _, _, SG.out⟩
          · as_aux_lemma =>
            obtain ⟨c, S', hP, hZ⟩ := drop_both ST2.out.p WA.out.1 r
            have A1 := Lib.hid hP
            have A2 := Lib.hid hZ
            clear hP hZ
            have SS : Hid (∀ u, Grw w2 u → (u.cell? ⟨X, 1, none⟩ = some (.int .i64 xi) ∧ u.cell? ⟨X, 2, none⟩ = some (.int .i64 xc))) := (fun u g => ⟨g.cell x1, g.cell x2⟩ : ∀ u, Grw w2 u → (u.cell? ⟨X, 1, none⟩ = some (.int .i64 xi) ∧ u.cell? ⟨X, 2, none⟩ = some (.int .i64 xc)))
            have GD : Grw w2 w2.drew := (Grw.rfl' w2).drew
            have SD := Lib.hid (ST2.out.later GD)
            have U1 := Lib.hid (SS.out _ GD)
            go_wp2_with fail
            go_region_held3 (fun u => u.cell? ⟨X, 1, none⟩ = some (.int .i64 xi) ∧ u.cell? ⟨X, 2, none⟩ = some (.int .i64 xc))
              ((first | with_reducible assumption | exact ⟨cX1, cX2⟩ | (refine SS.out _ ?_; exact GD)))
              (first
                | (go_at_call 19; first
                    | (refine (A1.out _ _ tq).mono ?_; rintro _ y ⟨rfl, v2, q2, f2⟩; have sf := SD.out.both' rz fz q2 f2; have cX1 := f2.f.cell cY1 NX.out.1; have cX2 := f2.f.cell cY2 NX.out.1; have SG := Lib.hid sf; clear sf tq rz fz q2 f2)
                    | (refine (A1.out _ _ SD.out.p).mono ?_; rintro _ y ⟨rfl, v2, q2, f2⟩; have ry := SD.out.half f2; have cY1 := f2.f.cell U1.out.1 NX.out.1; have cY2 := f2.f.cell U1.out.2 NX.out.1; have cX1 := cY1; have cX2 := cY2))
                | (go_at_call 20; first
                    | (refine (A2.out _ _ ry).mono ?_; rintro _ z ⟨rfl, V3, rz, fz⟩; have sf := SD.out.both q2 f2 rz fz; have cX1 := fz.f.cell cY1 NX.out.2; have cX2 := fz.f.cell cY2 NX.out.2; have SG := Lib.hid sf; clear sf ry rz fz q2 f2)
                    | (refine (A2.out _ _ SD.out.z).mono ?_; rintro _ z ⟨rfl, V3, rz, fz⟩; have tq := SD.out.half' fz; have cY1 := fz.f.cell U1.out.1 NX.out.2; have cY2 := fz.f.cell U1.out.2 NX.out.2; have cX1 := cY1; have cX2 := cY2)))
            all_goals
              clear x1 x2
              go_wp2_with fail
              go_meet
              case rel => exact ⟨_, _, _, SG.out⟩
        case rest =>
          clear x0 MO ST2
          obtain ⟨v', V', S', hz⟩ := hcut
          have SC := Lib.hid hz
          have SM := Lib.hid (psame hz.p hz.z (by have := HL.out; omega))
          clear hz
          go_wp2_with fail
          refine SM.out.mono ?_
          rintro _ wd ⟨rfl, gd⟩
          have PE := Lib.hid (SC.out.later gd)
          clear gd
          go_wp2_with fail
          go_roundw
          case rel => exact ⟨i + 1, k + 1, _, _, _, by omega, by omega, by have := HL.out; omega, by first | rfl | go_num, PE.out⟩
          case measure => simp only [intOf]; omega
      · have d2 : decide ((i : Int) < 60) = false := by simp; omega
        have ST := Lib.hid (fun (y : Jb) (b : Bool) (hy : (fnd S.J (-7)).getD j0 = y) (hb : (fnd S.J (-7)).isSome = b) => s_state T.out.p (wi_small (-7) (by decide) (by decide)) hy hb)
        have WT := Lib.hid (fun w => wakes_any w)
        rcases hf : fnd S.J (-7) with _ | y
        · have C := Lib.hid (ST.out j0 false (by rw [hf]; rfl) (by rw [hf]; rfl))
          have HF := Lib.hid hf
          have FN := Lib.hid (fun u (g : Grw wr u) => zfind_no (ZB.later T.out.z g) (fnd_none HF.out))
          unfold j0 at C
          simp only at C
          clear hf ST
          go_wp2_with fail
          refine C.out.mono ?_
          rintro _ y1 ⟨rfl, g1⟩
          have G1 := Lib.hid g1
          clear g1
          go_wp2_with fail
          refine (FN.out _ (by repeat (first | with_reducible exact G1.out | with_reducible refine Grw.alloc ?_ _ | with_reducible refine Grw.set ?_ (Nat.le_refl _) _))).mono ?_
          rintro _ y3 ⟨rfl, g3⟩
          have m0 : y3.cell? ⟨y1.heap.size, 0, none⟩ = some (.int .i64 0) := g3.cell (by simp [go_sem])
          have m1 : y3.cell? ⟨y1.heap.size, 1, none⟩ = some (.int .i64 0) := g3.cell (by simp [go_sem])
          have G3 := Lib.hid ((BS.g T.out.p).trans (G1.out.trans (((Grw.rfl' _).alloc _).trans g3)))
          clear g3
          go_wp2_with fail
          refine (WT.out _).mono ?_
          rintro _ y4 ⟨rfl, g4⟩
          have G4 := Lib.hid (G3.out.trans g4)
          clear g4
          go_wp2_with fail
          go_ret
          exact ⟨rfl, G4.out⟩
        · have C := Lib.hid (ST.out y true (by simp [hf]) (by simp [hf]))
          have FN : Hid (∃ kk : Int, decide ((0 : Int) ≤ kk) = true ∧ ∀ u, Grw wr u → Calls Tryz.prog 23 #[.pointer (some ⟨r, 0, none⟩), .int .i64 (-7)] u fun e w' => e = .returned (.int .i64 kk) ∧ Grw u w') := (by
            obtain ⟨j, hj, ej⟩ := at_of hf
            have hid := (fnd_some hf).2
            exact ⟨(j : Int), by simp, fun u g => zfind_at (ZB.later T.out.z g) (BS.bi T.out.p).ids hj (by rw [ej]; exact hid)⟩ : ∃ kk : Int, decide ((0 : Int) ≤ kk) = true ∧ ∀ u, Grw wr u → Calls Tryz.prog 23 #[.pointer (some ⟨r, 0, none⟩), .int .i64 (-7)] u fun e w' => e = .returned (.int .i64 kk) ∧ Grw u w')
          obtain ⟨kk, d5, hfn⟩ := FN.out
          have FF := Lib.hid hfn
          obtain ⟨yi, yc, ys, yu⟩ := y
          simp only at C
          clear hf ST hfn FN
          go_wp2_with fail
          refine C.out.mono ?_
          rintro _ y1 ⟨rfl, g1⟩
          have G1 := Lib.hid g1
          clear g1
          go_wp2_with fail
          refine (FF.out _ (by repeat (first | with_reducible exact G1.out | with_reducible refine Grw.alloc ?_ _ | with_reducible refine Grw.set ?_ (Nat.le_refl _) _))).mono ?_
          rintro _ y3 ⟨rfl, g3⟩
          have G3 := Lib.hid ((BS.g T.out.p).trans (G1.out.trans (((Grw.rfl' _).alloc _).trans g3)))
          clear g3 C T
          go_wp2_with fail
          refine (WT.out _).mono ?_
          rintro _ y4 ⟨rfl, g4⟩
          have G4 := Lib.hid (G3.out.trans g4)
          clear g4
          go_wp2_with fail
          go_ret
          exact ⟨rfl, G4.out⟩
    · have d1 : decide ((i : Int) < (nn : Int)) = false := by simp; omega
      have ST := Lib.hid (fun (y : Jb) (b : Bool) (hy : (fnd S.J (-7)).getD j0 = y) (hb : (fnd S.J (-7)).isSome = b) => s_state T.out.p (wi_small (-7) (by decide) (by decide)) hy hb)
      have WT := Lib.hid (fun w => wakes_any w)
      rcases hf : fnd S.J (-7) with _ | y
      · have C := Lib.hid (ST.out j0 false (by rw [hf]; rfl) (by rw [hf]; rfl))
        have HF := Lib.hid hf
        have FN := Lib.hid (fun u (g : Grw wr u) => zfind_no (ZB.later T.out.z g) (fnd_none HF.out))
        unfold j0 at C
        simp only at C
        clear hf ST
        go_wp2_with fail
        refine C.out.mono ?_
        rintro _ y1 ⟨rfl, g1⟩
        have G1 := Lib.hid g1
        clear g1
        go_wp2_with fail
        refine (FN.out _ (by repeat (first | with_reducible exact G1.out | with_reducible refine Grw.alloc ?_ _ | with_reducible refine Grw.set ?_ (Nat.le_refl _) _))).mono ?_
        rintro _ y3 ⟨rfl, g3⟩
        have m0 : y3.cell? ⟨y1.heap.size, 0, none⟩ = some (.int .i64 0) := g3.cell (by simp [go_sem])
        have m1 : y3.cell? ⟨y1.heap.size, 1, none⟩ = some (.int .i64 0) := g3.cell (by simp [go_sem])
        have G3 := Lib.hid ((BS.g T.out.p).trans (G1.out.trans (((Grw.rfl' _).alloc _).trans g3)))
        clear g3
        go_wp2_with fail
        refine (WT.out _).mono ?_
        rintro _ y4 ⟨rfl, g4⟩
        have G4 := Lib.hid (G3.out.trans g4)
        clear g4
        go_wp2_with fail
        go_ret
        exact ⟨rfl, G4.out⟩
      · have C := Lib.hid (ST.out y true (by simp [hf]) (by simp [hf]))
        have FN : Hid (∃ kk : Int, decide ((0 : Int) ≤ kk) = true ∧ ∀ u, Grw wr u → Calls Tryz.prog 23 #[.pointer (some ⟨r, 0, none⟩), .int .i64 (-7)] u fun e w' => e = .returned (.int .i64 kk) ∧ Grw u w') := (by
          obtain ⟨j, hj, ej⟩ := at_of hf
          have hid := (fnd_some hf).2
          exact ⟨(j : Int), by simp, fun u g => zfind_at (ZB.later T.out.z g) (BS.bi T.out.p).ids hj (by rw [ej]; exact hid)⟩ : ∃ kk : Int, decide ((0 : Int) ≤ kk) = true ∧ ∀ u, Grw wr u → Calls Tryz.prog 23 #[.pointer (some ⟨r, 0, none⟩), .int .i64 (-7)] u fun e w' => e = .returned (.int .i64 kk) ∧ Grw u w')
        obtain ⟨kk, d5, hfn⟩ := FN.out
        have FF := Lib.hid hfn
        obtain ⟨yi, yc, ys, yu⟩ := y
        simp only at C
        clear hf ST hfn FN
        go_wp2_with fail
        refine C.out.mono ?_
        rintro _ y1 ⟨rfl, g1⟩
        have G1 := Lib.hid g1
        clear g1
        go_wp2_with fail
        refine (FF.out _ (by repeat (first | with_reducible exact G1.out | with_reducible refine Grw.alloc ?_ _ | with_reducible refine Grw.set ?_ (Nat.le_refl _) _))).mono ?_
        rintro _ y3 ⟨rfl, g3⟩
        have G3 := Lib.hid ((BS.g T.out.p).trans (G1.out.trans (((Grw.rfl' _).alloc _).trans g3)))
        clear g3 C T
        go_wp2_with fail
        refine (WT.out _).mono ?_
        rintro _ y4 ⟨rfl, g4⟩
        have G4 := Lib.hid (G3.out.trans g4)
        clear g4
        go_wp2_with fail
        go_ret
        exact ⟨rfl, G4.out⟩
theorem plays_walk (a room n : Int) (ao : Option Addr) (cap : Nat) (acts : List Ac) (w : World) (hl : ALies w ao acts) (hw : ∀ x ∈ acts, LE.Wi x.i ∧ x.t < 18446744073709551616) (hm : acts.length ≤ 9223372036854775807) :
    Calls Tryz.prog 3 #[.agg #[.int .i64 a, .int .i64 room, .int .i64 n], .slice ao acts.length cap] w fun e w' => e = .returned (.bool true) ∧ Grw w w' := by
  by_cases h : 1 ≤ a ∧ a ≤ 1000 ∧ 0 ≤ room ∧ room ≤ 1000 ∧ 0 ≤ n ∧ n ≤ 9
  · exact plays_good a room n ao cap acts w hl hw hm h
  · exact plays_bad a room n ao cap acts.length w h
end Go.Proofs.YtlopijcpnfkcgaaGreat
