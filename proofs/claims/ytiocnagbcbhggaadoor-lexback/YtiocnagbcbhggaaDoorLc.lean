/- LexBack, walked (written by tools/gen_lexback.py). -/
import Derived.Test.YtiocnagbcbhggaaDoorLb
import Derived.Test.YtiocnagbcbhggaaDoorWh
namespace Go.Proofs.YtiocnagbcbhggaaDoor
open Go.RowKit SM
set_option linter.unusedSimpArgs false
set_option linter.unusedVariables false

theorem up_dn (X : List Sg) : (X.map up).map dn = X := by
  rw [List.map_map]
  have : (dn ∘ up) = id := funext fun s => dn_up s
  rw [this, List.map_id]
theorem all_gz (X : List Sg) (h : ∀ s ∈ X, gs s = true) : (X.map up).all gz = true := by
  rw [List.all_eq_true]
  intro z hz
  obtain ⟨s, hs, rfl⟩ := List.mem_map.1 hz
  rw [gz_up]; exact h s hs
/-- signs of which Lex may make a row, as Print has them. -/
theorem print_sg (X : List Sg) (ao : Option Addr) (ca n : Nat) (r : ByteArray) (w : World) (t : Mks w) (tt : Tab w) (hn : X.length = n) (hn2 : n ≤ 1000000) (ha : Lies w ao (cs (X.map up))) (hg : ∀ s ∈ X, gs s = true) (hr : r.data.toList = pr X) :
    Calls Tryd.prog 11 #[.slice ao n ca] w fun e w' => e = .returned (.tuple #[.string r, .bool true]) ∧ Grw w w' :=
  print_is (X.map up) ao ca n r true w t tt (by rw [List.length_map]; exact hn) hn2 ha (all_gz X hg).symm (by rw [up_dn]; exact hr)
set_option maxHeartbeats 4000000 in
set_option maxRecDepth 100000 in
theorem back_bad_err (l : List Zs) (ao : Option Addr) (ca n : Nat) (s : ByteArray) (w : World) (t : Mks w) (tt : Tab w) (ha : Lies w ao (cs l)) (hn : l.length = n) (hn2 : n ≤ 60) (hs : s.size ≤ 300) (hok : l.all gz = false) (Y : List Sg) (y2 m : Nat) (hy : lq s.data.toList = (Y, y2)) (hm : Y.length = m) (hy2 : y2 ≠ 0) :
    Calls Tryd.prog 4 #[.slice ao n ca, .string s] w fun e w' => e = .returned (.bool true) ∧ Grw w w' := by
  have z1 : ¬ (300 : Int) < (s.size : Int) := by omega
  have z2 : ¬ (60 : Int) < (n : Int) := by omega
  have z3 : decide ((300 : Int) < (s.size : Int)) = false := decide_eq_false z1
  have z4 : decide ((60 : Int) < (n : Int)) = false := decide_eq_false z2
  have HN := Lib.hid hn
  have PR := Lib.hid (print_is l ao ca n ⟨#[]⟩ false w t tt hn (by omega) ha hok.symm rfl)
  have HT := Lib.hid t
  have HTT := Lib.hid tt
  have RA := Lib.hid ha
  have LS := Lib.hid (fun w t => lex_at s (Y, y2) m w t hy hm)
  have yj : ((y2 : Int) == 0) = false := by simp; omega
  clear t tt ha hn hok hy hm hy2
  go_enter Tryd.func4, Tryd.ntmps4
  go_wp2_with fail
  with_reducible refine PR.out.mono ?_
  rintro _ w1 ⟨rfl, h1⟩
  have G1 := Lib.hid h1
  replace RA := Lib.hid (RA.out.later h1)
  clear h1 PR
  go_wp2_with fail
  with_reducible refine (LS.out _ (mks_grw G1.out HT.out)).mono ?_
  rintro _ v1 ⟨b1, d1, rfl, _, m1, j1⟩
  have H1 := Lib.hid (G1.out.trans j1)
  clear j1
  have WK := Lib.hid (wakes_any v1 (mks_grw H1.out HT.out) (tab_grw H1.out HTT.out))
  go_wp2_with fail
  with_reducible refine WK.out.mono ?_
  rintro _ v8 ⟨rfl, j8⟩
  go_wp2_with fail
  go_ret
  exact ⟨rfl, H1.out.trans j8⟩
set_option maxHeartbeats 4000000 in
set_option maxRecDepth 100000 in
theorem back_long_err (l : List Zs) (ao : Option Addr) (ca n : Nat) (s : ByteArray) (w : World) (t : Mks w) (tt : Tab w) (ha : Lies w ao (cs l)) (hn : l.length = n) (hn2 : n ≤ 60) (hs : s.size ≤ 300) (r : ByteArray) (hok : l.all gz = true) (hr : r.data.toList = pr (l.map dn)) (h60 : 60 < r.size) (Y : List Sg) (y2 m : Nat) (hy : lq s.data.toList = (Y, y2)) (hm : Y.length = m) (hy2 : y2 ≠ 0) :
    Calls Tryd.prog 4 #[.slice ao n ca, .string s] w fun e w' => e = .returned (.bool true) ∧ Grw w w' := by
  have z1 : ¬ (300 : Int) < (s.size : Int) := by omega
  have z2 : ¬ (60 : Int) < (n : Int) := by omega
  have z3 : decide ((300 : Int) < (s.size : Int)) = false := decide_eq_false z1
  have z4 : decide ((60 : Int) < (n : Int)) = false := decide_eq_false z2
  have HN := Lib.hid hn
  have PR := Lib.hid (print_is l ao ca n r true w t tt hn (by omega) ha hok.symm (by rw [hr]; rfl))
  have k1 : ¬ (r.size : Int) ≤ 60 := by omega
  have k2 : decide ((r.size : Int) ≤ 60) = false := decide_eq_false k1
  have HT := Lib.hid t
  have HTT := Lib.hid tt
  have RA := Lib.hid ha
  have LS := Lib.hid (fun w t => lex_at s (Y, y2) m w t hy hm)
  have yj : ((y2 : Int) == 0) = false := by simp; omega
  clear t tt ha hn hok hy hm hr h60 hy2
  go_enter Tryd.func4, Tryd.ntmps4
  go_wp2_with fail
  with_reducible refine PR.out.mono ?_
  rintro _ w1 ⟨rfl, h1⟩
  have G1 := Lib.hid h1
  replace RA := Lib.hid (RA.out.later h1)
  clear h1 PR
  go_wp2_with fail
  with_reducible refine (LS.out _ (mks_grw G1.out HT.out)).mono ?_
  rintro _ v1 ⟨b1, d1, rfl, _, m1, j1⟩
  have H1 := Lib.hid (G1.out.trans j1)
  clear j1
  have WK := Lib.hid (wakes_any v1 (mks_grw H1.out HT.out) (tab_grw H1.out HTT.out))
  go_wp2_with fail
  with_reducible refine WK.out.mono ?_
  rintro _ v8 ⟨rfl, j8⟩
  go_wp2_with fail
  go_ret
  exact ⟨rfl, H1.out.trans j8⟩
set_option maxHeartbeats 4000000 in
set_option maxRecDepth 100000 in
theorem back_lex_err (l : List Zs) (ao : Option Addr) (ca n : Nat) (s : ByteArray) (w : World) (t : Mks w) (tt : Tab w) (ha : Lies w ao (cs l)) (hn : l.length = n) (hn2 : n ≤ 60) (hs : s.size ≤ 300) (r : ByteArray) (hok : l.all gz = true) (hr : r.data.toList = pr (l.map dn)) (h60 : r.size ≤ 60) (Y : List Sg) (y2 m : Nat) (hy : lq s.data.toList = (Y, y2)) (hm : Y.length = m) (hy2 : y2 ≠ 0) :
    Calls Tryd.prog 4 #[.slice ao n ca, .string s] w fun e w' => e = .returned (.bool true) ∧ Grw w w' := by
  have z1 : ¬ (300 : Int) < (s.size : Int) := by omega
  have z2 : ¬ (60 : Int) < (n : Int) := by omega
  have z3 : decide ((300 : Int) < (s.size : Int)) = false := decide_eq_false z1
  have z4 : decide ((60 : Int) < (n : Int)) = false := decide_eq_false z2
  have HN := Lib.hid hn
  have PR := Lib.hid (print_is l ao ca n r true w t tt hn (by omega) ha hok.symm (by rw [hr]; rfl))
  have k1 : (r.size : Int) ≤ 60 := by omega
  have k2 : decide ((r.size : Int) ≤ 60) = true := decide_eq_true k1
  have LU := Lib.hid (all_up l hok).1
  have LA := Lib.hid (fun w t => lex_at r (l.map dn, 0) n w t (by rw [lq_short (by rw [← size_len]; exact h60), hr]; exact lx_pr _ (all_up l hok).2) (by rw [List.length_map]; exact hn))
  have HT := Lib.hid t
  have HTT := Lib.hid tt
  have RA := Lib.hid ha
  have LS := Lib.hid (fun w t => lex_at s (Y, y2) m w t hy hm)
  have yj : ((y2 : Int) == 0) = false := by simp; omega
  clear t tt ha hn hok hy hm hr h60 hy2
  go_enter Tryd.func4, Tryd.ntmps4
  go_wp2_with fail
  with_reducible refine PR.out.mono ?_
  rintro _ w1 ⟨rfl, h1⟩
  have G1 := Lib.hid h1
  replace RA := Lib.hid (RA.out.later h1)
  clear h1 PR
  go_wp2_with fail
  with_reducible refine (LA.out _ (mks_grw G1.out HT.out)).mono ?_
  rintro _ w2 ⟨a2, c2, rfl, _, l2, h2⟩
  have G2 := Lib.hid (G1.out.trans h2)
  have S1 := Lib.hid (signs_same a2 ao c2 ca n l w2 (by omega) HN.out (by rw [← LU.out]; exact l2) (RA.out.later h2))
  clear h2 l2
  go_wp2_with fail
  with_reducible refine S1.out.mono ?_
  rintro _ w3 ⟨rfl, h3⟩
  have G3 := Lib.hid (G2.out.trans h3)
  clear h3 S1
  go_wp2_with fail
  with_reducible refine (LS.out _ (mks_grw G3.out HT.out)).mono ?_
  rintro _ v1 ⟨b1, d1, rfl, _, m1, j1⟩
  have H1 := Lib.hid (G3.out.trans j1)
  clear j1
  have WK := Lib.hid (wakes_any v1 (mks_grw H1.out HT.out) (tab_grw H1.out HTT.out))
  go_wp2_with fail
  with_reducible refine WK.out.mono ?_
  rintro _ v8 ⟨rfl, j8⟩
  go_wp2_with fail
  go_ret
  exact ⟨rfl, H1.out.trans j8⟩
set_option maxHeartbeats 4000000 in
set_option maxRecDepth 100000 in
theorem back_bad_same (l : List Zs) (ao : Option Addr) (ca n : Nat) (s : ByteArray) (w : World) (t : Mks w) (tt : Tab w) (ha : Lies w ao (cs l)) (hn : l.length = n) (hn2 : n ≤ 60) (hs : s.size ≤ 300) (hok : l.all gz = false) (Y : List Sg) (m : Nat) (r2 : ByteArray) (hy : lq s.data.toList = (Y, 0)) (hm : Y.length = m) (hr2 : r2.data.toList = pr Y) (h61 : r2.size ≤ 60) :
    Calls Tryd.prog 4 #[.slice ao n ca, .string s] w fun e w' => e = .returned (.bool true) ∧ Grw w w' := by
  have z1 : ¬ (300 : Int) < (s.size : Int) := by omega
  have z2 : ¬ (60 : Int) < (n : Int) := by omega
  have z3 : decide ((300 : Int) < (s.size : Int)) = false := decide_eq_false z1
  have z4 : decide ((60 : Int) < (n : Int)) = false := decide_eq_false z2
  have HN := Lib.hid hn
  have PR := Lib.hid (print_is l ao ca n ⟨#[]⟩ false w t tt hn (by omega) ha hok.symm rfl)
  have HT := Lib.hid t
  have HTT := Lib.hid tt
  have RA := Lib.hid ha
  have LS := Lib.hid (fun w t => lex_at s (Y, 0) m w t hy hm)
  have HM := Lib.hid hm
  have gy := lq_good s.data.toList
  rw [hy] at gy
  have ly := lq_len s.data.toList
  rw [hy] at ly
  simp only at gy ly
  rw [hm] at ly
  have HM6 : Hid (m ≤ 1000000) := Lib.hid (by omega)
  have GY := Lib.hid gy
  have HR2 := Lib.hid hr2
  have LYP := lx_pr Y gy
  have u1 : ¬ (60 : Int) < (r2.size : Int) := by omega
  have LR := Lib.hid (fun w t => lex_at r2 (Y, 0) m w t (by rw [lq_short (by rw [← size_len]; exact h61), hr2]; exact LYP) hm)
  clear gy ly hr2 LYP h61
  clear t tt ha hn hok hy hm
  go_enter Tryd.func4, Tryd.ntmps4
  go_wp2_with fail
  with_reducible refine PR.out.mono ?_
  rintro _ w1 ⟨rfl, h1⟩
  have G1 := Lib.hid h1
  replace RA := Lib.hid (RA.out.later h1)
  clear h1 PR
  go_wp2_with fail
  with_reducible refine (LS.out _ (mks_grw G1.out HT.out)).mono ?_
  rintro _ v1 ⟨b1, d1, rfl, _, m1, j1⟩
  have H1 := Lib.hid (G1.out.trans j1)
  clear j1
  have M1 := Lib.hid m1
  clear m1
  go_wp2_with fail
  with_reducible refine (print_sg Y b1 d1 m r2 v1 (mks_grw H1.out HT.out) (tab_grw H1.out HTT.out) HM.out HM6.out M1.out GY.out HR2.out).mono ?_
  rintro _ v2 ⟨rfl, j2⟩
  have H2 := Lib.hid (H1.out.trans j2)
  replace M1 := Lib.hid (M1.out.later j2)
  clear j2
  go_wp2_with fail
  with_reducible refine (LR.out _ (mks_grw H2.out HT.out)).mono ?_
  rintro _ v3 ⟨b3, d3, rfl, _, m3, j3⟩
  have H3 := Lib.hid (H2.out.trans j3)
  replace M1 := Lib.hid (M1.out.later j3)
  have S2 := Lib.hid (signs_same b1 b3 d1 d3 m (Y.map up) v3 (by have := HM6.out; omega) (by rw [List.length_map]; exact HM.out) M1.out m3)
  clear j3 m3
  go_wp2_with fail
  with_reducible refine S2.out.mono ?_
  rintro _ v4 ⟨rfl, j4⟩
  have H4 := Lib.hid (H3.out.trans j4)
  clear j4
  have WK := Lib.hid (wakes_any v4 (mks_grw H4.out HT.out) (tab_grw H4.out HTT.out))
  go_wp2_with fail
  with_reducible refine WK.out.mono ?_
  rintro _ v8 ⟨rfl, j8⟩
  go_wp2_with fail
  go_ret
  exact ⟨rfl, H4.out.trans j8⟩
set_option maxHeartbeats 4000000 in
set_option maxRecDepth 100000 in
theorem back_long_same (l : List Zs) (ao : Option Addr) (ca n : Nat) (s : ByteArray) (w : World) (t : Mks w) (tt : Tab w) (ha : Lies w ao (cs l)) (hn : l.length = n) (hn2 : n ≤ 60) (hs : s.size ≤ 300) (r : ByteArray) (hok : l.all gz = true) (hr : r.data.toList = pr (l.map dn)) (h60 : 60 < r.size) (Y : List Sg) (m : Nat) (r2 : ByteArray) (hy : lq s.data.toList = (Y, 0)) (hm : Y.length = m) (hr2 : r2.data.toList = pr Y) (h61 : r2.size ≤ 60) :
    Calls Tryd.prog 4 #[.slice ao n ca, .string s] w fun e w' => e = .returned (.bool true) ∧ Grw w w' := by
  have z1 : ¬ (300 : Int) < (s.size : Int) := by omega
  have z2 : ¬ (60 : Int) < (n : Int) := by omega
  have z3 : decide ((300 : Int) < (s.size : Int)) = false := decide_eq_false z1
  have z4 : decide ((60 : Int) < (n : Int)) = false := decide_eq_false z2
  have HN := Lib.hid hn
  have PR := Lib.hid (print_is l ao ca n r true w t tt hn (by omega) ha hok.symm (by rw [hr]; rfl))
  have k1 : ¬ (r.size : Int) ≤ 60 := by omega
  have k2 : decide ((r.size : Int) ≤ 60) = false := decide_eq_false k1
  have HT := Lib.hid t
  have HTT := Lib.hid tt
  have RA := Lib.hid ha
  have LS := Lib.hid (fun w t => lex_at s (Y, 0) m w t hy hm)
  have HM := Lib.hid hm
  have gy := lq_good s.data.toList
  rw [hy] at gy
  have ly := lq_len s.data.toList
  rw [hy] at ly
  simp only at gy ly
  rw [hm] at ly
  have HM6 : Hid (m ≤ 1000000) := Lib.hid (by omega)
  have GY := Lib.hid gy
  have HR2 := Lib.hid hr2
  have LYP := lx_pr Y gy
  have u1 : ¬ (60 : Int) < (r2.size : Int) := by omega
  have LR := Lib.hid (fun w t => lex_at r2 (Y, 0) m w t (by rw [lq_short (by rw [← size_len]; exact h61), hr2]; exact LYP) hm)
  clear gy ly hr2 LYP h61
  clear t tt ha hn hok hy hm hr h60
  go_enter Tryd.func4, Tryd.ntmps4
  go_wp2_with fail
  with_reducible refine PR.out.mono ?_
  rintro _ w1 ⟨rfl, h1⟩
  have G1 := Lib.hid h1
  replace RA := Lib.hid (RA.out.later h1)
  clear h1 PR
  go_wp2_with fail
  with_reducible refine (LS.out _ (mks_grw G1.out HT.out)).mono ?_
  rintro _ v1 ⟨b1, d1, rfl, _, m1, j1⟩
  have H1 := Lib.hid (G1.out.trans j1)
  clear j1
  have M1 := Lib.hid m1
  clear m1
  go_wp2_with fail
  with_reducible refine (print_sg Y b1 d1 m r2 v1 (mks_grw H1.out HT.out) (tab_grw H1.out HTT.out) HM.out HM6.out M1.out GY.out HR2.out).mono ?_
  rintro _ v2 ⟨rfl, j2⟩
  have H2 := Lib.hid (H1.out.trans j2)
  replace M1 := Lib.hid (M1.out.later j2)
  clear j2
  go_wp2_with fail
  with_reducible refine (LR.out _ (mks_grw H2.out HT.out)).mono ?_
  rintro _ v3 ⟨b3, d3, rfl, _, m3, j3⟩
  have H3 := Lib.hid (H2.out.trans j3)
  replace M1 := Lib.hid (M1.out.later j3)
  have S2 := Lib.hid (signs_same b1 b3 d1 d3 m (Y.map up) v3 (by have := HM6.out; omega) (by rw [List.length_map]; exact HM.out) M1.out m3)
  clear j3 m3
  go_wp2_with fail
  with_reducible refine S2.out.mono ?_
  rintro _ v4 ⟨rfl, j4⟩
  have H4 := Lib.hid (H3.out.trans j4)
  clear j4
  have WK := Lib.hid (wakes_any v4 (mks_grw H4.out HT.out) (tab_grw H4.out HTT.out))
  go_wp2_with fail
  with_reducible refine WK.out.mono ?_
  rintro _ v8 ⟨rfl, j8⟩
  go_wp2_with fail
  go_ret
  exact ⟨rfl, H4.out.trans j8⟩
set_option maxHeartbeats 4000000 in
set_option maxRecDepth 100000 in
theorem back_lex_same (l : List Zs) (ao : Option Addr) (ca n : Nat) (s : ByteArray) (w : World) (t : Mks w) (tt : Tab w) (ha : Lies w ao (cs l)) (hn : l.length = n) (hn2 : n ≤ 60) (hs : s.size ≤ 300) (r : ByteArray) (hok : l.all gz = true) (hr : r.data.toList = pr (l.map dn)) (h60 : r.size ≤ 60) (Y : List Sg) (m : Nat) (r2 : ByteArray) (hy : lq s.data.toList = (Y, 0)) (hm : Y.length = m) (hr2 : r2.data.toList = pr Y) (h61 : r2.size ≤ 60) :
    Calls Tryd.prog 4 #[.slice ao n ca, .string s] w fun e w' => e = .returned (.bool true) ∧ Grw w w' := by
  have z1 : ¬ (300 : Int) < (s.size : Int) := by omega
  have z2 : ¬ (60 : Int) < (n : Int) := by omega
  have z3 : decide ((300 : Int) < (s.size : Int)) = false := decide_eq_false z1
  have z4 : decide ((60 : Int) < (n : Int)) = false := decide_eq_false z2
  have HN := Lib.hid hn
  have PR := Lib.hid (print_is l ao ca n r true w t tt hn (by omega) ha hok.symm (by rw [hr]; rfl))
  have k1 : (r.size : Int) ≤ 60 := by omega
  have k2 : decide ((r.size : Int) ≤ 60) = true := decide_eq_true k1
  have LU := Lib.hid (all_up l hok).1
  have LA := Lib.hid (fun w t => lex_at r (l.map dn, 0) n w t (by rw [lq_short (by rw [← size_len]; exact h60), hr]; exact lx_pr _ (all_up l hok).2) (by rw [List.length_map]; exact hn))
  have HT := Lib.hid t
  have HTT := Lib.hid tt
  have RA := Lib.hid ha
  have LS := Lib.hid (fun w t => lex_at s (Y, 0) m w t hy hm)
  have HM := Lib.hid hm
  have gy := lq_good s.data.toList
  rw [hy] at gy
  have ly := lq_len s.data.toList
  rw [hy] at ly
  simp only at gy ly
  rw [hm] at ly
  have HM6 : Hid (m ≤ 1000000) := Lib.hid (by omega)
  have GY := Lib.hid gy
  have HR2 := Lib.hid hr2
  have LYP := lx_pr Y gy
  have u1 : ¬ (60 : Int) < (r2.size : Int) := by omega
  have LR := Lib.hid (fun w t => lex_at r2 (Y, 0) m w t (by rw [lq_short (by rw [← size_len]; exact h61), hr2]; exact LYP) hm)
  clear gy ly hr2 LYP h61
  clear t tt ha hn hok hy hm hr h60
  go_enter Tryd.func4, Tryd.ntmps4
  go_wp2_with fail
  with_reducible refine PR.out.mono ?_
  rintro _ w1 ⟨rfl, h1⟩
  have G1 := Lib.hid h1
  replace RA := Lib.hid (RA.out.later h1)
  clear h1 PR
  go_wp2_with fail
  with_reducible refine (LA.out _ (mks_grw G1.out HT.out)).mono ?_
  rintro _ w2 ⟨a2, c2, rfl, _, l2, h2⟩
  have G2 := Lib.hid (G1.out.trans h2)
  have S1 := Lib.hid (signs_same a2 ao c2 ca n l w2 (by omega) HN.out (by rw [← LU.out]; exact l2) (RA.out.later h2))
  clear h2 l2
  go_wp2_with fail
  with_reducible refine S1.out.mono ?_
  rintro _ w3 ⟨rfl, h3⟩
  have G3 := Lib.hid (G2.out.trans h3)
  clear h3 S1
  go_wp2_with fail
  with_reducible refine (LS.out _ (mks_grw G3.out HT.out)).mono ?_
  rintro _ v1 ⟨b1, d1, rfl, _, m1, j1⟩
  have H1 := Lib.hid (G3.out.trans j1)
  clear j1
  have M1 := Lib.hid m1
  clear m1
  go_wp2_with fail
  with_reducible refine (print_sg Y b1 d1 m r2 v1 (mks_grw H1.out HT.out) (tab_grw H1.out HTT.out) HM.out HM6.out M1.out GY.out HR2.out).mono ?_
  rintro _ v2 ⟨rfl, j2⟩
  have H2 := Lib.hid (H1.out.trans j2)
  replace M1 := Lib.hid (M1.out.later j2)
  clear j2
  go_wp2_with fail
  with_reducible refine (LR.out _ (mks_grw H2.out HT.out)).mono ?_
  rintro _ v3 ⟨b3, d3, rfl, _, m3, j3⟩
  have H3 := Lib.hid (H2.out.trans j3)
  replace M1 := Lib.hid (M1.out.later j3)
  have S2 := Lib.hid (signs_same b1 b3 d1 d3 m (Y.map up) v3 (by have := HM6.out; omega) (by rw [List.length_map]; exact HM.out) M1.out m3)
  clear j3 m3
  go_wp2_with fail
  with_reducible refine S2.out.mono ?_
  rintro _ v4 ⟨rfl, j4⟩
  have H4 := Lib.hid (H3.out.trans j4)
  clear j4
  have WK := Lib.hid (wakes_any v4 (mks_grw H4.out HT.out) (tab_grw H4.out HTT.out))
  go_wp2_with fail
  with_reducible refine WK.out.mono ?_
  rintro _ v8 ⟨rfl, j8⟩
  go_wp2_with fail
  go_ret
  exact ⟨rfl, H4.out.trans j8⟩
set_option maxHeartbeats 4000000 in
set_option maxRecDepth 100000 in
theorem back_bad_long (l : List Zs) (ao : Option Addr) (ca n : Nat) (s : ByteArray) (w : World) (t : Mks w) (tt : Tab w) (ha : Lies w ao (cs l)) (hn : l.length = n) (hn2 : n ≤ 60) (hs : s.size ≤ 300) (hok : l.all gz = false) (Y : List Sg) (m : Nat) (r2 : ByteArray) (hy : lq s.data.toList = (Y, 0)) (hm : Y.length = m) (hr2 : r2.data.toList = pr Y) (h61 : 60 < r2.size) :
    Calls Tryd.prog 4 #[.slice ao n ca, .string s] w fun e w' => e = .returned (.bool true) ∧ Grw w w' := by
  have z1 : ¬ (300 : Int) < (s.size : Int) := by omega
  have z2 : ¬ (60 : Int) < (n : Int) := by omega
  have z3 : decide ((300 : Int) < (s.size : Int)) = false := decide_eq_false z1
  have z4 : decide ((60 : Int) < (n : Int)) = false := decide_eq_false z2
  have HN := Lib.hid hn
  have PR := Lib.hid (print_is l ao ca n ⟨#[]⟩ false w t tt hn (by omega) ha hok.symm rfl)
  have HT := Lib.hid t
  have HTT := Lib.hid tt
  have RA := Lib.hid ha
  have LS := Lib.hid (fun w t => lex_at s (Y, 0) m w t hy hm)
  have HM := Lib.hid hm
  have gy := lq_good s.data.toList
  rw [hy] at gy
  have ly := lq_len s.data.toList
  rw [hy] at ly
  simp only at gy ly
  rw [hm] at ly
  have HM6 : Hid (m ≤ 1000000) := Lib.hid (by omega)
  have GY := Lib.hid gy
  have HR2 := Lib.hid hr2
  have LYP := lx_pr Y gy
  have u1 : (60 : Int) < (r2.size : Int) := by omega
  have u2 : decide ((60 : Int) < (r2.size : Int)) = true := decide_eq_true u1
  have LR := Lib.hid (fun w t => lex_at r2 ([], 15) 0 w t (by unfold lq; rw [if_pos (by rw [← size_len]; exact h61)]) rfl)
  clear gy ly hr2 LYP h61
  clear t tt ha hn hok hy hm
  go_enter Tryd.func4, Tryd.ntmps4
  go_wp2_with fail
  with_reducible refine PR.out.mono ?_
  rintro _ w1 ⟨rfl, h1⟩
  have G1 := Lib.hid h1
  replace RA := Lib.hid (RA.out.later h1)
  clear h1 PR
  go_wp2_with fail
  with_reducible refine (LS.out _ (mks_grw G1.out HT.out)).mono ?_
  rintro _ v1 ⟨b1, d1, rfl, _, m1, j1⟩
  have H1 := Lib.hid (G1.out.trans j1)
  clear j1
  have M1 := Lib.hid m1
  clear m1
  go_wp2_with fail
  with_reducible refine (print_sg Y b1 d1 m r2 v1 (mks_grw H1.out HT.out) (tab_grw H1.out HTT.out) HM.out HM6.out M1.out GY.out HR2.out).mono ?_
  rintro _ v2 ⟨rfl, j2⟩
  have H2 := Lib.hid (H1.out.trans j2)
  replace M1 := Lib.hid (M1.out.later j2)
  clear j2
  go_wp2_with fail
  with_reducible refine (LR.out _ (mks_grw H2.out HT.out)).mono ?_
  rintro _ v3 ⟨b3, d3, rfl, _, m3, j3⟩
  have H3 := Lib.hid (H2.out.trans j3)
  replace M1 := Lib.hid (M1.out.later j3)
  clear j3 m3
  have WK := Lib.hid (wakes_any v3 (mks_grw H3.out HT.out) (tab_grw H3.out HTT.out))
  go_wp2_with fail
  with_reducible refine WK.out.mono ?_
  rintro _ v8 ⟨rfl, j8⟩
  go_wp2_with fail
  go_ret
  exact ⟨rfl, H3.out.trans j8⟩
set_option maxHeartbeats 4000000 in
set_option maxRecDepth 100000 in
theorem back_long_long (l : List Zs) (ao : Option Addr) (ca n : Nat) (s : ByteArray) (w : World) (t : Mks w) (tt : Tab w) (ha : Lies w ao (cs l)) (hn : l.length = n) (hn2 : n ≤ 60) (hs : s.size ≤ 300) (r : ByteArray) (hok : l.all gz = true) (hr : r.data.toList = pr (l.map dn)) (h60 : 60 < r.size) (Y : List Sg) (m : Nat) (r2 : ByteArray) (hy : lq s.data.toList = (Y, 0)) (hm : Y.length = m) (hr2 : r2.data.toList = pr Y) (h61 : 60 < r2.size) :
    Calls Tryd.prog 4 #[.slice ao n ca, .string s] w fun e w' => e = .returned (.bool true) ∧ Grw w w' := by
  have z1 : ¬ (300 : Int) < (s.size : Int) := by omega
  have z2 : ¬ (60 : Int) < (n : Int) := by omega
  have z3 : decide ((300 : Int) < (s.size : Int)) = false := decide_eq_false z1
  have z4 : decide ((60 : Int) < (n : Int)) = false := decide_eq_false z2
  have HN := Lib.hid hn
  have PR := Lib.hid (print_is l ao ca n r true w t tt hn (by omega) ha hok.symm (by rw [hr]; rfl))
  have k1 : ¬ (r.size : Int) ≤ 60 := by omega
  have k2 : decide ((r.size : Int) ≤ 60) = false := decide_eq_false k1
  have HT := Lib.hid t
  have HTT := Lib.hid tt
  have RA := Lib.hid ha
  have LS := Lib.hid (fun w t => lex_at s (Y, 0) m w t hy hm)
  have HM := Lib.hid hm
  have gy := lq_good s.data.toList
  rw [hy] at gy
  have ly := lq_len s.data.toList
  rw [hy] at ly
  simp only at gy ly
  rw [hm] at ly
  have HM6 : Hid (m ≤ 1000000) := Lib.hid (by omega)
  have GY := Lib.hid gy
  have HR2 := Lib.hid hr2
  have LYP := lx_pr Y gy
  have u1 : (60 : Int) < (r2.size : Int) := by omega
  have u2 : decide ((60 : Int) < (r2.size : Int)) = true := decide_eq_true u1
  have LR := Lib.hid (fun w t => lex_at r2 ([], 15) 0 w t (by unfold lq; rw [if_pos (by rw [← size_len]; exact h61)]) rfl)
  clear gy ly hr2 LYP h61
  clear t tt ha hn hok hy hm hr h60
  go_enter Tryd.func4, Tryd.ntmps4
  go_wp2_with fail
  with_reducible refine PR.out.mono ?_
  rintro _ w1 ⟨rfl, h1⟩
  have G1 := Lib.hid h1
  replace RA := Lib.hid (RA.out.later h1)
  clear h1 PR
  go_wp2_with fail
  with_reducible refine (LS.out _ (mks_grw G1.out HT.out)).mono ?_
  rintro _ v1 ⟨b1, d1, rfl, _, m1, j1⟩
  have H1 := Lib.hid (G1.out.trans j1)
  clear j1
  have M1 := Lib.hid m1
  clear m1
  go_wp2_with fail
  with_reducible refine (print_sg Y b1 d1 m r2 v1 (mks_grw H1.out HT.out) (tab_grw H1.out HTT.out) HM.out HM6.out M1.out GY.out HR2.out).mono ?_
  rintro _ v2 ⟨rfl, j2⟩
  have H2 := Lib.hid (H1.out.trans j2)
  replace M1 := Lib.hid (M1.out.later j2)
  clear j2
  go_wp2_with fail
  with_reducible refine (LR.out _ (mks_grw H2.out HT.out)).mono ?_
  rintro _ v3 ⟨b3, d3, rfl, _, m3, j3⟩
  have H3 := Lib.hid (H2.out.trans j3)
  replace M1 := Lib.hid (M1.out.later j3)
  clear j3 m3
  have WK := Lib.hid (wakes_any v3 (mks_grw H3.out HT.out) (tab_grw H3.out HTT.out))
  go_wp2_with fail
  with_reducible refine WK.out.mono ?_
  rintro _ v8 ⟨rfl, j8⟩
  go_wp2_with fail
  go_ret
  exact ⟨rfl, H3.out.trans j8⟩
set_option maxHeartbeats 4000000 in
set_option maxRecDepth 100000 in
theorem back_lex_long (l : List Zs) (ao : Option Addr) (ca n : Nat) (s : ByteArray) (w : World) (t : Mks w) (tt : Tab w) (ha : Lies w ao (cs l)) (hn : l.length = n) (hn2 : n ≤ 60) (hs : s.size ≤ 300) (r : ByteArray) (hok : l.all gz = true) (hr : r.data.toList = pr (l.map dn)) (h60 : r.size ≤ 60) (Y : List Sg) (m : Nat) (r2 : ByteArray) (hy : lq s.data.toList = (Y, 0)) (hm : Y.length = m) (hr2 : r2.data.toList = pr Y) (h61 : 60 < r2.size) :
    Calls Tryd.prog 4 #[.slice ao n ca, .string s] w fun e w' => e = .returned (.bool true) ∧ Grw w w' := by
  have z1 : ¬ (300 : Int) < (s.size : Int) := by omega
  have z2 : ¬ (60 : Int) < (n : Int) := by omega
  have z3 : decide ((300 : Int) < (s.size : Int)) = false := decide_eq_false z1
  have z4 : decide ((60 : Int) < (n : Int)) = false := decide_eq_false z2
  have HN := Lib.hid hn
  have PR := Lib.hid (print_is l ao ca n r true w t tt hn (by omega) ha hok.symm (by rw [hr]; rfl))
  have k1 : (r.size : Int) ≤ 60 := by omega
  have k2 : decide ((r.size : Int) ≤ 60) = true := decide_eq_true k1
  have LU := Lib.hid (all_up l hok).1
  have LA := Lib.hid (fun w t => lex_at r (l.map dn, 0) n w t (by rw [lq_short (by rw [← size_len]; exact h60), hr]; exact lx_pr _ (all_up l hok).2) (by rw [List.length_map]; exact hn))
  have HT := Lib.hid t
  have HTT := Lib.hid tt
  have RA := Lib.hid ha
  have LS := Lib.hid (fun w t => lex_at s (Y, 0) m w t hy hm)
  have HM := Lib.hid hm
  have gy := lq_good s.data.toList
  rw [hy] at gy
  have ly := lq_len s.data.toList
  rw [hy] at ly
  simp only at gy ly
  rw [hm] at ly
  have HM6 : Hid (m ≤ 1000000) := Lib.hid (by omega)
  have GY := Lib.hid gy
  have HR2 := Lib.hid hr2
  have LYP := lx_pr Y gy
  have u1 : (60 : Int) < (r2.size : Int) := by omega
  have u2 : decide ((60 : Int) < (r2.size : Int)) = true := decide_eq_true u1
  have LR := Lib.hid (fun w t => lex_at r2 ([], 15) 0 w t (by unfold lq; rw [if_pos (by rw [← size_len]; exact h61)]) rfl)
  clear gy ly hr2 LYP h61
  clear t tt ha hn hok hy hm hr h60
  go_enter Tryd.func4, Tryd.ntmps4
  go_wp2_with fail
  with_reducible refine PR.out.mono ?_
  rintro _ w1 ⟨rfl, h1⟩
  have G1 := Lib.hid h1
  replace RA := Lib.hid (RA.out.later h1)
  clear h1 PR
  go_wp2_with fail
  with_reducible refine (LA.out _ (mks_grw G1.out HT.out)).mono ?_
  rintro _ w2 ⟨a2, c2, rfl, _, l2, h2⟩
  have G2 := Lib.hid (G1.out.trans h2)
  have S1 := Lib.hid (signs_same a2 ao c2 ca n l w2 (by omega) HN.out (by rw [← LU.out]; exact l2) (RA.out.later h2))
  clear h2 l2
  go_wp2_with fail
  with_reducible refine S1.out.mono ?_
  rintro _ w3 ⟨rfl, h3⟩
  have G3 := Lib.hid (G2.out.trans h3)
  clear h3 S1
  go_wp2_with fail
  with_reducible refine (LS.out _ (mks_grw G3.out HT.out)).mono ?_
  rintro _ v1 ⟨b1, d1, rfl, _, m1, j1⟩
  have H1 := Lib.hid (G3.out.trans j1)
  clear j1
  have M1 := Lib.hid m1
  clear m1
  go_wp2_with fail
  with_reducible refine (print_sg Y b1 d1 m r2 v1 (mks_grw H1.out HT.out) (tab_grw H1.out HTT.out) HM.out HM6.out M1.out GY.out HR2.out).mono ?_
  rintro _ v2 ⟨rfl, j2⟩
  have H2 := Lib.hid (H1.out.trans j2)
  replace M1 := Lib.hid (M1.out.later j2)
  clear j2
  go_wp2_with fail
  with_reducible refine (LR.out _ (mks_grw H2.out HT.out)).mono ?_
  rintro _ v3 ⟨b3, d3, rfl, _, m3, j3⟩
  have H3 := Lib.hid (H2.out.trans j3)
  replace M1 := Lib.hid (M1.out.later j3)
  clear j3 m3
  have WK := Lib.hid (wakes_any v3 (mks_grw H3.out HT.out) (tab_grw H3.out HTT.out))
  go_wp2_with fail
  with_reducible refine WK.out.mono ?_
  rintro _ v8 ⟨rfl, j8⟩
  go_wp2_with fail
  go_ret
  exact ⟨rfl, H3.out.trans j8⟩
set_option maxHeartbeats 1000000 in
set_option maxRecDepth 100000 in
theorem back_over (l : List Zs) (ao : Option Addr) (ca n : Nat) (s : ByteArray) (w : World) (t : Mks w) (tt : Tab w) (h : 300 < s.size ∨ 60 < n) :
    Calls Tryd.prog 4 #[.slice ao n ca, .string s] w fun e w' => e = .returned (.bool true) ∧ Grw w w' := by
  have WK := Lib.hid (wakes_any w t tt)
  by_cases h1 : 300 < s.size
  · have z1 : (300 : Int) < (s.size : Int) := by omega
    have z3 : decide ((300 : Int) < (s.size : Int)) = true := decide_eq_true z1
    clear t tt h
    go_enter Tryd.func4, Tryd.ntmps4
    go_wp2_with fail
    with_reducible refine WK.out.mono ?_
    rintro _ v8 ⟨rfl, j8⟩
    go_wp2_with fail
    go_ret
    exact ⟨rfl, j8⟩
  · have h2 := h.resolve_left h1
    have z1 : ¬ (300 : Int) < (s.size : Int) := by omega
    have z3 : decide ((300 : Int) < (s.size : Int)) = false := decide_eq_false z1
    have z2 : (60 : Int) < (n : Int) := by omega
    have z4 : decide ((60 : Int) < (n : Int)) = true := decide_eq_true z2
    clear t tt h
    go_enter Tryd.func4, Tryd.ntmps4
    go_wp2_with fail
    with_reducible refine WK.out.mono ?_
    rintro _ v8 ⟨rfl, j8⟩
    go_wp2_with fail
    go_ret
    exact ⟨rfl, j8⟩

theorem back_walk (l : List Zs) (ao : Option Addr) (ca n : Nat) (s : ByteArray) (w : World) (t : Mks w) (tt : Tab w) (ha : Lies w ao (cs l)) (hn : l.length = n) :
    Calls Tryd.prog 4 #[.slice ao n ca, .string s] w fun e w' => e = .returned (.bool true) ∧ Grw w w' := by
  by_cases h : 300 < s.size ∨ 60 < n
  · exact back_over l ao ca n s w t tt h
  · have hs : s.size ≤ 300 := by omega
    have hn2 : n ≤ 60 := by omega
    obtain ⟨r, hr⟩ := ba_of (pr (l.map dn))
    obtain ⟨Y, hY⟩ : ∃ Y, (lq s.data.toList).1 = Y := ⟨_, rfl⟩
    obtain ⟨r2, hr2⟩ := ba_of (pr Y)
    by_cases y0 : (lq s.data.toList).2 = 0
    · have hy : lq s.data.toList = (Y, 0) := Prod.ext hY y0
      rcases ok : l.all gz with _ | _
      · by_cases h61 : r2.size ≤ 60
        · exact back_bad_same l ao ca n s w t tt ha hn hn2 hs ok Y _ r2 hy rfl hr2 h61
        · exact back_bad_long l ao ca n s w t tt ha hn hn2 hs ok Y _ r2 hy rfl hr2 (by omega)
      · by_cases h60 : r.size ≤ 60
        · by_cases h61 : r2.size ≤ 60
          · exact back_lex_same l ao ca n s w t tt ha hn hn2 hs r ok hr h60 Y _ r2 hy rfl hr2 h61
          · exact back_lex_long l ao ca n s w t tt ha hn hn2 hs r ok hr h60 Y _ r2 hy rfl hr2 (by omega)
        · by_cases h61 : r2.size ≤ 60
          · exact back_long_same l ao ca n s w t tt ha hn hn2 hs r ok hr (by omega) Y _ r2 hy rfl hr2 h61
          · exact back_long_long l ao ca n s w t tt ha hn hn2 hs r ok hr (by omega) Y _ r2 hy rfl hr2 (by omega)
    · have hy : lq s.data.toList = (Y, (lq s.data.toList).2) := Prod.ext hY rfl
      rcases ok : l.all gz with _ | _
      · exact back_bad_err l ao ca n s w t tt ha hn hn2 hs ok Y _ _ hy rfl y0
      · by_cases h60 : r.size ≤ 60
        · exact back_lex_err l ao ca n s w t tt ha hn hn2 hs r ok hr h60 Y _ _ hy rfl y0
        · exact back_long_err l ao ca n s w t tt ha hn hn2 hs r ok hr (by omega) Y _ _ hy rfl y0
end Go.Proofs.YtiocnagbcbhggaaDoor
