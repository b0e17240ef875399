/- The contract of lex.Lex at this program (written by tools/gen_lex.py). -/
import Derived.Test.YtiocnagbcbhggaaDoorLz
import Derived.WalkMore
import Derived.Lib.IndexBytes
namespace Go.Proofs.YtiocnagbcbhggaaDoor
open Go.RowKit SM
set_option linter.unusedSimpArgs false

set_option maxHeartbeats 8000000 in
set_option maxRecDepth 100000 in
theorem lex_short (s : ByteArray) (w : World) (t : Mks w) (hs : s.size ≤ 60) : Calls Tryd.prog 9 #[.string s] w (LexQ w s.data.toList) := by
  obtain ⟨i0, hi, hz0, hz1, hz2⟩ := info_parts Tryd.info35
  have HT := Lib.hid t
  have HS : Hid (s.data.toList.length ≤ 60) := (by rw [← size_len]; exact hs : s.data.toList.length ≤ 60)
  have hs' : ¬ (60 : Int) < s.size := by omega
  clear t
  go_enter Tryd.func9, Tryd.ntmps9
  go_wp2_with fail
  refine wp_scope_named 400 fun J hret hgo => ?_
  have R := Lib.hid hret
  have G := Lib.hid hgo
  clear hret hgo
  have DIG : Hid (∀ (M : Nat), (∀ (n : Nat) (acc : List Sg) (v : Value) (b : ByteArray) (w1 : World) (p q : Int) (u1 u8 u9 u10 u11 u12 u13 u14 u15 u16 u17 u18 u19 u20 u21 u22 u23 u24 u25 u26 u27 u28 u29 u30 u31 u32 u33 u34 u35 u36 u37 u38 u39 u40 u41 u42 u43 u44 u45 u46 u47 u48 u49 u50 u51 u52 u53 u54 u55 u56 u57 u58 u59 u60 u61 u62 u63 u64 u65 u66 u67 u68 u69 u70 u71 u72 u73 u74 u75 u76 u77 u78 u79 u80 u81 u82 u83 u84 u85 u86 : Value), b.size ≤ M → 4 * b.size + 8 ≤ n → acc.length + b.size ≤ 60 → lx s.data.toList = F acc (lx b.data.toList) → w1.ownsRow w.heap.size 35 2 v acc.length (cz acc) → Grw w w1 → J n (.goto 0) { tmps := List.toArray (.string s :: u1 :: .slice none 0 0 :: .int .i64 0 :: v :: .int .i64 p :: .int .i64 q :: .string b :: u8 :: u9 :: u10 :: u11 :: u12 :: u13 :: u14 :: u15 :: u16 :: u17 :: u18 :: u19 :: u20 :: u21 :: u22 :: u23 :: u24 :: u25 :: u26 :: u27 :: u28 :: u29 :: u30 :: u31 :: u32 :: u33 :: u34 :: u35 :: u36 :: u37 :: u38 :: u39 :: u40 :: u41 :: u42 :: u43 :: u44 :: u45 :: u46 :: u47 :: u48 :: u49 :: u50 :: u51 :: u52 :: u53 :: u54 :: u55 :: u56 :: u57 :: u58 :: u59 :: u60 :: u61 :: u62 :: u63 :: u64 :: u65 :: u66 :: u67 :: u68 :: u69 :: u70 :: u71 :: u72 :: u73 :: u74 :: u75 :: u76 :: u77 :: u78 :: u79 :: u80 :: u81 :: u82 :: u83 :: u84 :: u85 :: u86 :: []), defers := [] } w1) →
      ∀ (k n : Nat) (d : List UInt8) (acc : List Sg) (v : Value) (b : ByteArray) (w1 : World) (q : Int) (u1 u8 u9 u10 u11 u12 u13 u14 u15 u16 u17 u18 u19 u20 u21 u22 u23 u24 u25 u26 u27 u28 u29 u30 u31 u32 u33 u34 u35 u36 u37 u38 u39 u40 u41 u42 u43 u44 u45 u46 u47 u48 u49 u50 u51 u52 u53 u54 u55 u56 u57 u58 u59 u60 u61 u62 u63 u64 u65 u66 u67 u68 u69 u70 u71 u72 u73 u74 u75 u76 u77 u78 u79 u80 u81 u82 u83 u84 u85 u86 : Value), b.size ≤ k → b.size ≤ M + 1 → 4 * b.size + 7 ≤ n → acc.length + b.size ≤ 60 → (∃ c t, b.data.toList = c :: t ∧ isD c = true) → lx s.data.toList = F acc (Nd d b.data.toList) → w1.ownsRow w.heap.size 35 2 v acc.length (cz acc) → Grw w w1 →
      J n (.goto 2) { tmps := List.toArray (.string s :: u1 :: .slice none 0 0 :: .int .i64 0 :: v :: .int .i64 ((sat (maxN + 1) d : Nat) : Int) :: .int .i64 q :: .string b :: u8 :: u9 :: u10 :: u11 :: u12 :: u13 :: u14 :: u15 :: u16 :: u17 :: u18 :: u19 :: u20 :: u21 :: u22 :: u23 :: u24 :: u25 :: u26 :: u27 :: u28 :: u29 :: u30 :: u31 :: u32 :: u33 :: u34 :: u35 :: u36 :: u37 :: u38 :: u39 :: u40 :: u41 :: u42 :: u43 :: u44 :: u45 :: u46 :: u47 :: u48 :: u49 :: u50 :: u51 :: u52 :: u53 :: u54 :: u55 :: u56 :: u57 :: u58 :: u59 :: u60 :: u61 :: u62 :: u63 :: u64 :: u65 :: u66 :: u67 :: u68 :: u69 :: u70 :: u71 :: u72 :: u73 :: u74 :: u75 :: u76 :: u77 :: u78 :: u79 :: u80 :: u81 :: u82 :: u83 :: u84 :: u85 :: u86 :: []), defers := [] } w1) := by
    show (∀ (M : Nat), (∀ (n : Nat) (acc : List Sg) (v : Value) (b : ByteArray) (w1 : World) (p q : Int) (u1 u8 u9 u10 u11 u12 u13 u14 u15 u16 u17 u18 u19 u20 u21 u22 u23 u24 u25 u26 u27 u28 u29 u30 u31 u32 u33 u34 u35 u36 u37 u38 u39 u40 u41 u42 u43 u44 u45 u46 u47 u48 u49 u50 u51 u52 u53 u54 u55 u56 u57 u58 u59 u60 u61 u62 u63 u64 u65 u66 u67 u68 u69 u70 u71 u72 u73 u74 u75 u76 u77 u78 u79 u80 u81 u82 u83 u84 u85 u86 : Value), b.size ≤ M → 4 * b.size + 8 ≤ n → acc.length + b.size ≤ 60 → lx s.data.toList = F acc (lx b.data.toList) → w1.ownsRow w.heap.size 35 2 v acc.length (cz acc) → Grw w w1 → J n (.goto 0) { tmps := List.toArray (.string s :: u1 :: .slice none 0 0 :: .int .i64 0 :: v :: .int .i64 p :: .int .i64 q :: .string b :: u8 :: u9 :: u10 :: u11 :: u12 :: u13 :: u14 :: u15 :: u16 :: u17 :: u18 :: u19 :: u20 :: u21 :: u22 :: u23 :: u24 :: u25 :: u26 :: u27 :: u28 :: u29 :: u30 :: u31 :: u32 :: u33 :: u34 :: u35 :: u36 :: u37 :: u38 :: u39 :: u40 :: u41 :: u42 :: u43 :: u44 :: u45 :: u46 :: u47 :: u48 :: u49 :: u50 :: u51 :: u52 :: u53 :: u54 :: u55 :: u56 :: u57 :: u58 :: u59 :: u60 :: u61 :: u62 :: u63 :: u64 :: u65 :: u66 :: u67 :: u68 :: u69 :: u70 :: u71 :: u72 :: u73 :: u74 :: u75 :: u76 :: u77 :: u78 :: u79 :: u80 :: u81 :: u82 :: u83 :: u84 :: u85 :: u86 :: []), defers := [] } w1) →
      ∀ (k n : Nat) (d : List UInt8) (acc : List Sg) (v : Value) (b : ByteArray) (w1 : World) (q : Int) (u1 u8 u9 u10 u11 u12 u13 u14 u15 u16 u17 u18 u19 u20 u21 u22 u23 u24 u25 u26 u27 u28 u29 u30 u31 u32 u33 u34 u35 u36 u37 u38 u39 u40 u41 u42 u43 u44 u45 u46 u47 u48 u49 u50 u51 u52 u53 u54 u55 u56 u57 u58 u59 u60 u61 u62 u63 u64 u65 u66 u67 u68 u69 u70 u71 u72 u73 u74 u75 u76 u77 u78 u79 u80 u81 u82 u83 u84 u85 u86 : Value), b.size ≤ k → b.size ≤ M + 1 → 4 * b.size + 7 ≤ n → acc.length + b.size ≤ 60 → (∃ c t, b.data.toList = c :: t ∧ isD c = true) → lx s.data.toList = F acc (Nd d b.data.toList) → w1.ownsRow w.heap.size 35 2 v acc.length (cz acc) → Grw w w1 →
      J n (.goto 2) { tmps := List.toArray (.string s :: u1 :: .slice none 0 0 :: .int .i64 0 :: v :: .int .i64 ((sat (maxN + 1) d : Nat) : Int) :: .int .i64 q :: .string b :: u8 :: u9 :: u10 :: u11 :: u12 :: u13 :: u14 :: u15 :: u16 :: u17 :: u18 :: u19 :: u20 :: u21 :: u22 :: u23 :: u24 :: u25 :: u26 :: u27 :: u28 :: u29 :: u30 :: u31 :: u32 :: u33 :: u34 :: u35 :: u36 :: u37 :: u38 :: u39 :: u40 :: u41 :: u42 :: u43 :: u44 :: u45 :: u46 :: u47 :: u48 :: u49 :: u50 :: u51 :: u52 :: u53 :: u54 :: u55 :: u56 :: u57 :: u58 :: u59 :: u60 :: u61 :: u62 :: u63 :: u64 :: u65 :: u66 :: u67 :: u68 :: u69 :: u70 :: u71 :: u72 :: u73 :: u74 :: u75 :: u76 :: u77 :: u78 :: u79 :: u80 :: u81 :: u82 :: u83 :: u84 :: u85 :: u86 :: []), defers := [] } w1)
    intro M KM k
    replace KM := Lib.hid KM
    induction k with
    | zero =>
      intro n d acc v b w1 q u1 u8 u9 u10 u11 u12 u13 u14 u15 u16 u17 u18 u19 u20 u21 u22 u23 u24 u25 u26 u27 u28 u29 u30 u31 u32 u33 u34 u35 u36 u37 u38 u39 u40 u41 u42 u43 u44 u45 u46 u47 u48 u49 u50 u51 u52 u53 u54 u55 u56 u57 u58 u59 u60 u61 u62 u63 u64 u65 u66 u67 u68 u69 u70 u71 u72 u73 u74 u75 u76 u77 u78 u79 u80 u81 u82 u83 u84 u85 u86 h1 _ _ _ h5
      obtain ⟨c, t, h5, _⟩ := h5
      have := congrArg List.length h5
      rw [← size_len, List.length_cons] at this
      omega
    | succ k ih =>
      intro n d acc v b w1 q u1 u8 u9 u10 u11 u12 u13 u14 u15 u16 u17 u18 u19 u20 u21 u22 u23 u24 u25 u26 u27 u28 u29 u30 u31 u32 u33 u34 u35 u36 u37 u38 u39 u40 u41 u42 u43 u44 u45 u46 u47 u48 u49 u50 u51 u52 u53 u54 u55 u56 u57 u58 u59 u60 u61 u62 u63 u64 u65 u66 u67 u68 u69 u70 u71 u72 u73 u74 u75 u76 u77 u78 u79 u80 u81 u82 u83 u84 u85 u86 hk hM hn ha hcd hL ho hg
      obtain ⟨n, rfl⟩ : ∃ n', n = n' + 1 := ⟨n - 1, by omega⟩
      obtain ⟨c, t, hl, hd⟩ := hcd
      have IH := Lib.hid ih
      have O := Lib.hid ho
      have G1 := Lib.hid hg
      obtain ⟨h0, hc⟩ := at0 hl
      obtain ⟨b2, hb2⟩ := ba_of t
      have e3 : b.extract 1 b.size = b2 := ba_ext (by rw [Lib.extract_to_end, hl, hb2]; rfl)
      have hz2' : b2.size + 1 = b.size := by rw [size_len b, hl, List.length_cons, ← hb2, size_len]
      have k1 : (1 : Int) ≤ b.size := by omega
      have HA : Hid (acc.length ≤ 60) := (by omega : acc.length ≤ 60)
      have HA2 := Lib.hid ha
      rw [hl, Nd_step d c t hd, ← hb2] at hL
      have hcd := (isD_iff c).1 hd
      rw [← hc] at hcd
      obtain ⟨zz, hzz⟩ : ∃ zz, c.toNat - 48 = zz := ⟨_, rfl⟩
      have z1 : IntKind.u8.wrap ((b[0].toNat : Int) - 48) = (zz : Int) := by rw [← hzz, ← hc]; simp only [IntKind.wrap_u8]; omega
      have z2 : ((b[0].toNat : Int) - 48) % 256 = (zz : Int) := by rw [← hzz, ← hc]; omega
      have z3 : zz ≤ 9 := by rw [← hzz, ← hc]; omega
      have z4 : IntKind.i64.wrap (zz : Int) = zz := by simp only [IntKind.wrap_i64]; omega
      have hsn := sat_snoc (maxN + 1) d c
      rw [hzz] at hsn
      have hso := sat_over (d ++ [c])
      have hlim : sat (maxN + 1) d ≤ 2147483648 := by rw [sat_is]; unfold maxN; omega
      obtain ⟨x, hx⟩ : ∃ x, sat (maxN + 1) d = x := ⟨_, rfl⟩
      rw [hx] at hsn hlim
      rw [hx]
      obtain ⟨y, hy⟩ : ∃ y, sat (maxN + 1) (d ++ [c]) = y := ⟨_, rfl⟩
      rw [hy] at hsn hso
      have hsn' : y = min (10 * x + zz) 2147483648 := by rw [hsn]; unfold maxN; rfl
      have HY := Lib.hid hy
      have HN := Lib.hid (And.intro hsn' hso)
      clear hsn hx hy ho hg ih hcd hsn' hso
      have E5 : Hid (min (10 * (x : Int) + (((c.toNat : Nat) : Int) - 48) % 256) 2147483648 = (y : Int)) := (by have := HN.out.1; have h9 := z2; rw [hc] at h9; rw [h9]; omega : min (10 * (x : Int) + (((c.toNat : Nat) : Int) - 48) % 256) 2147483648 = (y : Int))
      clear z1 z2 z3 z4 hd hl hb2 hzz
      rcases hbd : bd b2.data.toList with _ | _
      · have D := Lib.hid (fun w => digit_is b2 false w hbd)
        rw [Nd_end _ _ hbd] at hL
        by_cases ov : maxN < nval (d ++ [c])
        · have A := Lib.hid (show lx s.data.toList = ([], 3) by rw [hL, if_pos ov, F_err _ _ _ (by decide)])
          have yy : (2147483647 : Int) < y := by have := HN.out.2.1.2 ov; unfold maxN at this; omega
          have yd : decide ((2147483647 : Int) < y) = true := decide_eq_true yy
          clear hL ov hbd
          refine G.out _ _ _ _ _ rfl ?_
          go_wp2_with fail
          rw [E5.out]
          refine (D.out _).mono ?_
          rintro _ w2 ⟨rfl, hw2⟩
          go_wp2_with fail
          refine R.out _ _ _ ?_
          go_ret2
          exact lexQ_err HS.out A.out (G1.out.trans hw2)
        · have yv : y = nval (d ++ [c]) := by rw [← HY.out]; exact (sat_over (d ++ [c])).2 (by omega)
          have A := Lib.hid (show lx s.data.toList = F (acc ++ [⟨1, y⟩]) (lx b2.data.toList) by rw [hL, if_neg ov, F_F, yv])
          have yy : ¬ (2147483647 : Int) < y := by rw [yv]; unfold maxN at ov; omega
          have yd : decide ((2147483647 : Int) < y) = false := decide_eq_false yy
          clear hL ov hbd yv
          refine G.out _ _ _ _ _ rfl ?_
          go_wp2_with fail
          rw [E5.out]
          refine (D.out _).mono ?_
          rintro _ w2 ⟨rfl, hw2⟩
          replace O := Lib.hid (own_later O.out hw2)
          replace G1 := Lib.hid (G1.out.trans hw2)
          clear hw2
          have O3 := Lib.hid (World.ownsRow.alloc O.out (.cells #[.int .i64 ((1 : Nat) : Int), .int .i64 ((y : Nat) : Int)] 35))
          have D1 := Lib.hid (one_sg w2 1 y)
          have D2 := Lib.hid (cz_one [⟨1, y⟩])
          have GB := Lib.hid (Below.size G1.out)
          go_wp2_with (at_builtin; refine wpList_append_own _ rfl _ _ 22 rfl w.heap.size 35 i0 _ 2 16 Tryd.underlying22 hi hz0 hz1 hz2 rfl (by decide) _ _ _ rfl O3.out ⟨w2.heap.size, 0, none⟩ 1 1 (cz [⟨1, y⟩]) rfl rfl (by simpa using D1.out) D2.out (by have := HA.out; unfold maxLen; omega) (by have := HA.out; omega) (by have := GB.out; simp only [size_new]; omega) ?_)
          intro v' w4 hown' hgrow _
          have hown2 : w4.ownsRow w.heap.size 35 2 v' (acc ++ [⟨1, y⟩] : List Sg).length (cz (acc ++ [⟨1, y⟩])) := by rw [cz_app, List.length_append]; exact hown'
          have G4 := Lib.hid (grown_own O3.out (G1.out.alloc (.cells #[.int .i64 ((1 : Nat) : Int), .int .i64 ((y : Nat) : Int)] 35)) hgrow)
          have O4 := Lib.hid hown2
          clear hown' hgrow hown2 O3 D1 D2 GB
          go_wp2_with fail
          go_step3
          exact KM.out _ (acc ++ [⟨1, y⟩]) v' b2 w4 _ _ _ _ _ _ _ _ _ _ _ _ _ _ _ _ _ _ _ _ _ _ _ _ _ _ _ _ _ _ _ _ _ _ _ _ _ _ _ _ _ _ _ _ _ _ _ _ _ _ _ _ _ _ _ _ _ _ _ _ _ _ _ _ _ _ _ _ _ _ _ _ _ _ _ _ _ _ _ _ _ _ (by omega) (by omega) (by have := HA2.out; simp only [List.length_append, List.length_cons, List.length_nil]; omega) A.out O4.out G4.out
      · have D := Lib.hid (fun w => digit_is b2 true w hbd)
        have FD : Hid (∃ c t, b2.data.toList = c :: t ∧ isD c = true) := Lib.hid (by
          rcases hx : b2.data.toList with _ | ⟨c', t'⟩
          · rw [hx] at hbd; cases hbd
          · rw [hx] at hbd; exact ⟨c', t', rfl, hbd⟩)
        have A := Lib.hid hL
        clear hL hbd
        refine G.out _ _ _ _ _ rfl ?_
        go_wp2_with fail
        rw [E5.out]
        refine (D.out _).mono ?_
        rintro _ w2 ⟨rfl, hw2⟩
        replace O := Lib.hid (own_later O.out hw2)
        replace G1 := Lib.hid (G1.out.trans hw2)
        clear hw2
        go_wp2_with fail
        go_step3
        rw [← HY.out]
        exact IH.out _ (d ++ [c]) acc v b2 w2 q _ _ _ _ _ _ _ _ _ _ _ _ _ _ _ _ _ _ _ _ _ _ _ _ _ _ _ _ _ _ _ _ _ _ _ _ _ _ _ _ _ _ _ _ _ _ _ _ _ _ _ _ _ _ _ _ _ _ _ _ _ _ _ _ _ _ _ _ _ _ _ _ _ _ _ _ _ _ _ _ (by omega) (by omega) (by omega) (by have := HA2.out; omega) FD.out A.out O.out G1.out
  have KEY : Hid (∀ (m : Nat), ∀ (n : Nat) (acc : List Sg) (v : Value) (b : ByteArray) (w1 : World) (p q : Int) (u1 u8 u9 u10 u11 u12 u13 u14 u15 u16 u17 u18 u19 u20 u21 u22 u23 u24 u25 u26 u27 u28 u29 u30 u31 u32 u33 u34 u35 u36 u37 u38 u39 u40 u41 u42 u43 u44 u45 u46 u47 u48 u49 u50 u51 u52 u53 u54 u55 u56 u57 u58 u59 u60 u61 u62 u63 u64 u65 u66 u67 u68 u69 u70 u71 u72 u73 u74 u75 u76 u77 u78 u79 u80 u81 u82 u83 u84 u85 u86 : Value), b.size ≤ m → 4 * b.size + 8 ≤ n → acc.length + b.size ≤ 60 → lx s.data.toList = F acc (lx b.data.toList) → w1.ownsRow w.heap.size 35 2 v acc.length (cz acc) → Grw w w1 → J n (.goto 0) { tmps := List.toArray (.string s :: u1 :: .slice none 0 0 :: .int .i64 0 :: v :: .int .i64 p :: .int .i64 q :: .string b :: u8 :: u9 :: u10 :: u11 :: u12 :: u13 :: u14 :: u15 :: u16 :: u17 :: u18 :: u19 :: u20 :: u21 :: u22 :: u23 :: u24 :: u25 :: u26 :: u27 :: u28 :: u29 :: u30 :: u31 :: u32 :: u33 :: u34 :: u35 :: u36 :: u37 :: u38 :: u39 :: u40 :: u41 :: u42 :: u43 :: u44 :: u45 :: u46 :: u47 :: u48 :: u49 :: u50 :: u51 :: u52 :: u53 :: u54 :: u55 :: u56 :: u57 :: u58 :: u59 :: u60 :: u61 :: u62 :: u63 :: u64 :: u65 :: u66 :: u67 :: u68 :: u69 :: u70 :: u71 :: u72 :: u73 :: u74 :: u75 :: u76 :: u77 :: u78 :: u79 :: u80 :: u81 :: u82 :: u83 :: u84 :: u85 :: u86 :: []), defers := [] } w1) := by
    show (∀ (m : Nat), ∀ (n : Nat) (acc : List Sg) (v : Value) (b : ByteArray) (w1 : World) (p q : Int) (u1 u8 u9 u10 u11 u12 u13 u14 u15 u16 u17 u18 u19 u20 u21 u22 u23 u24 u25 u26 u27 u28 u29 u30 u31 u32 u33 u34 u35 u36 u37 u38 u39 u40 u41 u42 u43 u44 u45 u46 u47 u48 u49 u50 u51 u52 u53 u54 u55 u56 u57 u58 u59 u60 u61 u62 u63 u64 u65 u66 u67 u68 u69 u70 u71 u72 u73 u74 u75 u76 u77 u78 u79 u80 u81 u82 u83 u84 u85 u86 : Value), b.size ≤ m → 4 * b.size + 8 ≤ n → acc.length + b.size ≤ 60 → lx s.data.toList = F acc (lx b.data.toList) → w1.ownsRow w.heap.size 35 2 v acc.length (cz acc) → Grw w w1 → J n (.goto 0) { tmps := List.toArray (.string s :: u1 :: .slice none 0 0 :: .int .i64 0 :: v :: .int .i64 p :: .int .i64 q :: .string b :: u8 :: u9 :: u10 :: u11 :: u12 :: u13 :: u14 :: u15 :: u16 :: u17 :: u18 :: u19 :: u20 :: u21 :: u22 :: u23 :: u24 :: u25 :: u26 :: u27 :: u28 :: u29 :: u30 :: u31 :: u32 :: u33 :: u34 :: u35 :: u36 :: u37 :: u38 :: u39 :: u40 :: u41 :: u42 :: u43 :: u44 :: u45 :: u46 :: u47 :: u48 :: u49 :: u50 :: u51 :: u52 :: u53 :: u54 :: u55 :: u56 :: u57 :: u58 :: u59 :: u60 :: u61 :: u62 :: u63 :: u64 :: u65 :: u66 :: u67 :: u68 :: u69 :: u70 :: u71 :: u72 :: u73 :: u74 :: u75 :: u76 :: u77 :: u78 :: u79 :: u80 :: u81 :: u82 :: u83 :: u84 :: u85 :: u86 :: []), defers := [] } w1)
    intro m
    induction m using Nat.strongRecOn with
    | ind m ih =>
      intro n acc v b w1 p q u1 u8 u9 u10 u11 u12 u13 u14 u15 u16 u17 u18 u19 u20 u21 u22 u23 u24 u25 u26 u27 u28 u29 u30 u31 u32 u33 u34 u35 u36 u37 u38 u39 u40 u41 u42 u43 u44 u45 u46 u47 u48 u49 u50 u51 u52 u53 u54 u55 u56 u57 u58 u59 u60 u61 u62 u63 u64 u65 u66 u67 u68 u69 u70 u71 u72 u73 u74 u75 u76 u77 u78 u79 u80 u81 u82 u83 u84 u85 u86 hm hn ha hL ho hg
      obtain ⟨n, rfl⟩ : ∃ n', n = n' + 3 := ⟨n - 3, by omega⟩
      have O := Lib.hid ho
      have G1 := Lib.hid hg
      have HA : Hid (acc.length + b.size ≤ 60) := ha
      clear ho hg ha
      obtain ⟨b1, hb1⟩ := ba_of (trm b.data.toList)
      have T := Lib.hid (fun w => trim_is b b1 w hb1)
      have hz1' : b1.size ≤ b.size := by rw [size_len, hb1, size_len]; exact trm_len _
      have hL1 : lx s.data.toList = F acc (lx b1.data.toList) := by rw [hb1, lx_trm]; exact hL
      have hsp : b1.data.toList.head? ≠ some 32 := by rw [hb1]; exact trm_head _
      clear hb1 hL
      rcases hl : b1.data.toList with _ | ⟨c, t⟩
      · obtain ⟨e1, e2⟩ := emp_yes hl
        have A := Lib.hid (show lx s.data.toList = (acc, 0) by rw [hL1, hl, lx_nil, F_ok, List.append_nil])
        clear hl hL1 hsp
        refine G.out _ _ _ _ _ rfl ?_
        go_wp2_with fail
        refine (T.out _).mono ?_
        rintro _ _ ⟨rfl, rfl⟩
        clear T
        go_wp2_with fail
        refine R.out _ _ _ ?_
        go_ret2
        exact lexQ_ok HS.out A.out O.out G1.out
      · obtain ⟨e1, e2⟩ := emp_no (s := b1) (by rw [hl]; simp)
        obtain ⟨h0, hc⟩ := at0 hl
        obtain ⟨b2, hb2⟩ := ba_of t
        have e3 : b1.extract 1 b1.size = b2 := ba_ext (by rw [Lib.extract_to_end, hl, hb2]; rfl)
        have hz2' : b2.size + 1 = b1.size := by rw [size_len b1, hl, List.length_cons, ← hb2, size_len]
        have k1 : (1 : Int) ≤ b1.size := by omega
        have h32 : c ≠ 32 := fun e => hsp (by rw [hl, e]; rfl)
        rw [hl] at hL1
        clear hsp
        by_cases c48 : c = 48
        · subst c48
          have t1 : ((b1[0].toNat : Int) == 48) = true := by rw [hc]; rfl
          rw [lx_zero, ← hb2] at hL1
          rcases hbd : bd b2.data.toList with _ | _
          · have D := Lib.hid (fun w => digit_is b2 false w hbd)
            have A := Lib.hid (show lx s.data.toList = F (acc ++ [⟨1, 0⟩]) (lx b2.data.toList) by rw [hL1, hbd, if_neg (by simp), F_F])
            clear hL1 hbd hl hc hb2
            refine G.out _ _ _ _ _ rfl ?_
            go_wp2_with fail
            refine (T.out _).mono ?_
            rintro _ _ ⟨rfl, rfl⟩
            clear T
            go_wp2_with fail
            go_step3
            refine G.out _ _ _ _ _ rfl ?_
            go_wp2_with fail
            refine (D.out _).mono ?_
            rintro _ w2 ⟨rfl, hw2⟩
            replace O := Lib.hid (own_later O.out hw2)
            replace G1 := Lib.hid (G1.out.trans hw2)
            clear hw2
            have O3 := Lib.hid (World.ownsRow.alloc O.out (.cells #[.int .i64 ((1 : Nat) : Int), .int .i64 ((0 : Nat) : Int)] 35))
            have D1 := Lib.hid (one_sg w2 1 0)
            have D2 := Lib.hid (cz_one [⟨1, 0⟩])
            have GB := Lib.hid (Below.size G1.out)
            go_wp2_with (at_builtin; refine wpList_append_own _ rfl _ _ 22 rfl w.heap.size 35 i0 _ 2 16 Tryd.underlying22 hi hz0 hz1 hz2 rfl (by decide) _ _ _ rfl O3.out ⟨w2.heap.size, 0, none⟩ 1 1 (cz [⟨1, 0⟩]) rfl rfl (by simpa using D1.out) D2.out (by have := HA.out; unfold maxLen; omega) (by have := HA.out; omega) (by have := GB.out; simp only [size_new]; omega) ?_)
            intro v' w4 hown' hgrow _
            have hown2 : w4.ownsRow w.heap.size 35 2 v' (acc ++ [⟨1, 0⟩] : List Sg).length (cz (acc ++ [⟨1, 0⟩])) := by rw [cz_app, List.length_append]; exact hown'
            have G4 := Lib.hid (grown_own O3.out (G1.out.alloc (.cells #[.int .i64 ((1 : Nat) : Int), .int .i64 ((0 : Nat) : Int)] 35)) hgrow)
            have O4 := Lib.hid hown2
            clear hown' hgrow hown2 O3 D1 D2 GB
            go_wp2_with fail
            go_step3
            exact ih (m - 1) (by omega) _ (acc ++ [⟨1, 0⟩]) v' b2 w4 _ _ _ _ _ _ _ _ _ _ _ _ _ _ _ _ _ _ _ _ _ _ _ _ _ _ _ _ _ _ _ _ _ _ _ _ _ _ _ _ _ _ _ _ _ _ _ _ _ _ _ _ _ _ _ _ _ _ _ _ _ _ _ _ _ _ _ _ _ _ _ _ _ _ _ _ _ _ _ _ _ _ (by omega) (by omega) (by have := HA.out; simp only [List.length_append, List.length_cons, List.length_nil]; omega) A.out O4.out G4.out
          · have D := Lib.hid (fun w => digit_is b2 true w hbd)
            have A := Lib.hid (show lx s.data.toList = ([], 2) by rw [hL1, hbd, if_pos rfl, F_err _ _ _ (by decide)])
            clear hL1 hbd hl hc hb2
            refine G.out _ _ _ _ _ rfl ?_
            go_wp2_with fail
            refine (T.out _).mono ?_
            rintro _ _ ⟨rfl, rfl⟩
            clear T
            go_wp2_with fail
            go_step3
            refine G.out _ _ _ _ _ rfl ?_
            go_wp2_with fail
            refine (D.out _).mono ?_
            rintro _ w2 ⟨rfl, hw2⟩
            go_wp2_with fail
            go_step3
            refine G.out _ _ _ _ _ rfl ?_
            go_wp2_with fail
            refine R.out _ _ _ ?_
            go_ret2
            exact lexQ_err HS.out A.out (G1.out.trans hw2)
        · have t1 : ((b1[0].toNat : Int) == 48) = false := by rw [hc, Bool.eq_false_iff]; intro e; exact c48 ((uni c 48).1 (eq_of_beq e))
          have hbd : bd b1.data.toList = isD c := by rw [hl]; rfl
          rcases hd : isD c with _ | _
          · rw [hd] at hbd
            have D := Lib.hid (fun w => digit_is b1 false w hbd)
            rcases hle : isL c with _ | _
            · rw [lx_mark c t h32 hle hd, ← hl] at hL1
              obtain ⟨kk, hkk⟩ : ∃ kk, op b1.data.toList = kk := ⟨_, rfl⟩
              have MO := Lib.hid (fun w (t : Mks w) => markOf_is b1 kk w t hkk)
              have nl : ¬ (97 ≤ b1[0].toNat ∧ b1[0].toNat ≤ 122) := fun e => by rw [hc] at e; unfold isL at hle; simp at hle; omega
              by_cases k0 : kk = 0
              · subst k0
                have A := Lib.hid (show lx s.data.toList = ([], 2) by rw [hL1, hkk, if_pos rfl, F_err _ _ _ (by decide)])
                have IM := Lib.hid (fun w (t : Mks w) => isMark_out 0 w t (by omega))
                clear hL1 hkk hl hc hb2 hle hd hbd
                by_cases n1 : 97 ≤ b1[0].toNat
                · have n2 : ¬ b1[0].toNat ≤ 122 := fun e => nl ⟨n1, e⟩
                  have n3 : decide ((97 : Int) ≤ (b1[0].toNat : Int)) = true := decide_eq_true (by omega)
                  have n4 : decide ((b1[0].toNat : Int) ≤ 122) = false := decide_eq_false (by omega)
                  clear nl
                  refine G.out _ _ _ _ _ rfl ?_
                  go_wp2_with fail
                  refine (T.out _).mono ?_
                  rintro _ _ ⟨rfl, rfl⟩
                  clear T
                  go_wp2_with fail
                  refine (D.out _).mono ?_
                  rintro _ w2 ⟨rfl, hw2⟩
                  replace O := Lib.hid (own_later O.out hw2)
                  replace G1 := Lib.hid (G1.out.trans hw2)
                  clear hw2 D
                  go_wp2_with fail
                  go_step3
                  refine G.out _ _ _ _ _ rfl ?_
                  go_wp2_with fail
                  refine (MO.out _ (mks_grw G1.out HT.out)).mono ?_
                  rintro _ w3 ⟨rfl, hw3⟩
                  replace O := Lib.hid (own_later O.out hw3)
                  replace G1 := Lib.hid (G1.out.trans hw3)
                  clear hw3 MO
                  go_wp2_with fail
                  refine (IM.out _ (mks_grw G1.out HT.out)).mono ?_
                  rintro _ w5 ⟨rfl, hw5⟩
                  go_wp2_with fail
                  go_step3
                  refine G.out _ _ _ _ _ rfl ?_
                  go_wp2_with fail
                  refine R.out _ _ _ ?_
                  go_ret2
                  exact lexQ_err HS.out A.out (G1.out.trans hw5)
                · have n3 : decide ((97 : Int) ≤ (b1[0].toNat : Int)) = false := decide_eq_false (by omega)
                  clear nl
                  refine G.out _ _ _ _ _ rfl ?_
                  go_wp2_with fail
                  refine (T.out _).mono ?_
                  rintro _ _ ⟨rfl, rfl⟩
                  clear T
                  go_wp2_with fail
                  refine (D.out _).mono ?_
                  rintro _ w2 ⟨rfl, hw2⟩
                  replace O := Lib.hid (own_later O.out hw2)
                  replace G1 := Lib.hid (G1.out.trans hw2)
                  clear hw2 D
                  go_wp2_with fail
                  go_step3
                  refine G.out _ _ _ _ _ rfl ?_
                  go_wp2_with fail
                  refine (MO.out _ (mks_grw G1.out HT.out)).mono ?_
                  rintro _ w3 ⟨rfl, hw3⟩
                  replace O := Lib.hid (own_later O.out hw3)
                  replace G1 := Lib.hid (G1.out.trans hw3)
                  clear hw3 MO
                  go_wp2_with fail
                  refine (IM.out _ (mks_grw G1.out HT.out)).mono ?_
                  rintro _ w5 ⟨rfl, hw5⟩
                  go_wp2_with fail
                  go_step3
                  refine G.out _ _ _ _ _ rfl ?_
                  go_wp2_with fail
                  refine R.out _ _ _ ?_
                  go_ret2
                  exact lexQ_err HS.out A.out (G1.out.trans hw5)
              · have kin := (op_in b1.data.toList).resolve_left (by rw [hkk]; exact k0)
                have kpre := op_pre b1.data.toList (by rw [hkk]; exact k0)
                rw [hkk] at kin kpre
                obtain ⟨b3, hb3⟩ := ba_of (b1.data.toList.drop (tx ⟨kk, 0⟩).length)
                have A := Lib.hid (show lx s.data.toList = F (acc ++ [⟨kk, 0⟩]) (lx b3.data.toList) by rw [hL1, hkk, if_neg k0, F_F, hb3])
                have IM := Lib.hid (fun w (t : Mks w) => isMark_in kk w t kin)
                have CM := Lib.hid (fun w (t : Mks w) => mks_cell t (show kk < 19 by omega))
                have e4 : b1.extract (mb kk).size b1.size = b3 := ba_ext (by rw [Lib.extract_to_end, hb3, mb_size, kpre.2.1])
                have k2 : ((mb kk).size : Int) ≤ b1.size := by rw [mb_size, size_len]; have := kpre.1; omega
                have hz3' : b3.size + 1 ≤ b1.size := by
                  have h1 : b3.size = b1.size - (tx ⟨kk, 0⟩).length := by rw [size_len, hb3, List.length_drop, ← size_len]
                  have h2 := kpre.2
                  have h3 := kpre.1
                  rw [← size_len] at h3
                  omega
                have kl : kk < 19 := by omega
                clear hL1 hkk hl hc hb2 hb3 hle hd hbd kpre kin e3 hz2'
                generalize mb kk = mm at *
                by_cases n1 : 97 ≤ b1[0].toNat
                · have n2 : ¬ b1[0].toNat ≤ 122 := fun e => nl ⟨n1, e⟩
                  have n3 : decide ((97 : Int) ≤ (b1[0].toNat : Int)) = true := decide_eq_true (by omega)
                  have n4 : decide ((b1[0].toNat : Int) ≤ 122) = false := decide_eq_false (by omega)
                  clear nl
                  refine G.out _ _ _ _ _ rfl ?_
                  go_wp2_with fail
                  refine (T.out _).mono ?_
                  rintro _ _ ⟨rfl, rfl⟩
                  clear T
                  go_wp2_with fail
                  refine (D.out _).mono ?_
                  rintro _ w2 ⟨rfl, hw2⟩
                  replace O := Lib.hid (own_later O.out hw2)
                  replace G1 := Lib.hid (G1.out.trans hw2)
                  clear hw2 D
                  go_wp2_with fail
                  go_step3
                  refine G.out _ _ _ _ _ rfl ?_
                  go_wp2_with fail
                  refine (MO.out _ (mks_grw G1.out HT.out)).mono ?_
                  rintro _ w3 ⟨rfl, hw3⟩
                  replace O := Lib.hid (own_later O.out hw3)
                  replace G1 := Lib.hid (G1.out.trans hw3)
                  clear hw3 MO
                  go_wp2_with fail
                  refine (IM.out _ (mks_grw G1.out HT.out)).mono ?_
                  rintro _ w5 ⟨rfl, hw5⟩
                  replace O := Lib.hid (own_later O.out hw5)
                  replace G1 := Lib.hid (G1.out.trans hw5)
                  clear hw5 IM
                  have O3 := Lib.hid (World.ownsRow.alloc O.out (.cells #[.int .i64 ((kk : Nat) : Int), .int .i64 ((0 : Nat) : Int)] 35))
                  have D1 := Lib.hid (one_sg w5 kk 0)
                  have D2 := Lib.hid (cz_one [⟨kk, 0⟩])
                  have GB := Lib.hid (Below.size G1.out)
                  go_wp2_with (at_builtin; refine wpList_append_own _ rfl _ _ 22 rfl w.heap.size 35 i0 _ 2 16 Tryd.underlying22 hi hz0 hz1 hz2 rfl (by decide) _ _ _ rfl O3.out ⟨w5.heap.size, 0, none⟩ 1 1 (cz [⟨kk, 0⟩]) rfl rfl (by simpa using D1.out) D2.out (by have := HA.out; unfold maxLen; omega) (by have := HA.out; omega) (by have := GB.out; simp only [size_new]; omega) ?_)
                  intro v' w4 hown' hgrow _
                  have hown2 : w4.ownsRow w.heap.size 35 2 v' (acc ++ [⟨kk, 0⟩] : List Sg).length (cz (acc ++ [⟨kk, 0⟩])) := by rw [cz_app, List.length_append]; exact hown'
                  have G4 := Lib.hid (grown_own O3.out (G1.out.alloc (.cells #[.int .i64 ((kk : Nat) : Int), .int .i64 ((0 : Nat) : Int)] 35)) hgrow)
                  have O4 := Lib.hid hown2
                  clear hown' hgrow hown2 O3 D1 D2 GB
                  have cc := CM.out _ (mks_grw G4.out HT.out)
                  clear CM
                  go_wp2_with fail
                  go_step3
                  exact ih (m - 1) (by omega) _ (acc ++ [⟨kk, 0⟩]) v' b3 w4 _ _ _ _ _ _ _ _ _ _ _ _ _ _ _ _ _ _ _ _ _ _ _ _ _ _ _ _ _ _ _ _ _ _ _ _ _ _ _ _ _ _ _ _ _ _ _ _ _ _ _ _ _ _ _ _ _ _ _ _ _ _ _ _ _ _ _ _ _ _ _ _ _ _ _ _ _ _ _ _ _ _ (by omega) (by omega) (by have := HA.out; simp only [List.length_append, List.length_cons, List.length_nil]; omega) A.out O4.out G4.out
                · have n3 : decide ((97 : Int) ≤ (b1[0].toNat : Int)) = false := decide_eq_false (by omega)
                  clear nl
                  refine G.out _ _ _ _ _ rfl ?_
                  go_wp2_with fail
                  refine (T.out _).mono ?_
                  rintro _ _ ⟨rfl, rfl⟩
                  clear T
                  go_wp2_with fail
                  refine (D.out _).mono ?_
                  rintro _ w2 ⟨rfl, hw2⟩
                  replace O := Lib.hid (own_later O.out hw2)
                  replace G1 := Lib.hid (G1.out.trans hw2)
                  clear hw2 D
                  go_wp2_with fail
                  go_step3
                  refine G.out _ _ _ _ _ rfl ?_
                  go_wp2_with fail
                  refine (MO.out _ (mks_grw G1.out HT.out)).mono ?_
                  rintro _ w3 ⟨rfl, hw3⟩
                  replace O := Lib.hid (own_later O.out hw3)
                  replace G1 := Lib.hid (G1.out.trans hw3)
                  clear hw3 MO
                  go_wp2_with fail
                  refine (IM.out _ (mks_grw G1.out HT.out)).mono ?_
                  rintro _ w5 ⟨rfl, hw5⟩
                  replace O := Lib.hid (own_later O.out hw5)
                  replace G1 := Lib.hid (G1.out.trans hw5)
                  clear hw5 IM
                  have O3 := Lib.hid (World.ownsRow.alloc O.out (.cells #[.int .i64 ((kk : Nat) : Int), .int .i64 ((0 : Nat) : Int)] 35))
                  have D1 := Lib.hid (one_sg w5 kk 0)
                  have D2 := Lib.hid (cz_one [⟨kk, 0⟩])
                  have GB := Lib.hid (Below.size G1.out)
                  go_wp2_with (at_builtin; refine wpList_append_own _ rfl _ _ 22 rfl w.heap.size 35 i0 _ 2 16 Tryd.underlying22 hi hz0 hz1 hz2 rfl (by decide) _ _ _ rfl O3.out ⟨w5.heap.size, 0, none⟩ 1 1 (cz [⟨kk, 0⟩]) rfl rfl (by simpa using D1.out) D2.out (by have := HA.out; unfold maxLen; omega) (by have := HA.out; omega) (by have := GB.out; simp only [size_new]; omega) ?_)
                  intro v' w4 hown' hgrow _
                  have hown2 : w4.ownsRow w.heap.size 35 2 v' (acc ++ [⟨kk, 0⟩] : List Sg).length (cz (acc ++ [⟨kk, 0⟩])) := by rw [cz_app, List.length_append]; exact hown'
                  have G4 := Lib.hid (grown_own O3.out (G1.out.alloc (.cells #[.int .i64 ((kk : Nat) : Int), .int .i64 ((0 : Nat) : Int)] 35)) hgrow)
                  have O4 := Lib.hid hown2
                  clear hown' hgrow hown2 O3 D1 D2 GB
                  have cc := CM.out _ (mks_grw G4.out HT.out)
                  clear CM
                  go_wp2_with fail
                  go_step3
                  exact ih (m - 1) (by omega) _ (acc ++ [⟨kk, 0⟩]) v' b3 w4 _ _ _ _ _ _ _ _ _ _ _ _ _ _ _ _ _ _ _ _ _ _ _ _ _ _ _ _ _ _ _ _ _ _ _ _ _ _ _ _ _ _ _ _ _ _ _ _ _ _ _ _ _ _ _ _ _ _ _ _ _ _ _ _ _ _ _ _ _ _ _ _ _ _ _ _ _ _ _ _ _ _ (by omega) (by omega) (by have := HA.out; simp only [List.length_append, List.length_cons, List.length_nil]; omega) A.out O4.out G4.out
            · rw [lx_letter c t hle, ← hb2] at hL1
              have nl : 97 ≤ b1[0].toNat ∧ b1[0].toNat ≤ 122 := by rw [hc]; unfold isL at hle; simp at hle; omega
              have n3 : decide ((97 : Int) ≤ (b1[0].toNat : Int)) = true := decide_eq_true (by omega)
              have n4 : decide ((b1[0].toNat : Int) ≤ 122) = true := decide_eq_true (by omega)
              obtain ⟨zz, hzz⟩ : ∃ zz, c.toNat - 97 = zz := ⟨_, rfl⟩
              have A := Lib.hid (show lx s.data.toList = F (acc ++ [⟨2, zz⟩]) (lx b2.data.toList) by rw [hL1, F_F, hzz])
              have z1 : IntKind.u8.wrap ((b1[0].toNat : Int) - 97) = (zz : Int) := by rw [← hzz, ← hc]; simp only [IntKind.wrap_u8]; omega
              have z2 : ((b1[0].toNat : Int) - 97) % 256 = (zz : Int) := by rw [← hzz, ← hc]; omega
              have z3 : zz ≤ 25 := by rw [← hzz, ← hc]; omega
              have z4 : IntKind.i64.wrap (zz : Int) = zz := by simp only [IntKind.wrap_i64]; omega
              clear hL1 hl hc hb2 hle hd hbd nl hzz
              refine G.out _ _ _ _ _ rfl ?_
              go_wp2_with fail
              refine (T.out _).mono ?_
              rintro _ _ ⟨rfl, rfl⟩
              clear T
              go_wp2_with fail
              refine (D.out _).mono ?_
              rintro _ w2 ⟨rfl, hw2⟩
              replace O := Lib.hid (own_later O.out hw2)
              replace G1 := Lib.hid (G1.out.trans hw2)
              clear hw2 D
              go_wp2_with fail
              go_step3
              refine G.out _ _ _ _ _ rfl ?_
              have O3 := Lib.hid (World.ownsRow.alloc O.out (.cells #[.int .i64 ((2 : Nat) : Int), .int .i64 ((zz : Nat) : Int)] 35))
              have D1 := Lib.hid (one_sg w2 2 zz)
              have D2 := Lib.hid (cz_one [⟨2, zz⟩])
              have GB := Lib.hid (Below.size G1.out)
              go_wp2_with (at_builtin; refine wpList_append_own _ rfl _ _ 22 rfl w.heap.size 35 i0 _ 2 16 Tryd.underlying22 hi hz0 hz1 hz2 rfl (by decide) _ _ _ rfl O3.out ⟨w2.heap.size, 0, none⟩ 1 1 (cz [⟨2, zz⟩]) rfl rfl (by simpa using D1.out) D2.out (by have := HA.out; unfold maxLen; omega) (by have := HA.out; omega) (by have := GB.out; simp only [size_new]; omega) ?_)
              intro v' w4 hown' hgrow _
              have hown2 : w4.ownsRow w.heap.size 35 2 v' (acc ++ [⟨2, zz⟩] : List Sg).length (cz (acc ++ [⟨2, zz⟩])) := by rw [cz_app, List.length_append]; exact hown'
              have G4 := Lib.hid (grown_own O3.out (G1.out.alloc (.cells #[.int .i64 ((2 : Nat) : Int), .int .i64 ((zz : Nat) : Int)] 35)) hgrow)
              have O4 := Lib.hid hown2
              clear hown' hgrow hown2 O3 D1 D2 GB
              go_wp2_with fail
              go_step3
              exact ih (m - 1) (by omega) _ (acc ++ [⟨2, zz⟩]) v' b2 w4 _ _ _ _ _ _ _ _ _ _ _ _ _ _ _ _ _ _ _ _ _ _ _ _ _ _ _ _ _ _ _ _ _ _ _ _ _ _ _ _ _ _ _ _ _ _ _ _ _ _ _ _ _ _ _ _ _ _ _ _ _ _ _ _ _ _ _ _ _ _ _ _ _ _ _ _ _ _ _ _ _ _ (by omega) (by omega) (by have := HA.out; simp only [List.length_append, List.length_cons, List.length_nil]; omega) A.out O4.out G4.out
          · rw [hd] at hbd
            have D := Lib.hid (fun w => digit_is b1 true w hbd)
            have A := Lib.hid (show lx s.data.toList = F acc (Nd [] b1.data.toList) by rw [hL1, hl, lx_digit c t hd c48])
            have FD : Hid (∃ c t, b1.data.toList = c :: t ∧ isD c = true) := (⟨c, t, hl, hd⟩ : ∃ c t, b1.data.toList = c :: t ∧ isD c = true)
            clear hL1 hl hc hb2 hd hbd e3
            refine G.out _ _ _ _ _ rfl ?_
            go_wp2_with fail
            refine (T.out _).mono ?_
            rintro _ _ ⟨rfl, rfl⟩
            clear T
            go_wp2_with fail
            refine (D.out _).mono ?_
            rintro _ w2 ⟨rfl, hw2⟩
            replace O := Lib.hid (own_later O.out hw2)
            replace G1 := Lib.hid (G1.out.trans hw2)
            clear hw2 D
            go_wp2_with fail
            go_step3
            exact DIG.out (m - 1) (fun n acc v b w1 p q u1 u8 u9 u10 u11 u12 u13 u14 u15 u16 u17 u18 u19 u20 u21 u22 u23 u24 u25 u26 u27 u28 u29 u30 u31 u32 u33 u34 u35 u36 u37 u38 u39 u40 u41 u42 u43 u44 u45 u46 u47 u48 u49 u50 u51 u52 u53 u54 u55 u56 u57 u58 u59 u60 u61 u62 u63 u64 u65 u66 u67 u68 u69 u70 u71 u72 u73 u74 u75 u76 u77 u78 u79 u80 u81 u82 u83 u84 u85 u86 a1 a2 a3 a4 a5 a6 => ih (m - 1) (by omega) n acc v b w1 p q u1 u8 u9 u10 u11 u12 u13 u14 u15 u16 u17 u18 u19 u20 u21 u22 u23 u24 u25 u26 u27 u28 u29 u30 u31 u32 u33 u34 u35 u36 u37 u38 u39 u40 u41 u42 u43 u44 u45 u46 u47 u48 u49 u50 u51 u52 u53 u54 u55 u56 u57 u58 u59 u60 u61 u62 u63 u64 u65 u66 u67 u68 u69 u70 u71 u72 u73 u74 u75 u76 u77 u78 u79 u80 u81 u82 u83 u84 u85 u86 a1 a2 a3 a4 a5 a6) _ _ [] acc v b1 w2 q _ _ _ _ _ _ _ _ _ _ _ _ _ _ _ _ _ _ _ _ _ _ _ _ _ _ _ _ _ _ _ _ _ _ _ _ _ _ _ _ _ _ _ _ _ _ _ _ _ _ _ _ _ _ _ _ _ _ _ _ _ _ _ _ _ _ _ _ _ _ _ _ _ _ _ _ _ _ _ _ (Nat.le_refl _) (by omega) (by omega) (by have := HA.out; omega) FD.out A.out O.out G1.out
  have hL : lx s.data.toList = F [] (lx s.data.toList) := (F_nil _).symm
  obtain ⟨acc, hacc⟩ : ∃ acc : List Sg, acc = [] := ⟨_, rfl⟩
  have O : Hid (w.ownsRow w.heap.size 35 2 (.slice none 0 0) acc.length (cz acc)) := (by rw [hacc]; exact World.ownsRow_nil _ _ _ _ : w.ownsRow w.heap.size 35 2 (.slice none 0 0) acc.length (cz acc))
  have G1 := Lib.hid (Grw.rfl' w)
  have HA : Hid (acc.length + s.size ≤ 60) := (by rw [hacc]; simpa using hs : acc.length + s.size ≤ 60)
  have hL' : lx s.data.toList = F acc (lx s.data.toList) := by rw [hacc]; exact hL
  clear hacc hL
  have hL := hL'
  clear hL'
  obtain ⟨b1, hb1⟩ := ba_of (trm s.data.toList)
  have T := Lib.hid (fun w => trim_is s b1 w hb1)
  have hz1' : b1.size ≤ s.size := by rw [size_len, hb1, size_len]; exact trm_len _
  have hL1 : lx s.data.toList = F acc (lx b1.data.toList) := by rw [hb1, lx_trm]; exact hL
  have hsp : b1.data.toList.head? ≠ some 32 := by rw [hb1]; exact trm_head _
  clear hb1 hL
  rcases hl : b1.data.toList with _ | ⟨c, t⟩
  · obtain ⟨e1, e2⟩ := emp_yes hl
    have A := Lib.hid (show lx s.data.toList = (acc, 0) by rw [hL1, hl, lx_nil, F_ok, List.append_nil])
    clear hl hL1 hsp
    go_wp2_with fail
    go_step3
    go_wp2_with fail
    refine (T.out _).mono ?_
    rintro _ _ ⟨rfl, rfl⟩
    clear T
    go_wp2_with fail
    refine R.out _ _ _ ?_
    go_ret2
    exact lexQ_ok HS.out A.out O.out G1.out
  · obtain ⟨e1, e2⟩ := emp_no (s := b1) (by rw [hl]; simp)
    obtain ⟨h0, hc⟩ := at0 hl
    obtain ⟨b2, hb2⟩ := ba_of t
    have e3 : b1.extract 1 b1.size = b2 := ba_ext (by rw [Lib.extract_to_end, hl, hb2]; rfl)
    have hz2' : b2.size + 1 = b1.size := by rw [size_len b1, hl, List.length_cons, ← hb2, size_len]
    have k1 : (1 : Int) ≤ b1.size := by omega
    have h32 : c ≠ 32 := fun e => hsp (by rw [hl, e]; rfl)
    rw [hl] at hL1
    clear hsp
    by_cases c48 : c = 48
    · subst c48
      have t1 : ((b1[0].toNat : Int) == 48) = true := by rw [hc]; rfl
      rw [lx_zero, ← hb2] at hL1
      rcases hbd : bd b2.data.toList with _ | _
      · have D := Lib.hid (fun w => digit_is b2 false w hbd)
        have A := Lib.hid (show lx s.data.toList = F (acc ++ [⟨1, 0⟩]) (lx b2.data.toList) by rw [hL1, hbd, if_neg (by simp), F_F])
        clear hL1 hbd hl hc hb2
        go_wp2_with fail
        go_step3
        go_wp2_with fail
        refine (T.out _).mono ?_
        rintro _ _ ⟨rfl, rfl⟩
        clear T
        go_wp2_with fail
        go_step3
        refine G.out _ _ _ _ _ rfl ?_
        go_wp2_with fail
        refine (D.out _).mono ?_
        rintro _ w2 ⟨rfl, hw2⟩
        replace O := Lib.hid (own_later O.out hw2)
        replace G1 := Lib.hid (G1.out.trans hw2)
        clear hw2
        have O3 := Lib.hid (World.ownsRow.alloc O.out (.cells #[.int .i64 ((1 : Nat) : Int), .int .i64 ((0 : Nat) : Int)] 35))
        have D1 := Lib.hid (one_sg w2 1 0)
        have D2 := Lib.hid (cz_one [⟨1, 0⟩])
        have GB := Lib.hid (Below.size G1.out)
        go_wp2_with (at_builtin; refine wpList_append_own _ rfl _ _ 22 rfl w.heap.size 35 i0 _ 2 16 Tryd.underlying22 hi hz0 hz1 hz2 rfl (by decide) _ _ _ rfl O3.out ⟨w2.heap.size, 0, none⟩ 1 1 (cz [⟨1, 0⟩]) rfl rfl (by simpa using D1.out) D2.out (by have := HA.out; unfold maxLen; omega) (by have := HA.out; omega) (by have := GB.out; simp only [size_new]; omega) ?_)
        intro v' w4 hown' hgrow _
        have hown2 : w4.ownsRow w.heap.size 35 2 v' (acc ++ [⟨1, 0⟩] : List Sg).length (cz (acc ++ [⟨1, 0⟩])) := by rw [cz_app, List.length_append]; exact hown'
        have G4 := Lib.hid (grown_own O3.out (G1.out.alloc (.cells #[.int .i64 ((1 : Nat) : Int), .int .i64 ((0 : Nat) : Int)] 35)) hgrow)
        have O4 := Lib.hid hown2
        clear hown' hgrow hown2 O3 D1 D2 GB
        go_wp2_with fail
        go_step3
        exact KEY.out 60 _ (acc ++ [⟨1, 0⟩]) v' b2 w4 _ _ _ _ _ _ _ _ _ _ _ _ _ _ _ _ _ _ _ _ _ _ _ _ _ _ _ _ _ _ _ _ _ _ _ _ _ _ _ _ _ _ _ _ _ _ _ _ _ _ _ _ _ _ _ _ _ _ _ _ _ _ _ _ _ _ _ _ _ _ _ _ _ _ _ _ _ _ _ _ _ _ (by omega) (by omega) (by have := HA.out; simp only [List.length_append, List.length_cons, List.length_nil]; omega) A.out O4.out G4.out
      · have D := Lib.hid (fun w => digit_is b2 true w hbd)
        have A := Lib.hid (show lx s.data.toList = ([], 2) by rw [hL1, hbd, if_pos rfl, F_err _ _ _ (by decide)])
        clear hL1 hbd hl hc hb2
        go_wp2_with fail
        go_step3
        go_wp2_with fail
        refine (T.out _).mono ?_
        rintro _ _ ⟨rfl, rfl⟩
        clear T
        go_wp2_with fail
        go_step3
        refine G.out _ _ _ _ _ rfl ?_
        go_wp2_with fail
        refine (D.out _).mono ?_
        rintro _ w2 ⟨rfl, hw2⟩
        go_wp2_with fail
        go_step3
        refine G.out _ _ _ _ _ rfl ?_
        go_wp2_with fail
        refine R.out _ _ _ ?_
        go_ret2
        exact lexQ_err HS.out A.out (G1.out.trans hw2)
    · have t1 : ((b1[0].toNat : Int) == 48) = false := by rw [hc, Bool.eq_false_iff]; intro e; exact c48 ((uni c 48).1 (eq_of_beq e))
      have hbd : bd b1.data.toList = isD c := by rw [hl]; rfl
      rcases hd : isD c with _ | _
      · rw [hd] at hbd
        have D := Lib.hid (fun w => digit_is b1 false w hbd)
        rcases hle : isL c with _ | _
        · rw [lx_mark c t h32 hle hd, ← hl] at hL1
          obtain ⟨kk, hkk⟩ : ∃ kk, op b1.data.toList = kk := ⟨_, rfl⟩
          have MO := Lib.hid (fun w (t : Mks w) => markOf_is b1 kk w t hkk)
          have nl : ¬ (97 ≤ b1[0].toNat ∧ b1[0].toNat ≤ 122) := fun e => by rw [hc] at e; unfold isL at hle; simp at hle; omega
          by_cases k0 : kk = 0
          · subst k0
            have A := Lib.hid (show lx s.data.toList = ([], 2) by rw [hL1, hkk, if_pos rfl, F_err _ _ _ (by decide)])
            have IM := Lib.hid (fun w (t : Mks w) => isMark_out 0 w t (by omega))
            clear hL1 hkk hl hc hb2 hle hd hbd
            by_cases n1 : 97 ≤ b1[0].toNat
            · have n2 : ¬ b1[0].toNat ≤ 122 := fun e => nl ⟨n1, e⟩
              have n3 : decide ((97 : Int) ≤ (b1[0].toNat : Int)) = true := decide_eq_true (by omega)
              have n4 : decide ((b1[0].toNat : Int) ≤ 122) = false := decide_eq_false (by omega)
              clear nl
              go_wp2_with fail
              go_step3
              go_wp2_with fail
              refine (T.out _).mono ?_
              rintro _ _ ⟨rfl, rfl⟩
              clear T
              go_wp2_with fail
              refine (D.out _).mono ?_
              rintro _ w2 ⟨rfl, hw2⟩
              replace O := Lib.hid (own_later O.out hw2)
              replace G1 := Lib.hid (G1.out.trans hw2)
              clear hw2 D
              go_wp2_with fail
              go_step3
              refine G.out _ _ _ _ _ rfl ?_
              go_wp2_with fail
              refine (MO.out _ (mks_grw G1.out HT.out)).mono ?_
              rintro _ w3 ⟨rfl, hw3⟩
              replace O := Lib.hid (own_later O.out hw3)
              replace G1 := Lib.hid (G1.out.trans hw3)
              clear hw3 MO
              go_wp2_with fail
              refine (IM.out _ (mks_grw G1.out HT.out)).mono ?_
              rintro _ w5 ⟨rfl, hw5⟩
              go_wp2_with fail
              go_step3
              refine G.out _ _ _ _ _ rfl ?_
              go_wp2_with fail
              refine R.out _ _ _ ?_
              go_ret2
              exact lexQ_err HS.out A.out (G1.out.trans hw5)
            · have n3 : decide ((97 : Int) ≤ (b1[0].toNat : Int)) = false := decide_eq_false (by omega)
              clear nl
              go_wp2_with fail
              go_step3
              go_wp2_with fail
              refine (T.out _).mono ?_
              rintro _ _ ⟨rfl, rfl⟩
              clear T
              go_wp2_with fail
              refine (D.out _).mono ?_
              rintro _ w2 ⟨rfl, hw2⟩
              replace O := Lib.hid (own_later O.out hw2)
              replace G1 := Lib.hid (G1.out.trans hw2)
              clear hw2 D
              go_wp2_with fail
              go_step3
              refine G.out _ _ _ _ _ rfl ?_
              go_wp2_with fail
              refine (MO.out _ (mks_grw G1.out HT.out)).mono ?_
              rintro _ w3 ⟨rfl, hw3⟩
              replace O := Lib.hid (own_later O.out hw3)
              replace G1 := Lib.hid (G1.out.trans hw3)
              clear hw3 MO
              go_wp2_with fail
              refine (IM.out _ (mks_grw G1.out HT.out)).mono ?_
              rintro _ w5 ⟨rfl, hw5⟩
              go_wp2_with fail
              go_step3
              refine G.out _ _ _ _ _ rfl ?_
              go_wp2_with fail
              refine R.out _ _ _ ?_
              go_ret2
              exact lexQ_err HS.out A.out (G1.out.trans hw5)
          · have kin := (op_in b1.data.toList).resolve_left (by rw [hkk]; exact k0)
            have kpre := op_pre b1.data.toList (by rw [hkk]; exact k0)
            rw [hkk] at kin kpre
            obtain ⟨b3, hb3⟩ := ba_of (b1.data.toList.drop (tx ⟨kk, 0⟩).length)
            have A := Lib.hid (show lx s.data.toList = F (acc ++ [⟨kk, 0⟩]) (lx b3.data.toList) by rw [hL1, hkk, if_neg k0, F_F, hb3])
            have IM := Lib.hid (fun w (t : Mks w) => isMark_in kk w t kin)
            have CM := Lib.hid (fun w (t : Mks w) => mks_cell t (show kk < 19 by omega))
            have e4 : b1.extract (mb kk).size b1.size = b3 := ba_ext (by rw [Lib.extract_to_end, hb3, mb_size, kpre.2.1])
            have k2 : ((mb kk).size : Int) ≤ b1.size := by rw [mb_size, size_len]; have := kpre.1; omega
            have hz3' : b3.size + 1 ≤ b1.size := by
              have h1 : b3.size = b1.size - (tx ⟨kk, 0⟩).length := by rw [size_len, hb3, List.length_drop, ← size_len]
              have h2 := kpre.2
              have h3 := kpre.1
              rw [← size_len] at h3
              omega
            have kl : kk < 19 := by omega
            clear hL1 hkk hl hc hb2 hb3 hle hd hbd kpre kin e3 hz2'
            generalize mb kk = mm at *
            by_cases n1 : 97 ≤ b1[0].toNat
            · have n2 : ¬ b1[0].toNat ≤ 122 := fun e => nl ⟨n1, e⟩
              have n3 : decide ((97 : Int) ≤ (b1[0].toNat : Int)) = true := decide_eq_true (by omega)
              have n4 : decide ((b1[0].toNat : Int) ≤ 122) = false := decide_eq_false (by omega)
              clear nl
              go_wp2_with fail
              go_step3
              go_wp2_with fail
              refine (T.out _).mono ?_
              rintro _ _ ⟨rfl, rfl⟩
              clear T
              go_wp2_with fail
              refine (D.out _).mono ?_
              rintro _ w2 ⟨rfl, hw2⟩
              replace O := Lib.hid (own_later O.out hw2)
              replace G1 := Lib.hid (G1.out.trans hw2)
              clear hw2 D
              go_wp2_with fail
              go_step3
              refine G.out _ _ _ _ _ rfl ?_
              go_wp2_with fail
              refine (MO.out _ (mks_grw G1.out HT.out)).mono ?_
              rintro _ w3 ⟨rfl, hw3⟩
              replace O := Lib.hid (own_later O.out hw3)
              replace G1 := Lib.hid (G1.out.trans hw3)
              clear hw3 MO
              go_wp2_with fail
              refine (IM.out _ (mks_grw G1.out HT.out)).mono ?_
              rintro _ w5 ⟨rfl, hw5⟩
              replace O := Lib.hid (own_later O.out hw5)
              replace G1 := Lib.hid (G1.out.trans hw5)
              clear hw5 IM
              have O3 := Lib.hid (World.ownsRow.alloc O.out (.cells #[.int .i64 ((kk : Nat) : Int), .int .i64 ((0 : Nat) : Int)] 35))
              have D1 := Lib.hid (one_sg w5 kk 0)
              have D2 := Lib.hid (cz_one [⟨kk, 0⟩])
              have GB := Lib.hid (Below.size G1.out)
              go_wp2_with (at_builtin; refine wpList_append_own _ rfl _ _ 22 rfl w.heap.size 35 i0 _ 2 16 Tryd.underlying22 hi hz0 hz1 hz2 rfl (by decide) _ _ _ rfl O3.out ⟨w5.heap.size, 0, none⟩ 1 1 (cz [⟨kk, 0⟩]) rfl rfl (by simpa using D1.out) D2.out (by have := HA.out; unfold maxLen; omega) (by have := HA.out; omega) (by have := GB.out; simp only [size_new]; omega) ?_)
              intro v' w4 hown' hgrow _
              have hown2 : w4.ownsRow w.heap.size 35 2 v' (acc ++ [⟨kk, 0⟩] : List Sg).length (cz (acc ++ [⟨kk, 0⟩])) := by rw [cz_app, List.length_append]; exact hown'
              have G4 := Lib.hid (grown_own O3.out (G1.out.alloc (.cells #[.int .i64 ((kk : Nat) : Int), .int .i64 ((0 : Nat) : Int)] 35)) hgrow)
              have O4 := Lib.hid hown2
              clear hown' hgrow hown2 O3 D1 D2 GB
              have cc := CM.out _ (mks_grw G4.out HT.out)
              clear CM
              go_wp2_with fail
              go_step3
              exact KEY.out 60 _ (acc ++ [⟨kk, 0⟩]) v' b3 w4 _ _ _ _ _ _ _ _ _ _ _ _ _ _ _ _ _ _ _ _ _ _ _ _ _ _ _ _ _ _ _ _ _ _ _ _ _ _ _ _ _ _ _ _ _ _ _ _ _ _ _ _ _ _ _ _ _ _ _ _ _ _ _ _ _ _ _ _ _ _ _ _ _ _ _ _ _ _ _ _ _ _ (by omega) (by omega) (by have := HA.out; simp only [List.length_append, List.length_cons, List.length_nil]; omega) A.out O4.out G4.out
            · have n3 : decide ((97 : Int) ≤ (b1[0].toNat : Int)) = false := decide_eq_false (by omega)
              clear nl
              go_wp2_with fail
              go_step3
              go_wp2_with fail
              refine (T.out _).mono ?_
              rintro _ _ ⟨rfl, rfl⟩
              clear T
              go_wp2_with fail
              refine (D.out _).mono ?_
              rintro _ w2 ⟨rfl, hw2⟩
              replace O := Lib.hid (own_later O.out hw2)
              replace G1 := Lib.hid (G1.out.trans hw2)
              clear hw2 D
              go_wp2_with fail
              go_step3
              refine G.out _ _ _ _ _ rfl ?_
              go_wp2_with fail
              refine (MO.out _ (mks_grw G1.out HT.out)).mono ?_
              rintro _ w3 ⟨rfl, hw3⟩
              replace O := Lib.hid (own_later O.out hw3)
              replace G1 := Lib.hid (G1.out.trans hw3)
              clear hw3 MO
              go_wp2_with fail
              refine (IM.out _ (mks_grw G1.out HT.out)).mono ?_
              rintro _ w5 ⟨rfl, hw5⟩
              replace O := Lib.hid (own_later O.out hw5)
              replace G1 := Lib.hid (G1.out.trans hw5)
              clear hw5 IM
              have O3 := Lib.hid (World.ownsRow.alloc O.out (.cells #[.int .i64 ((kk : Nat) : Int), .int .i64 ((0 : Nat) : Int)] 35))
              have D1 := Lib.hid (one_sg w5 kk 0)
              have D2 := Lib.hid (cz_one [⟨kk, 0⟩])
              have GB := Lib.hid (Below.size G1.out)
              go_wp2_with (at_builtin; refine wpList_append_own _ rfl _ _ 22 rfl w.heap.size 35 i0 _ 2 16 Tryd.underlying22 hi hz0 hz1 hz2 rfl (by decide) _ _ _ rfl O3.out ⟨w5.heap.size, 0, none⟩ 1 1 (cz [⟨kk, 0⟩]) rfl rfl (by simpa using D1.out) D2.out (by have := HA.out; unfold maxLen; omega) (by have := HA.out; omega) (by have := GB.out; simp only [size_new]; omega) ?_)
              intro v' w4 hown' hgrow _
              have hown2 : w4.ownsRow w.heap.size 35 2 v' (acc ++ [⟨kk, 0⟩] : List Sg).length (cz (acc ++ [⟨kk, 0⟩])) := by rw [cz_app, List.length_append]; exact hown'
              have G4 := Lib.hid (grown_own O3.out (G1.out.alloc (.cells #[.int .i64 ((kk : Nat) : Int), .int .i64 ((0 : Nat) : Int)] 35)) hgrow)
              have O4 := Lib.hid hown2
              clear hown' hgrow hown2 O3 D1 D2 GB
              have cc := CM.out _ (mks_grw G4.out HT.out)
              clear CM
              go_wp2_with fail
              go_step3
              exact KEY.out 60 _ (acc ++ [⟨kk, 0⟩]) v' b3 w4 _ _ _ _ _ _ _ _ _ _ _ _ _ _ _ _ _ _ _ _ _ _ _ _ _ _ _ _ _ _ _ _ _ _ _ _ _ _ _ _ _ _ _ _ _ _ _ _ _ _ _ _ _ _ _ _ _ _ _ _ _ _ _ _ _ _ _ _ _ _ _ _ _ _ _ _ _ _ _ _ _ _ (by omega) (by omega) (by have := HA.out; simp only [List.length_append, List.length_cons, List.length_nil]; omega) A.out O4.out G4.out
        · rw [lx_letter c t hle, ← hb2] at hL1
          have nl : 97 ≤ b1[0].toNat ∧ b1[0].toNat ≤ 122 := by rw [hc]; unfold isL at hle; simp at hle; omega
          have n3 : decide ((97 : Int) ≤ (b1[0].toNat : Int)) = true := decide_eq_true (by omega)
          have n4 : decide ((b1[0].toNat : Int) ≤ 122) = true := decide_eq_true (by omega)
          obtain ⟨zz, hzz⟩ : ∃ zz, c.toNat - 97 = zz := ⟨_, rfl⟩
          have A := Lib.hid (show lx s.data.toList = F (acc ++ [⟨2, zz⟩]) (lx b2.data.toList) by rw [hL1, F_F, hzz])
          have z1 : IntKind.u8.wrap ((b1[0].toNat : Int) - 97) = (zz : Int) := by rw [← hzz, ← hc]; simp only [IntKind.wrap_u8]; omega
          have z2 : ((b1[0].toNat : Int) - 97) % 256 = (zz : Int) := by rw [← hzz, ← hc]; omega
          have z3 : zz ≤ 25 := by rw [← hzz, ← hc]; omega
          have z4 : IntKind.i64.wrap (zz : Int) = zz := by simp only [IntKind.wrap_i64]; omega
          clear hL1 hl hc hb2 hle hd hbd nl hzz
          go_wp2_with fail
          go_step3
          go_wp2_with fail
          refine (T.out _).mono ?_
          rintro _ _ ⟨rfl, rfl⟩
          clear T
          go_wp2_with fail
          refine (D.out _).mono ?_
          rintro _ w2 ⟨rfl, hw2⟩
          replace O := Lib.hid (own_later O.out hw2)
          replace G1 := Lib.hid (G1.out.trans hw2)
          clear hw2 D
          go_wp2_with fail
          go_step3
          refine G.out _ _ _ _ _ rfl ?_
          have O3 := Lib.hid (World.ownsRow.alloc O.out (.cells #[.int .i64 ((2 : Nat) : Int), .int .i64 ((zz : Nat) : Int)] 35))
          have D1 := Lib.hid (one_sg w2 2 zz)
          have D2 := Lib.hid (cz_one [⟨2, zz⟩])
          have GB := Lib.hid (Below.size G1.out)
          go_wp2_with (at_builtin; refine wpList_append_own _ rfl _ _ 22 rfl w.heap.size 35 i0 _ 2 16 Tryd.underlying22 hi hz0 hz1 hz2 rfl (by decide) _ _ _ rfl O3.out ⟨w2.heap.size, 0, none⟩ 1 1 (cz [⟨2, zz⟩]) rfl rfl (by simpa using D1.out) D2.out (by have := HA.out; unfold maxLen; omega) (by have := HA.out; omega) (by have := GB.out; simp only [size_new]; omega) ?_)
          intro v' w4 hown' hgrow _
          have hown2 : w4.ownsRow w.heap.size 35 2 v' (acc ++ [⟨2, zz⟩] : List Sg).length (cz (acc ++ [⟨2, zz⟩])) := by rw [cz_app, List.length_append]; exact hown'
          have G4 := Lib.hid (grown_own O3.out (G1.out.alloc (.cells #[.int .i64 ((2 : Nat) : Int), .int .i64 ((zz : Nat) : Int)] 35)) hgrow)
          have O4 := Lib.hid hown2
          clear hown' hgrow hown2 O3 D1 D2 GB
          go_wp2_with fail
          go_step3
          exact KEY.out 60 _ (acc ++ [⟨2, zz⟩]) v' b2 w4 _ _ _ _ _ _ _ _ _ _ _ _ _ _ _ _ _ _ _ _ _ _ _ _ _ _ _ _ _ _ _ _ _ _ _ _ _ _ _ _ _ _ _ _ _ _ _ _ _ _ _ _ _ _ _ _ _ _ _ _ _ _ _ _ _ _ _ _ _ _ _ _ _ _ _ _ _ _ _ _ _ _ (by omega) (by omega) (by have := HA.out; simp only [List.length_append, List.length_cons, List.length_nil]; omega) A.out O4.out G4.out
      · rw [hd] at hbd
        have D := Lib.hid (fun w => digit_is b1 true w hbd)
        have A := Lib.hid (show lx s.data.toList = F acc (Nd [] b1.data.toList) by rw [hL1, hl, lx_digit c t hd c48])
        have FD : Hid (∃ c t, b1.data.toList = c :: t ∧ isD c = true) := (⟨c, t, hl, hd⟩ : ∃ c t, b1.data.toList = c :: t ∧ isD c = true)
        clear hL1 hl hc hb2 hd hbd e3
        go_wp2_with fail
        go_step3
        go_wp2_with fail
        refine (T.out _).mono ?_
        rintro _ _ ⟨rfl, rfl⟩
        clear T
        go_wp2_with fail
        refine (D.out _).mono ?_
        rintro _ w2 ⟨rfl, hw2⟩
        replace O := Lib.hid (own_later O.out hw2)
        replace G1 := Lib.hid (G1.out.trans hw2)
        clear hw2 D
        go_wp2_with fail
        go_step3
        exact DIG.out 60 (fun n acc v b w1 p q u1 u8 u9 u10 u11 u12 u13 u14 u15 u16 u17 u18 u19 u20 u21 u22 u23 u24 u25 u26 u27 u28 u29 u30 u31 u32 u33 u34 u35 u36 u37 u38 u39 u40 u41 u42 u43 u44 u45 u46 u47 u48 u49 u50 u51 u52 u53 u54 u55 u56 u57 u58 u59 u60 u61 u62 u63 u64 u65 u66 u67 u68 u69 u70 u71 u72 u73 u74 u75 u76 u77 u78 u79 u80 u81 u82 u83 u84 u85 u86 a1 a2 a3 a4 a5 a6 => KEY.out 60 n acc v b w1 p q u1 u8 u9 u10 u11 u12 u13 u14 u15 u16 u17 u18 u19 u20 u21 u22 u23 u24 u25 u26 u27 u28 u29 u30 u31 u32 u33 u34 u35 u36 u37 u38 u39 u40 u41 u42 u43 u44 u45 u46 u47 u48 u49 u50 u51 u52 u53 u54 u55 u56 u57 u58 u59 u60 u61 u62 u63 u64 u65 u66 u67 u68 u69 u70 u71 u72 u73 u74 u75 u76 u77 u78 u79 u80 u81 u82 u83 u84 u85 u86 a1 a2 a3 a4 a5 a6) _ _ [] acc _ b1 w2 0 _ _ _ _ _ _ _ _ _ _ _ _ _ _ _ _ _ _ _ _ _ _ _ _ _ _ _ _ _ _ _ _ _ _ _ _ _ _ _ _ _ _ _ _ _ _ _ _ _ _ _ _ _ _ _ _ _ _ _ _ _ _ _ _ _ _ _ _ _ _ _ _ _ _ _ _ _ _ _ _ (Nat.le_refl _) (by omega) (by omega) (by have := HA.out; omega) FD.out A.out O.out G1.out
end Go.Proofs.YtiocnagbcbhggaaDoor
