/- The contracts of strconv.FormatUint at base 10, span.count and span.Print at this program. -/
import Derived.Test.YtcdfjheklggfhaaDoorWd
import Derived.Lib.ItoaMem
namespace Go.Proofs.YtcdfjheklggfhaaDoor
open Go.RowKit SM Go.Sort

/-- the table of the powers of ten lies. -/
def Tab (w : World) : Prop := Lib.TabIs Tryd.prog w "internal/strconv.uint64pow10" .u64 Lib.pow10Tab

theorem tab_grw {w x : World} (h : Grw w x) (t : Tab w) : Tab x := by
  unfold Tab Lib.TabIs World.var? at *
  cases hg : Tryd.prog.globalNamed "internal/strconv.uint64pow10" with
  | none => simp [hg] at t
  | some g =>
    simp only [hg, Option.bind_some] at t ⊢
    have hlt : g < w.heap.size := by
      rcases Nat.lt_or_ge g w.heap.size with h' | h'
      · exact h'
      · rw [Array.getElem?_eq_none h'] at t; simp at t
    rw [h.block g hlt]
    exact t

theorem holds_zero0 (w : World) (T : TypeId) (nd : Nat) (hs : nd ≤ 24) : Holds (fun (b : UInt8) => Value.int .u8 (b.toNat : Int)) (w.alloc (.cells Lib.zeros24 T)) w.heap.size 0 (Array.replicate nd (0 : UInt8)) := fun j hj => by
  have hj' : j < nd := by simpa using hj
  refine ⟨?_, World.frozen?_alloc_new _ _ _ _⟩
  rw [World.cell?_alloc_new, Lib.zeros24_at _ (by omega), getElem!_pos _ j hj]
  simp
theorem grw_put (w : World) (o : Obj) (dk : Array UInt8) (k : Nat) : Grw w ((putRow (fun (b : UInt8) => Value.int .u8 (b.toNat : Int)) (w.alloc o) w.heap.size 0 dk).drewN k) := by
  rw [alloc_eq_grow]
  obtain ⟨os', _, e⟩ := putRow_grow_new (fun (b : UInt8) => Value.int .u8 (b.toNat : Int)) w #[o] w.heap.size 0 dk (Nat.le_refl _)
  rw [e]
  refine ⟨rfl, rfl, rfl, ?_, fun i hi => ?_⟩
  · simp [grow, World.drewN]
  · simp [grow, World.drewN, Array.getElem?_append, hi]

set_option maxHeartbeats 1000000 in
theorem ifmt_small (u : Nat) (w : World) (h : u < 100) :
    Calls Tryd.prog 59 #[.int .u64 u, .int .i64 10] w fun e w' => e = .returned (.string ⟨(Lib.decDigits u).toArray⟩) ∧ Grw w w' := by
  have S := Lib.hid (fun w => Tryd.internal_strconv_small u h w)
  generalize (⟨(Lib.decDigits u).toArray⟩ : ByteArray) = r at *
  go_enter Tryd.func59, Tryd.ntmps59
  go_wp2_with fail
  refine (S.out _).mono ?_
  rintro _ _ ⟨rfl, rfl⟩
  go_wp2_with fail
  go_ret
  exact ⟨rfl, Grw.rfl' _⟩

set_option maxHeartbeats 1000000 in
theorem ifmt_great (u : Nat) (w : World) (h : 100 ≤ u) (hu : u < 18446744073709551616) (t : Tab w) :
    Calls Tryd.prog 59 #[.int .u64 u, .int .i64 10] w fun e w' => e = .returned (.string ⟨(Lib.decDigits u).toArray⟩) ∧ Grw w w' := by
  obtain ⟨r, hr⟩ : ∃ r : ByteArray, (⟨(Lib.decDigits u).toArray⟩ : ByteArray) = r := ⟨_, rfl⟩
  rw [hr]
  have HRR := Lib.hid hr
  clear hr
  have hnd20 : Lib.nDigits u ≤ 20 := by have := Lib.numDigits_eq u (by omega) hu; split at this <;> omega
  have ND := Lib.hid (fun o => Tryd.internal_strconv_numDigits u (by omega) hu (w.alloc o) (Lib.tabIs_alloc t _))
  have hal : Tryd.prog.arrayLen 82 = 24 := by simp [Program.arrayLen, Tryd.underlying82]
  have hsl : ∀ W, (Instr.sliceAt 82 (.pointer (some ⟨w.heap.size, 0, none⟩)) none (some (.int .i64 (Lib.nDigits u : Int))) none).run Tryd.prog W = .ok (.slice (some ⟨w.heap.size, 0, none⟩) (Lib.nDigits u) 24) W := fun W => by
    rw [run_sliceAt_array_h W 82 ⟨w.heap.size, 0, none⟩ (by simp [Program.arrayLen, Program.elem, Tryd.underlying82]) .i64 (Lib.nDigits u : Int) (by omega) (by rw [hal]; omega)]
    go_simp
  have hH0 := holds_zero0 w 82 (Lib.nDigits u) (by omega)
  have hfmt := Tryd.internal_strconv_formatBase10 w.heap.size 0 24 u (Array.replicate (Lib.nDigits u) 0) (w.alloc (.cells Lib.zeros24 82)) hH0 (by rw [Array.size_replicate]; exact Lib.lt_pow_nDigits u) hu (by rw [Array.size_replicate]; omega)
  rw [Array.size_replicate] at hfmt
  have HH0 := Lib.hid hH0
  have F := Lib.hid hfmt
  clear hH0 hal hfmt t
  go_enter Tryd.func59, Tryd.ntmps59
  go_wp2_with fail
  refine (ND.out _).mono ?_
  rintro _ _ ⟨rfl, rfl⟩
  go_wp2_with fail
  refine F.out.mono ?_
  rintro _ _ ⟨rfl, k, v', dk, rfl, hF⟩
  have hcv : (convert 61 9 (.slice (some ⟨w.heap.size, 0, none⟩) (Lib.nDigits u) 24)).run Tryd.prog ((putRow (fun (b : UInt8) => Value.int .u8 (b.toNat : Int)) (w.alloc (.cells Lib.zeros24 82)) w.heap.size 0 dk).drewN k) = .ok (.string ⟨(Lib.decDigits u).toArray⟩) ((putRow (fun (b : UInt8) => Value.int .u8 (b.toNat : Int)) (w.alloc (.cells Lib.zeros24 82)) w.heap.size 0 dk).drewN k) := by
    have h := run_convert_bytes_back (P := Tryd.prog) ((putRow (fun (b : UInt8) => Value.int .u8 (b.toNat : Int)) (w.alloc (.cells Lib.zeros24 82)) w.heap.size 0 dk).drewN k) 61 9 5 ⟨w.heap.size, 0, none⟩ 24 (Lib.decDigits u) Tryd.underlying61 Tryd.underlying5 Tryd.underlying9 (fun j hj => by
      rw [Lib.row_is_numeral hF j hj, Lib.add_plain, World.cell?_drewN]
      exact cell?_putRow (fun (b : UInt8) => Value.int .u8 (b.toNat : Int)) _ w.heap.size 0 _ dk HH0.out (by rw [hF.size, Array.size_replicate]) j (by rw [hF.size]; rw [Lib.decDigits_length] at hj; exact hj))
    rw [Lib.decDigits_length] at h
    exact h
  rw [HRR.out] at hcv
  have GG := grw_put w (.cells Lib.zeros24 82) dk k
  generalize ((putRow (fun (b : UInt8) => Value.int .u8 (b.toNat : Int)) (w.alloc (.cells Lib.zeros24 82)) w.heap.size 0 dk).drewN k) = W2 at *
  clear HH0 F hF ND
  go_wp2_with fail
  go_ret
  exact ⟨rfl, GG⟩

theorem fmt_any (u : Nat) (w : World) (hu : u < 18446744073709551616) (t : u < 100 ∨ Tab w) :
    Calls Tryd.prog 50 #[.int .u64 u, .int .i64 10] w fun e w' => e = .returned (.string ⟨(Lib.decDigits u).toArray⟩) ∧ Grw w w' := by
  have C : Calls Tryd.prog 59 #[.int .u64 u, .int .i64 10] w fun e w' => e = .returned (.string ⟨(Lib.decDigits u).toArray⟩) ∧ Grw w w' := by
    by_cases h : u < 100
    · exact ifmt_small u w h
    · exact ifmt_great u w (by omega) hu (t.resolve_left h)
  have S := Lib.hid C
  generalize (⟨(Lib.decDigits u).toArray⟩ : ByteArray) = r at *
  clear C t
  go_enter Tryd.func50, Tryd.ntmps50
  go_wp2_with fail
  refine S.out.mono ?_
  rintro _ w1 ⟨rfl, hw1⟩
  go_wp2_with fail
  go_ret
  exact ⟨rfl, hw1⟩

theorem ba_app (a b : ByteArray) : (a ++ b).data.toList = a.data.toList ++ b.data.toList := by simp [ByteArray.data_append]
theorem dec_len (u : Nat) (hu : u < 18446744073709551616) : (Lib.decDigits u).length ≤ 20 := by
  rw [Lib.decDigits_length]
  by_cases h : u = 0
  · subst h; rw [Lib.nDigits_small (by omega)]; omega
  · have := Lib.numDigits_eq u (by omega) hu; split at this <;> omega

set_option maxHeartbeats 1000000 in
theorem count_any (n : Nat) (c : UInt8) (b : ByteArray) (w : World) (hn : n < 18446744073709551616) (t : n < 100 ∨ Tab w) (hb : b.data.toList = cnt n c) :
    Calls Tryd.prog 41 #[.int .u64 n, .string ⟨#[c]⟩] w fun e w' => e = .returned (.string b) ∧ Grw w w' := by
  by_cases h : n = 0
  · subst h
    have e : b = ⟨#[]⟩ := ba_ext (by rw [hb]; rfl)
    subst e
    clear hb t
    go_enter Tryd.func41, Tryd.ntmps41
    go_wp2_with fail
    go_ret
    exact ⟨rfl, Grw.rfl' _⟩
  · have F := fmt_any n w hn t
    obtain ⟨r, hr⟩ : ∃ r : ByteArray, (⟨(Lib.decDigits n).toArray⟩ : ByteArray) = r := ⟨_, rfl⟩
    rw [hr] at F
    have hz : (r.size : Int) ≤ 8388608 := by
      have := dec_len n hn
      rw [← hr, size_len]; simp; omega
    have e : b = r ++ ⟨#[c]⟩ := ba_ext (by rw [hb, ba_app, ← hr]; simp [cnt, h])
    have h0 : ((n : Int) == 0) = false := by simp; omega
    have h1 : (((⟨#[c]⟩ : ByteArray).size : Nat) : Int) ≤ 8388608 := by rw [size_len]; simp
    have EB := Lib.hid e
    have F := Lib.hid F
    clear hr hb e t h
    generalize (⟨#[c]⟩ : ByteArray) = q at *
    go_enter Tryd.func41, Tryd.ntmps41
    go_wp2_with fail
    refine F.out.mono ?_
    rintro _ w1 ⟨rfl, hw1⟩
    go_wp2_with fail
    rw [EB.out]
    go_ret
    exact ⟨rfl, hw1⟩

set_option maxHeartbeats 1000000 in
theorem print_no (x : Nat) (w : World) (h : top < x) :
    Calls Tryd.prog 26 #[.int .u64 x] w fun e w' => e = .returned (.tuple #[.string ⟨#[]⟩, .bool false]) ∧ Grw w w' := by
  unfold top at h
  go_enter Tryd.func26, Tryd.ntmps26
  go_wp2_with fail
  go_ret2
  exact ⟨rfl, Grw.rfl' _⟩

set_option maxHeartbeats 1000000 in
theorem print_zero (w : World) :
    Calls Tryd.prog 26 #[.int .u64 0] w fun e w' => e = .returned (.tuple #[.string ⟨#[80, 84, 48, 83]⟩, .bool true]) ∧ Grw w w' := by
  go_enter Tryd.func26, Tryd.ntmps26
  go_wp2_with fail
  go_ret2
  exact ⟨rfl, Grw.rfl' _⟩

theorem cnt_len (n : Nat) (c : UInt8) (h : n < 18446744073709551616) : (cnt n c).length ≤ 21 := by
  have := dec_len n h
  unfold cnt; split <;> simp; omega

set_option maxHeartbeats 1000000 in
theorem print_weeks (x : Nat) (b : ByteArray) (w : World) (h : x ≤ top) (h0 : 0 < x) (hw : x % 604800 = 0) (t : x / 604800 < 100 ∨ Tab w) (hb : b.data.toList = printS x) :
    Calls Tryd.prog 26 #[.int .u64 x] w fun e w' => e = .returned (.tuple #[.string b, .bool true]) ∧ Grw w w' := by
  unfold top at h
  obtain ⟨c, hc⟩ := ba_of (cnt (x / 604800) 87)
  have hcz : (c.size : Int) ≤ 8388608 := by have := cnt_len (x / 604800) 87 (by omega); rw [← hc, ← size_len] at this; omega
  have C := Lib.hid (count_any (x / 604800) 87 c w (by omega) t hc)
  have e : b = ⟨#[80]⟩ ++ c := ba_ext (by rw [hb, ba_app, hc, printS, if_neg (by omega), if_pos hw]; rfl)
  have EB := Lib.hid e
  have g1 : ((x : Int) % 604800 == 0) = true := by simp; omega
  have g2 : ((x : Int) == 0) = false := by simp; omega
  have q1 : (((⟨#[80]⟩ : ByteArray).size : Nat) : Int) ≤ 8388608 := by rw [size_len]; simp
  clear hb e t hc
  go_enter Tryd.func26, Tryd.ntmps26
  go_wp2_with fail
  refine C.out.mono ?_
  rintro _ w1 ⟨rfl, hw1⟩
  go_wp2_with fail
  rw [EB.out]
  go_ret2
  exact ⟨rfl, hw1⟩

set_option maxHeartbeats 2000000 in
theorem print_days (x : Nat) (b : ByteArray) (w : World) (h : x ≤ top) (h0 : 0 < x) (hw : x % 604800 ≠ 0) (t : x / 86400 < 100 ∨ Tab w) (hb : b.data.toList = printS x) :
    Calls Tryd.prog 26 #[.int .u64 x] w fun e w' => e = .returned (.tuple #[.string b, .bool true]) ∧ Grw w w' := by
  unfold top at h
  obtain ⟨d, hd⟩ := ba_of (cnt (x / 86400) 68)
  obtain ⟨hh, hhh⟩ := ba_of (cnt (x % 86400 / 3600) 72)
  obtain ⟨mm, hmm⟩ := ba_of (cnt (x % 3600 / 60) 77)
  obtain ⟨ss, hss⟩ := ba_of (cnt (x % 60) 83)
  have zd : (d.size : Int) ≤ 21 := by have := cnt_len (x / 86400) 68 (by omega); rw [← hd, ← size_len] at this; omega
  have zh : (hh.size : Int) ≤ 21 := by have := cnt_len (x % 86400 / 3600) 72 (by omega); rw [← hhh, ← size_len] at this; omega
  have zm : (mm.size : Int) ≤ 21 := by have := cnt_len (x % 3600 / 60) 77 (by omega); rw [← hmm, ← size_len] at this; omega
  have zs : (ss.size : Int) ≤ 21 := by have := cnt_len (x % 60) 83 (by omega); rw [← hss, ← size_len] at this; omega
  have CD := Lib.hid (fun w' (g : Grw w w') => count_any (x / 86400) 68 d w' (by omega) (t.imp id (tab_grw g)) hd)
  have CH := Lib.hid (fun w => count_any (x % 86400 / 3600) 72 hh w (by omega) (Or.inl (by omega)) hhh)
  have CM := Lib.hid (fun w => count_any (x % 3600 / 60) 77 mm w (by omega) (Or.inl (by omega)) hmm)
  have CS := Lib.hid (fun w => count_any (x % 60) 83 ss w (by omega) (Or.inl (by omega)) hss)
  have hcl : (hh ++ mm ++ ss).data.toList = clk x := by rw [ba_app, ba_app, hhh, hmm, hss]; rfl
  have g1 : ((x : Int) % 604800 == 0) = false := by simp; omega
  have g2 : ((x : Int) == 0) = false := by simp; omega
  by_cases hc : clk x = []
  · have k1 : (hh ++ mm ++ ss).toList.isEmpty = true := by rw [Lib.toList_data, hcl, hc]; rfl
    have k2 : (hh ++ mm ++ ss).toList = [] := by rw [Lib.toList_data, hcl, hc]
    have e : b = ⟨#[80]⟩ ++ d ++ (hh ++ mm ++ ss) := ba_ext (by rw [hb, ba_app, ba_app, hd, hcl, printS, if_neg (by omega), if_neg hw, if_pos hc, hc]; rfl)
    have EB := Lib.hid e
    clear hb e t hd hhh hmm hss hcl hc
    go_enter Tryd.func26, Tryd.ntmps26
    go_wp2_with fail
    refine (CH.out _).mono ?_
    rintro _ w1 ⟨rfl, hw1⟩
    go_wp2_with fail
    refine (CM.out _).mono ?_
    rintro _ w2 ⟨rfl, hw2⟩
    go_wp2_with fail
    refine (CS.out _).mono ?_
    rintro _ w3 ⟨rfl, hw3⟩
    have G3 : Grw w w3 := Grw.trans (Grw.trans hw1 hw2) hw3
    clear hw1 hw2 hw3 CH CM CS
    go_wp2_with fail
    refine (CD.out _ G3).mono ?_
    rintro _ w4 ⟨rfl, hw4⟩
    go_wp2_with fail
    rw [EB.out]
    go_ret2
    exact ⟨rfl, Grw.trans G3 hw4⟩
  · have k1 : (hh ++ mm ++ ss).toList.isEmpty = false := by rw [Lib.toList_data, hcl, List.isEmpty_eq_false_iff]; exact hc
    have k2 : ¬ (hh ++ mm ++ ss).toList = [] := by rw [Lib.toList_data, hcl]; exact hc
    have e : b = ⟨#[80]⟩ ++ d ++ (⟨#[84]⟩ ++ (hh ++ mm ++ ss)) := ba_ext (by rw [hb, ba_app, ba_app, ba_app, hd, hcl, printS, if_neg (by omega), if_neg hw, if_neg hc]; rfl)
    have EB := Lib.hid e
    clear hb e t hd hhh hmm hss hcl hc
    go_enter Tryd.func26, Tryd.ntmps26
    go_wp2_with fail
    refine (CH.out _).mono ?_
    rintro _ w1 ⟨rfl, hw1⟩
    go_wp2_with fail
    refine (CM.out _).mono ?_
    rintro _ w2 ⟨rfl, hw2⟩
    go_wp2_with fail
    refine (CS.out _).mono ?_
    rintro _ w3 ⟨rfl, hw3⟩
    have G3 : Grw w w3 := Grw.trans (Grw.trans hw1 hw2) hw3
    clear hw1 hw2 hw3 CH CM CS
    go_wp2_with fail
    refine (CD.out _ G3).mono ?_
    rintro _ w4 ⟨rfl, hw4⟩
    go_wp2_with fail
    rw [EB.out]
    go_ret2
    exact ⟨rfl, Grw.trans G3 hw4⟩
end Go.Proofs.YtcdfjheklggfhaaDoor
