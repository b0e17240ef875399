/- The law RingOnce at this program. -/
import Derived.Test.YtlihcljjpalapaaTb
namespace Go.Proofs.Ytlihcljjpalapaa
open Go.RowKit MK
open RG (Du La listR putB putR dropR dropO takeR hasId)
set_option linter.unusedSimpArgs false

theorem list_is (b : Nat) (A : Array Value) (R : List La) (i : Int) (l : List Du) (w : World) (h : RingR w b A R) (h1 : listR R i = l) :
    Calls Try.prog 10 #[.pointer (some ⟨b, 0, none⟩), .int .i64 i] w (CloneQ l w) := by rw [← h1]; exact list_R b A R i w h
theorem drop_is (b : Nat) (A : Array Value) (R R' : List La) (i : Int) (v : Int) (o : Bool) (w : World) (h : RingR w b A R) (h1 : ov (dropO R i) = v) (h2 : (dropO R i).isSome = o) (h3 : dropR R i = R') :
    Calls Try.prog 9 #[.pointer (some ⟨b, 0, none⟩), .int .i64 i] w fun e w' => e = .returned (.tuple #[.int .i64 v, .bool o]) ∧ RQ b A w R' w' := by rw [← h1, ← h2, ← h3]; exact drop_R b A R i w h
theorem mask_is (b : Nat) (A : Array Value) (R : List La) (m : Nat) (w : World) (h : RingR w b A R) (h1 : mR R = m) :
    Calls Try.prog 8 #[.pointer (some ⟨b, 0, none⟩)] w fun e w' => e = .returned (.int .u64 (m : Nat)) ∧ w = w' := by rw [← h1]; exact mask_R b A R w h
theorem mhas_is (m : Nat) (i : Int) (o : Bool) (w : World) (hm : m < 18446744073709551616) (h : has m i = o) :
    Calls Try.prog 7 #[.int .u64 m, .int .i64 i] w fun e w' => e = .returned (.bool o) ∧ w = w' := by rw [← h]; exact has_any m i w hm
theorem one_put (x : Nat) (hx : x < 64) (d : Du) : putB [] (x : Int) d = true ∧ putR [] (x : Int) d = [⟨(x : Int), d⟩] ∧ listR [⟨(x : Int), d⟩] (x : Int) = [d] := by
  have hb : putB [] (x : Int) d = true := by unfold RG.putB RG.slotB RG.hasId; simp; omega
  refine ⟨hb, by unfold RG.putR; rw [if_pos hb]; rfl, ?_⟩
  unfold RG.listR RG.inSlot
  simp
  rfl
theorem one_again (x : Int) (y : Int) (d e : Du) (h : d.id = e.id) : putB [⟨x, d⟩] y e = false ∧ putR [⟨x, d⟩] y e = [⟨x, d⟩] := by
  have hb : putB [⟨x, d⟩] y e = false := by unfold RG.putB RG.hasId; simp [h]
  exact ⟨hb, by unfold RG.putR; rw [if_neg (by rw [hb]; decide)]⟩
theorem one_drop (x : Int) (d : Du) : dropO [⟨x, d⟩] d.id = some x ∧ dropR [⟨x, d⟩] d.id = [] := by
  constructor
  · unfold RG.dropO; simp
  · unfold RG.dropR; simp
theorem one_has (x : Nat) (hx : x < 64) (d : Du) : has (mR [⟨(x : Int), d⟩]) (x : Int) = true := by
  rw [has_nat _ _ hx]
  unfold mR
  rw [ofL_bit _ _ hx]
  simp
set_option maxHeartbeats 4000000 in
set_option maxRecDepth 100000 in
theorem once_holds (d : Du) (a c : Nat) (ha : a < 256) (hc : c < 256) (w : World) : Calls Try.prog 3 #[dv d, .int .u8 a, .int .u8 c] w fun e w' => e = .returned (.bool true) ∧ Grw w w' := by
  obtain ⟨di, dt⟩ := d
  obtain ⟨x, hx⟩ : ∃ x, a % 64 = x := ⟨_, rfl⟩
  obtain ⟨y, hy⟩ : ∃ y, c % 64 = y := ⟨_, rfl⟩
  have hx' : x < 64 := by omega
  have hy' : y < 64 := by omega
  have x1 : (a : Int).tmod 64 = (x : Int) := by rw [Int.tmod_eq_emod_of_nonneg (by omega)]; omega
  have x2 : (a : Int) % 64 = (x : Int) := by omega
  have y1 : (c : Int).tmod 64 = (y : Int) := by rw [Int.tmod_eq_emod_of_nonneg (by omega)]; omega
  have y2 : (c : Int) % 64 = (y : Int) := by omega
  have NW := Lib.hid (fun u => newR u)
  have P1 := fun b A u (h : RingR u b A []) => put_is b A [] _ (x : Int) ⟨di, dt⟩ true u h (by decide) (one_put x hx' ⟨di, dt⟩).1 (one_put x hx' ⟨di, dt⟩).2.1
  have P2 := fun b A u (h : RingR u b A [⟨(x : Int), ⟨di, dt⟩⟩]) => put_is b A _ _ (y : Int) ⟨di, dt⟩ false u h (by simp) (one_again x y ⟨di, dt⟩ ⟨di, dt⟩ rfl).1 (one_again x y ⟨di, dt⟩ ⟨di, dt⟩ rfl).2
  have P3 := fun b A u (h : RingR u b A [⟨(x : Int), ⟨di, dt⟩⟩]) => put_is b A _ _ (x : Int) ⟨di, 0⟩ false u h (by simp) (one_again x x ⟨di, dt⟩ ⟨di, 0⟩ rfl).1 (one_again x x ⟨di, dt⟩ ⟨di, 0⟩ rfl).2
  have P4 := fun b A u (h : RingR u b A []) => put_is b A [] _ (y : Int) ⟨di, dt⟩ true u h (by decide) (one_put y hy' ⟨di, dt⟩).1 (one_put y hy' ⟨di, dt⟩).2.1
  have E1 := Lib.hid (fun b A u (h : RingR u b A [⟨(x : Int), ⟨di, dt⟩⟩]) => len_is b A _ 1 u h rfl)
  have E2 := Lib.hid (fun b A u (h : RingR u b A [⟨(y : Int), ⟨di, dt⟩⟩]) => len_is b A _ 1 u h rfl)
  have mlt : mR [⟨(x : Int), ⟨di, dt⟩⟩] < 18446744073709551616 := ofL_lt _
  have mhas := one_has x hx' ⟨di, dt⟩
  obtain ⟨m, hm⟩ : ∃ m, mR [⟨(x : Int), ⟨di, dt⟩⟩] = m := ⟨_, rfl⟩
  rw [hm] at mlt mhas
  have M1 := Lib.hid (fun b A u (h : RingR u b A [⟨(x : Int), ⟨di, dt⟩⟩]) => mask_is b A _ m u h hm)
  have HA := Lib.hid (fun u => mhas_is m (x : Int) true u mlt mhas)
  have M0 := Lib.hid (fun b A u (h : RingR u b A []) => mask_is b A [] 0 u h rfl)
  have D1 := Lib.hid (fun b A u (h : RingR u b A [⟨(x : Int), ⟨di, dt⟩⟩]) => drop_is b A _ [] di (x : Int) true u h (by rw [(one_drop x ⟨di, dt⟩).1]; rfl) (by rw [(one_drop x ⟨di, dt⟩).1]; rfl) (one_drop x ⟨di, dt⟩).2)
  have D2 := Lib.hid (fun b A u (h : RingR u b A []) => drop_is b A [] [] di 0 false u h rfl rfl rfl)
  have L1 := Lib.hid (fun b A u (h : RingR u b A [⟨(y : Int), ⟨di, dt⟩⟩]) => list_is b A _ (y : Int) [⟨di, dt⟩] u h (one_put y hy' ⟨di, dt⟩).2.2)
  have WK := Lib.hid (fun u => wakes_any u)
  unfold dv at P1 P2 P3 P4 ⊢
  simp only at P1 P2 P3 P4 ⊢
  have P1 := Lib.hid P1
  have P2 := Lib.hid P2
  have P3 := Lib.hid P3
  have P4 := Lib.hid P4
  have hxi : ((x : Int) != (x : Int)) = false := by simp
  clear hx hy mlt mhas hm
  go_enter Try.func3, Try.ntmps3
  go_wp2_with fail
  refine (NW.out _).mono ?_
  rintro _ w1 ⟨rfl, hr, hg1, _⟩
  obtain ⟨b, hb⟩ : ∃ b, (w.alloc (.cells #[.int .i64 di, .int .u64 dt] 24)).heap.size = b := ⟨_, rfl⟩
  obtain ⟨A, hA⟩ : ∃ A, Array.replicate 64 (Value.slice none 0 0) = A := ⟨_, rfl⟩
  obtain ⟨wd, hwd⟩ : ∃ wd, w.alloc (.cells #[.int .i64 di, .int .u64 dt] 24) = wd := ⟨_, rfl⟩
  have KP : Hid (∀ u, Grw wd u → Kp u w.heap.size (.int .i64 di) (.int .u64 dt)) := (fun u g => by rw [← hwd] at g; exact Kp.grown g : ∀ u, Grw wd u → Kp u w.heap.size (.int .i64 di) (.int .u64 dt))
  have GD : Hid (Grw w wd) := (by rw [← hwd]; exact (Grw.rfl' w).alloc _ : Grw w wd)
  have H1 : Hid (RingR w1 b A [] ∧ Mine wd b A ∧ Grw wd w1) := (by
    have hmn := mine_new (w.alloc (.cells #[.int .i64 di, .int .u64 dt] 24))
    rw [hA, hb, hwd] at hmn
    rw [hA, hb] at hr
    rw [hwd] at hg1
    exact ⟨hr, hmn, hg1⟩ : RingR w1 b A [] ∧ Mine wd b A ∧ Grw wd w1)
  rw [hb]
  clear hr hg1 hb hA hwd
  have c0 := (KP.out _ H1.out.2.2).t.c0
  have c1 := (KP.out _ H1.out.2.2).t.c1
  go_wp2_with fail
  refine (P1.out b A _ H1.out.1).mono ?_
  rintro _ w2 ⟨rfl, hq⟩
  obtain ⟨A2, h2⟩ := hq.out H1.out.2.1 H1.out.2.2
  have H2 := Lib.hid h2
  clear hq h2 c0 c1
  have c0 := (KP.out _ H2.out.2.2).t.c0
  have c1 := (KP.out _ H2.out.2.2).t.c1
  go_wp2_with fail
  refine (P2.out b A2 _ H2.out.1).mono ?_
  rintro _ w3 ⟨rfl, hq⟩
  obtain ⟨A3, h3⟩ := hq.out H2.out.2.1 H2.out.2.2
  have H3 := Lib.hid h3
  clear hq h3 c0 c1
  have c0 := (KP.out _ H3.out.2.2).t.c0
  have c1 := (KP.out _ H3.out.2.2).t.c1
  go_wp2_with fail
  refine (P3.out b A3 _ H3.out.1).mono ?_
  rintro _ w4 ⟨rfl, hq⟩
  obtain ⟨A4, h4⟩ := hq.out H3.out.2.1 H3.out.2.2
  have H4 := Lib.hid h4
  clear hq h4 c0 c1
  have c0 := (KP.out _ H4.out.2.2).t.c0
  have c1 := (KP.out _ H4.out.2.2).t.c1
  go_wp2_with fail
  refine (E1.out b A4 _ H4.out.1).mono ?_
  rintro _ w5 ⟨rfl, rfl⟩
  go_wp2_with fail
  refine (M1.out b A4 _ H4.out.1).mono ?_
  rintro _ w5 ⟨rfl, rfl⟩
  go_wp2_with fail
  refine (HA.out _).mono ?_
  rintro _ w5 ⟨rfl, rfl⟩
  go_wp2_with fail
  refine (D1.out b A4 _ H4.out.1).mono ?_
  rintro _ w5 ⟨rfl, hq⟩
  obtain ⟨A5, h5⟩ := hq.out H4.out.2.1 H4.out.2.2
  have H5 := Lib.hid h5
  clear hq h5 c0 c1
  have c0 := (KP.out _ H5.out.2.2).t.c0
  have c1 := (KP.out _ H5.out.2.2).t.c1
  go_wp2_with fail
  refine (D2.out b A5 _ H5.out.1).mono ?_
  rintro _ w6 ⟨rfl, hq⟩
  obtain ⟨A6, h6⟩ := hq.out H5.out.2.1 H5.out.2.2
  have H6 := Lib.hid h6
  clear hq h6 c0 c1
  have c0 := (KP.out _ H6.out.2.2).t.c0
  have c1 := (KP.out _ H6.out.2.2).t.c1
  go_wp2_with fail
  refine (M0.out b A6 _ H6.out.1).mono ?_
  rintro _ w7 ⟨rfl, rfl⟩
  go_wp2_with fail
  refine (P4.out b A6 _ H6.out.1).mono ?_
  rintro _ w7 ⟨rfl, hq⟩
  obtain ⟨A7, h7⟩ := hq.out H6.out.2.1 H6.out.2.2
  have H7 := Lib.hid h7
  clear hq h7 c0 c1
  go_wp2_with fail
  refine (L1.out b A7 _ H7.out.1).mono ?_
  rintro _ w8 ⟨v, rfl, hown, hg8⟩
  obtain ⟨ao, cap, rfl, hl⟩ := ownsRow_lies hown
  obtain ⟨lb, loff, rfl, e0, e1⟩ := lies_at hl (j := 0) (by simp)
  simp only [Nat.zero_mul, Nat.add_zero, List.getElem_cons_zero] at e0 e1
  have H8 := Lib.hid (And.intro (H7.out.1.later hg8) (H7.out.2.2.trans hg8))
  clear hown hl hg8
  have c0 := gw_cell (KP.out _ H8.out.2).t.c0
  have c1 := gw_cell (KP.out _ H8.out.2).t.c1
  have f0 := gw_cell e0
  have f1 := gw_cell e1
  have EE := Lib.hid (fun p : GW w8 => E2.out b A7 p.x (H8.out.1.later p.h))
  clear e0 e1
  go_wp2_with fail
  refine wp_region_grown (by kernel_rfl) (by kernel_rfl) ?_
  repeat (go_big_quiet_step (first | (go_at_call 6; exact calls_grown_same (EE.out _)) | (go_at_call 11; exact calls_grown (WK.out _))))
  refine wpQuiet_nil ?_
  rintro _ ⟨q', rfl⟩
  have GQ := Lib.hid (GD.out.trans (H8.out.2.trans q'.h))
  clear c0 c1 f0 f1
  go_wp2_with fail
  go_ret
  exact ⟨rfl, GQ.out⟩
end Go.Proofs.Ytlihcljjpalapaa
