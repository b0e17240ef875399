/- The contract of wheel.store at a time beyond the rings, at this program. -/
import Derived.Test.YtjkhgpdhhnfmlaaDoorXc
import Derived.Test.YtjkhgpdhhnfmlaaDoorRv
import Derived.Deep.RegionLaw
namespace Go.Proofs.YtjkhgpdhhnfmlaaDoor
open Go.RowKit TM MK
open RG (Du La listR putB putR dropR dropO takeR hasId)
set_option linter.unusedSimpArgs false

theorem WG.bvp {w : World} {S : Sh} {now : Nat} {D : DataW Unit} {R : Nat → List La} {B : List Du} (h : WG w S now D R B) : S.bv.ownBlock ≠ some S.p := fun c => by have := h.apart 2 0 S.p c rfl; omega
set_option maxHeartbeats 4000000 in
set_option maxRecDepth 100000 in
theorem store_out (S : Sh) (now : Nat) (D : DataW Unit) (R : Nat → List La) (B : List Du) (d : Du) (w : World) (h : WG w S now D R B) (h6 : VM.lvl now d.t = 6) (hn : now < 2 ^ 64) (ht : d.t < 2 ^ 64) (hb : B.length ≤ 1000000) (hsrt : RG.Srt B) :
    Calls Tryd.prog 33 #[.pointer (some ⟨S.p, 0, none⟩), dv d] w fun e w' => e = .returned (.tuple #[]) ∧ WQ S w now D R (RG.put d B) w' := by
  have hpos : posS now d.t = -1 := by unfold posS; rw [if_pos h6]
  obtain ⟨di, dt⟩ := d
  simp only at h6 ht hpos
  have G := Lib.hid h
  have PO : Hid (∀ u, Grw w u → Calls Tryd.prog 40 #[.pointer (some ⟨S.p, 0, none⟩), .int .u64 dt] u fun e w' => e = .returned (.complex .f64 (floatOfInt .f64 (-1)) (floatOfInt .f64 6)) ∧ Grw u w') := (fun u g => position_is S.p now dt (-1) 6 u (h.later g).cells.c0 hn ht hpos h6 : ∀ u, Grw w u → Calls Tryd.prog 40 #[.pointer (some ⟨S.p, 0, none⟩), .int .u64 dt] u fun e w' => e = .returned (.complex .f64 (floatOfInt .f64 (-1)) (floatOfInt .f64 6)) ∧ Grw u w')
  have PA := Lib.hid (fun u => parts_any (-1) 6 u (by omega) (by omega) (by omega) (by omega))
  obtain ⟨ao, cap, hbv, _⟩ := ownsRow_lies h.own
  obtain ⟨n, hN⟩ : ∃ n, B.length = n := ⟨_, rfl⟩
  have C8 : Hid (∀ u, Grw w u → u.cell? ⟨S.p, 8, none⟩ = some (.slice ao n cap)) := (fun u g => by have := (h.later g).cells.c8; rw [hbv, hN] at this; exact this : ∀ u, Grw w u → u.cell? ⟨S.p, 8, none⟩ = some (.slice ao n cap))
  have SE : Hid (∀ u, Grw w u → Calls Tryd.prog 47 #[.slice ao n cap, .agg #[.int .i64 di, .int .u64 dt], .func (.func 53) #[] #[]] u (SearchQ ⟨di, dt⟩ B u)) := (fun u g => by
      have ho := (h.later g).own
      rw [hbv] at ho
      obtain ⟨ao2, cap2, e, hl⟩ := ownsRow_lies ho
      injection e with e1 e2 e3
      subst e1
      have := search_w ao cap B ⟨di, dt⟩ u hl hsrt hb
      rw [hN] at this
      exact this : ∀ u, Grw w u → Calls Tryd.prog 47 #[.slice ao n cap, .agg #[.int .i64 di, .int .u64 dt], .func (.func 53) #[] #[]] u (SearchQ ⟨di, dt⟩ B u))
  have SR := Lib.hid hsrt
  have HB := Lib.hid hb
  have HN := Lib.hid hN
  have BV := Lib.hid hbv
  have hpw : ¬ S.p = w.heap.size := by have := h.part_lt (i := 0) (g := S.p) rfl; omega
  have hpw2 : ¬ w.heap.size = S.p := fun e => hpw e.symm
  have hbw : ¬ (Value.slice ao n cap).ownBlock = some w.heap.size := fun e => by
    have := h.part_lt (i := 2) (g := w.heap.size) (by show S.bv.ownBlock = _; rw [hbv, hN]; exact e)
    omega
  have HW := Lib.hid hbw
  clear h hn ht hpos h6 hb hsrt hbv hN hbw
  unfold dv
  simp only
  go_enter Tryd.func33, Tryd.ntmps33
  go_wp2_with fail
  refine (PO.out _ ((Grw.rfl' _).alloc _)).mono ?_
  rintro _ w1 ⟨rfl, hg1⟩
  have K := Kp.grown hg1
  have G1 := Lib.hid hg1.two
  have c0 := K.t.c0
  have c1 := K.t.c1
  have c8 := C8.out _ G1.out
  clear hg1
  go_wp2_with fail
  refine (PA.out _).mono ?_
  rintro _ w2 ⟨rfl, rfl⟩
  go_wp2_with fail
  go_region_held3 (fun u => u.cell? ⟨w.heap.size, 0, none⟩ = some (.int .i64 di) ∧ u.cell? ⟨w.heap.size, 1, none⟩ = some (.int .u64 dt) ∧ u.cell? ⟨S.p, 8, none⟩ = some (.slice ao n cap)) (first | go_keep | exact ⟨hg2.cell c0, hg2.cell c1, hg2.cell c8⟩)
    (first | (go_at_call 47; refine (SE.out w1.drew G1.out.drew).mono ?_; rintro _ w2 ⟨p, o, rfl, hplc, hg2⟩))
  have G2 : Hid (Grw w w2) := (G1.out.trans (((Grw.rfl' w1).drew).trans hg2) : Grw w w2)
  have K2 := K.later (((Grw.rfl' w1).drew).trans hg2)
  have d0 := K2.t.c0
  have d1 := K2.t.c1
  have d8 := C8.out _ G2.out
  have PL := Lib.hid hplc
  obtain ⟨l', hl'⟩ : ∃ l', B.take p ++ ⟨di, dt⟩ :: B.drop p = l' := ⟨_, rfl⟩
  have LP : Hid (RG.put ⟨di, dt⟩ B = l') := ((plc_sort SR.out PL.out).symm.trans hl' : RG.put ⟨di, dt⟩ B = l')
  have IN : Hid (∀ u : World, u.heap = (w2.alloc (.cells #[.int .i64 di, .int .u64 dt] 42)).heap → Calls Tryd.prog 54 #[.slice ao n cap, .int .i64 p, .slice (some ⟨w2.heap.size, 0, none⟩) 1 1] u (RowQ (.slice ao n cap) l' u)) := (fun u hu => by
      have ho := ((G.out.later G2.out).own).alloc (.cells #[.int .i64 di, .int .u64 dt] 42)
      rw [BV.out] at ho
      have ho' : u.ownsRow 0 42 2 (.slice ao B.length cap) B.length (cd B) := by
        refine ⟨ho.1, ?_⟩
        rw [hu]; exact ho.2
      rw [← HN.out, ← hl']
      refine insert_any _ p B ⟨di, dt⟩ w2.heap.size u ho' HB.out PL.out.1 (by rw [hu]; exact heap_alloc_new w2 _) (fun e => ?_)
      have := (G.out.later G2.out).part_lt (i := 2) (g := w2.heap.size) (by show S.bv.ownBlock = _; rw [BV.out]; exact e)
      omega : ∀ u : World, u.heap = (w2.alloc (.cells #[.int .i64 di, .int .u64 dt] 42)).heap → Calls Tryd.prog 54 #[.slice ao n cap, .int .i64 p, .slice (some ⟨w2.heap.size, 0, none⟩) 1 1] u (RowQ (.slice ao n cap) l' u))
  have AF : Hid (∀ (u x : World), u.heap = (w2.alloc (.cells #[.int .i64 di, .int .u64 dt] 42)).heap → Frm (fun k => (Value.slice ao n cap).ownBlock = some k) u x → x.cell? ⟨S.p, 8, none⟩ = some (.slice ao n cap) ∧ x.frozen? ⟨S.p, 8, none⟩ = false ∧ x.cell? ⟨w.heap.size, 0, none⟩ = some (.int .i64 di) ∧ x.cell? ⟨w.heap.size, 1, none⟩ = some (.int .u64 dt)) := (fun u x hu hf => by
      have hr := (G.out.later G2.out).later ((Grw.rfl' w2).alloc (.cells #[.int .i64 di, .int .u64 dt] 42))
      have hblk : u.heap[S.p]? = some (.cells (wcells S now) 74 (0, 0)) := by rw [hu]; exact hr.blk
      have hx : x.heap[S.p]? = some (.cells (wcells S now) 74 (0, 0)) := by
        rw [hf.block S.p (Array.getElem?_eq_some_iff.1 hblk).1 (fun e => G.out.bvp (by rw [BV.out, HN.out]; exact e))]
        exact hblk
      have e0 : u.cell? ⟨w.heap.size, 0, none⟩ = some (.int .i64 di) := by
        rw [World.cell?, hu]; exact ((Grw.rfl' w2).alloc _).cell d0
      have e1 : u.cell? ⟨w.heap.size, 1, none⟩ = some (.int .u64 dt) := by
        rw [World.cell?, hu]; exact ((Grw.rfl' w2).alloc _).cell d1
      have hbv := BV.out
      rw [HN.out] at hbv
      exact ⟨by simp [World.cell?, hx, wcells, hbv], by simp [World.frozen?, hx], hf.cell e0 HW.out, hf.cell e1 HW.out⟩ : ∀ (u x : World), u.heap = (w2.alloc (.cells #[.int .i64 di, .int .u64 dt] 42)).heap → Frm (fun k => (Value.slice ao n cap).ownBlock = some k) u x → x.cell? ⟨S.p, 8, none⟩ = some (.slice ao n cap) ∧ x.frozen? ⟨S.p, 8, none⟩ = false ∧ x.cell? ⟨w.heap.size, 0, none⟩ = some (.int .i64 di) ∧ x.cell? ⟨w.heap.size, 1, none⟩ = some (.int .u64 dt))
  have hq1 : ¬ S.p = w2.heap.size := by have := (G.out.later G2.out).part_lt (i := 0) (g := S.p) rfl; omega
  have hq2 : ¬ w2.heap.size = S.p := fun e => hq1 e.symm
  have hq3 : ¬ w.heap.size = w2.heap.size := by have := K2.lt; omega
  have hq4 : ¬ w2.heap.size = w.heap.size := fun e => hq3 e.symm
  have e8 := ((Grw.rfl' w2).alloc (.cells #[.int .i64 di, .int .u64 dt] 42)).cell d8
  clear hg2 hplc c0 c1 c8 K K2 hl'
  go_wp2_with fail
  go_region_law (first | (go_simp; go_at_call 54; refine (IN.out ((w2.alloc (.cells #[.int .i64 di, .int .u64 dt] 42)).drew) rfl).mono ?_; rintro _ w3 ⟨v', rfl, hown, hfrm, hblk⟩; obtain ⟨ao', cap', rfl, hl'⟩ := ownsRow_lies hown; have hcc := (AF.out ((w2.alloc (.cells #[.int .i64 di, .int .u64 dt] 42)).drew) w3 rfl hfrm).1; have hcf := (AF.out ((w2.alloc (.cells #[.int .i64 di, .int .u64 dt] 42)).drew) w3 rfl hfrm).2.1; have hc0 := (AF.out ((w2.alloc (.cells #[.int .i64 di, .int .u64 dt] 42)).drew) w3 rfl hfrm).2.2.1; have hc1 := (AF.out ((w2.alloc (.cells #[.int .i64 di, .int .u64 dt] 42)).drew) w3 rfl hfrm).2.2.2))
  all_goals
    have U := Lib.hid (WG.beyondStep G.out ((G2.out.alloc (.cells #[.int .i64 di, .int .u64 dt] 42)).drew) (by rw [BV.out, HN.out]; exact hfrm) hown (by
        rw [BV.out, HN.out]
        rcases hblk with e | ⟨q, e, hq⟩
        · exact Or.inl e
        · refine Or.inr (Or.inr ⟨q, e, Nat.le_trans (Below.size ((G2.out.alloc (.cells #[.int .i64 di, .int .u64 dt] 42)).drew)) hq⟩)))
    clear hown hfrm hblk hl' hcc hcf hc0 hc1
    exact bodyPost_end (v := .tuple #[]) (by simp [results, Tryd.results33, go_sem]) rfl ⟨rfl, by rw [LP.out]; exact U.out⟩
end Go.Proofs.YtjkhgpdhhnfmlaaDoor
