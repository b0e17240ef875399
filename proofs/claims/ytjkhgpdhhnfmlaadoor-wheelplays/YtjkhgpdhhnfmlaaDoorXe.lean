/- The contract of wheel.unstore at this program. -/
import Derived.Test.YtjkhgpdhhnfmlaaDoorXc
import Derived.Test.YtjkhgpdhhnfmlaaDoorRv
namespace Go.Proofs.YtjkhgpdhhnfmlaaDoor
open Go.RowKit TM MK
open RG (Du La listR putB putR dropR dropO takeR hasId)
set_option linter.unusedSimpArgs false

set_option maxHeartbeats 4000000 in
set_option maxRecDepth 100000 in
theorem unstore_in (S : Sh) (now : Nat) (D : DataW Unit) (R : Nat → List La) (B : List Du) (d : Du) (k : Nat) (w : World) (h : WG w S now D R B) (hk : VM.lvl now d.t = k) (hk6 : k < 6) (hn : now < 2 ^ 64) (ht : d.t < 2 ^ 64) :
    Calls Tryd.prog 36 #[.pointer (some ⟨S.p, 0, none⟩), dv d] w fun e w' => e = .returned (.tuple #[]) ∧ WQ S w now D (updN R k (dropR (R k) d.id)) B w' := by
  obtain ⟨s, hs⟩ : ∃ s, VM.dg d.t k = s := ⟨_, rfl⟩
  have hs64 : s < 64 := by rw [← hs]; exact VM.dg_lt _ _
  have hpos : posS now d.t = (s : Int) := by unfold posS; rw [if_neg (by omega), hk, hs]
  obtain ⟨di, dt⟩ := d
  simp only at hk ht hpos
  have G := Lib.hid h
  have PO := Lib.hid (fun u (g : Grw w u) => position_is S.p now dt s k u (h.later g).cells.c0 hn ht hpos hk)
  have PA := Lib.hid (fun u => parts_any (s : Int) (k : Int) u (by omega) (by omega) (by omega) (by omega))
  have PU := Lib.hid (fun u (g : Grw w u) => drop_R (S.rb k) (S.A k) (R k) di u ((h.later g).ring k hk6))
  have hki : (k : Int) < 6 := by omega
  have PT := Lib.hid (fun u (g : Grw w u) => (h.later g).ptr hk6)
  have NF : Hid (¬ foot (S.rb k) (S.A k) w.heap.size ∧ ¬ foot (S.rb k) (S.A k) S.p) := (⟨fun e => by have := (h.ring k hk6).ring.foot_lt e; omega, fun e => by have := h.apart (k + 3) 0 S.p ⟨hk6, e⟩ rfl; omega⟩ : ¬ foot (S.rb k) (S.A k) w.heap.size ∧ ¬ foot (S.rb k) (S.A k) S.p)
  clear h hn ht hpos hk hs
  unfold dv
  simp only
  go_enter Tryd.func36, Tryd.ntmps36
  go_wp2_with fail
  refine (PO.out _ ((Grw.rfl' _).alloc _)).mono ?_
  rintro _ w1 ⟨rfl, hg1⟩
  have K := Kp.grown hg1
  have G1 := Lib.hid hg1.two
  have c0 := K.t.c0
  have c1 := K.t.c1
  have c2 := PT.out _ G1.out
  clear hg1 K
  go_wp2_with fail
  refine (PA.out _).mono ?_
  rintro _ w2 ⟨rfl, rfl⟩
  go_wp2_with fail
  go_region_held3 (fun u => u.cell? ⟨w.heap.size, 0, none⟩ = some (.int .i64 di) ∧ u.cell? ⟨w.heap.size, 1, none⟩ = some (.int .u64 dt) ∧ u.cell? ⟨S.p, 2 + k, none⟩ = some (.pointer (some ⟨S.rb k, 0, none⟩))) (first | go_keep | exact xa)
    (first | (go_at_call 56; refine (PU.out w1.drew G1.out.drew).mono ?_; rintro _ y1 ⟨rfl, hq1⟩; have xa : y1.cell? ⟨w.heap.size, 0, none⟩ = some (.int .i64 di) ∧ y1.cell? ⟨w.heap.size, 1, none⟩ = some (.int .u64 dt) ∧ y1.cell? ⟨S.p, 2 + k, none⟩ = some (.pointer (some ⟨S.rb k, 0, none⟩)) := ⟨hq1.frm.cell c0 NF.out.1, hq1.frm.cell c1 NF.out.1, hq1.frm.cell c2 NF.out.2⟩))
  have U := Lib.hid (WG.ringStep (G.out.later G1.out.drew) hk6 hq1)
  clear hq1 xa c0 c1 c2
  go_wp2_with fail
  exact bodyPost_ret (v := .tuple #[]) (by simp [results, Tryd.results36, go_sem]) rfl ⟨rfl, U.out.pre G1.out.drew⟩
theorem plc_mem {d : Du} {l : List Du} {p : Nat} (hs : RG.Srt l) (h : Plc d l p) (hd : d ∈ l) : ∃ hp : p < l.length, l[p] = d := by
  obtain ⟨j, hj, rfl⟩ := List.mem_iff_getElem.1 hd
  rcases Nat.lt_trichotomy j p with g | g | g
  · have := h.2.1 j hj g
    rw [RG.less_irrefl] at this; cases this
  · subst g; exact ⟨hj, rfl⟩
  · have h1 : RG.le l[j] l[p] := h.2.2 p (by omega) (Nat.le_refl _)
    have h2 := List.pairwise_iff_getElem.1 hs p j (by omega) hj g
    exact ⟨by omega, RG.le_antisymm h2 h1⟩
theorem del_at {L : List Du} (hn : (VM.idsD L).Nodup) {j : Nat} (hj : j < L.length) : VM.del L[j].id L = L.take j ++ L.drop (j + 1) := by
  have hn' : ∀ a b, (ha : a < L.length) → (hb : b < L.length) → (L[a]).id = (L[b]).id → a = b := by
    intro a b ha hb hab
    unfold VM.idsD List.Nodup at hn
    rw [List.pairwise_map, List.pairwise_iff_getElem] at hn
    rcases Nat.lt_trichotomy a b with q | q | q
    · exact absurd hab (hn a b ha hb q)
    · exact q
    · exact absurd hab.symm (hn b a hb ha q)
  have e1 : (L.take j).filter (fun d => decide (d.id ≠ L[j].id)) = L.take j := by
    rw [List.filter_eq_self]
    intro x hx
    obtain ⟨a, ha, rfl⟩ := List.mem_take_iff_getElem.1 hx
    rw [decide_eq_true_eq]
    intro q
    have := hn' a j (by omega) hj q
    omega
  have e2 : (L.drop (j + 1)).filter (fun d => decide (d.id ≠ L[j].id)) = L.drop (j + 1) := by
    rw [List.filter_eq_self]
    intro x hx
    obtain ⟨a, ha, rfl⟩ := List.mem_drop_iff_getElem.1 hx
    rw [decide_eq_true_eq]
    intro q
    have := hn' (j + 1 + a) j (by omega) hj q
    omega
  have e3 : L = L.take j ++ L[j] :: L.drop (j + 1) := by rw [← List.drop_eq_getElem_cons hj, List.take_append_drop]
  unfold VM.del
  conv => lhs; arg 2; rw [e3]
  rw [List.filter_append, List.filter_cons, e1, e2]
  simp
set_option maxHeartbeats 4000000 in
set_option maxRecDepth 100000 in
theorem unstore_out (S : Sh) (now : Nat) (D : DataW Unit) (R : Nat → List La) (B : List Du) (d : Du) (w : World) (h : WG w S now D R B) (h6 : VM.lvl now d.t = 6) (hn : now < 2 ^ 64) (ht : d.t < 2 ^ 64) (hb : B.length ≤ 1000000) (hsrt : RG.Srt B) (hnd : (VM.idsD B).Nodup) (hd : d ∈ B) :
    Calls Tryd.prog 36 #[.pointer (some ⟨S.p, 0, none⟩), dv d] w fun e w' => e = .returned (.tuple #[]) ∧ WQ S w now D R (VM.del d.id B) w' := by
  have hpos : posS now d.t = -1 := by unfold posS; rw [if_pos h6]
  obtain ⟨di, dt⟩ := d
  simp only at h6 ht hpos
  have G := Lib.hid h
  have PO : Hid (∀ u, Grw w u → Calls Tryd.prog 40 #[.pointer (some ⟨S.p, 0, none⟩), .int .u64 dt] u fun e w' => e = .returned (.complex .f64 (floatOfInt .f64 (-1)) (floatOfInt .f64 6)) ∧ Grw u w') := (fun u g => position_is S.p now dt (-1) 6 u (h.later g).cells.c0 hn ht hpos h6 : ∀ u, Grw w u → Calls Tryd.prog 40 #[.pointer (some ⟨S.p, 0, none⟩), .int .u64 dt] u fun e w' => e = .returned (.complex .f64 (floatOfInt .f64 (-1)) (floatOfInt .f64 6)) ∧ Grw u w')
  have PA := Lib.hid (fun u => parts_any (-1) 6 u (by omega) (by omega) (by omega) (by omega))
  obtain ⟨ao, cap, hbv, _⟩ := ownsRow_lies h.own
  obtain ⟨n, hN⟩ : ∃ n, B.length = n := ⟨_, rfl⟩
  have C8 : Hid (∀ u, Grw w u → u.cell? ⟨S.p, 8, none⟩ = some (.slice ao n cap)) := (fun u g => by have := (h.later g).cells.c8; rw [hbv, hN] at this; exact this : ∀ u, Grw w u → u.cell? ⟨S.p, 8, none⟩ = some (.slice ao n cap))
  have SE : Hid (∀ u, Grw w u → Calls Tryd.prog 47 #[.slice ao n cap, .agg #[.int .i64 di, .int .u64 dt], .func (.func 53) #[] #[]] u (SearchQ ⟨di, dt⟩ B u)) := (fun u g => by
      have ho := (h.later g).own
      rw [hbv] at ho
      obtain ⟨ao2, cap2, e, hl⟩ := ownsRow_lies ho
      injection e with e1 e2 e3
      subst e1
      have := search_w ao cap B ⟨di, dt⟩ u hl hsrt hb
      rw [hN] at this
      exact this : ∀ u, Grw w u → Calls Tryd.prog 47 #[.slice ao n cap, .agg #[.int .i64 di, .int .u64 dt], .func (.func 53) #[] #[]] u (SearchQ ⟨di, dt⟩ B u))
  have DL : Hid (∀ p, Plc ⟨di, dt⟩ B p → p < n ∧ ∀ u, Grw w u → Calls Tryd.prog 57 #[.slice ao n cap, .int .i64 p, .int .i64 ((p : Int) + 1)] u (DelQ (.slice ao n cap) (VM.del di B) u)) := (fun p hp => by
      obtain ⟨h1, h2⟩ := plc_mem hsrt hp hd
      refine ⟨by omega, fun u g => ?_⟩
      have ho := (h.later g).own
      rw [hbv] at ho
      have := delete_any _ p (B.length - p - 1) B u ho hb (by omega)
      have e := del_at hnd h1
      rw [h2] at e
      rw [← e, hN] at this
      exact this : ∀ p, Plc ⟨di, dt⟩ B p → p < n ∧ ∀ u, Grw w u → Calls Tryd.prog 57 #[.slice ao n cap, .int .i64 p, .int .i64 ((p : Int) + 1)] u (DelQ (.slice ao n cap) (VM.del di B) u))
  have AF : Hid (∀ (u x : World), Grw w u → Frm (fun q => (Value.slice ao n cap).ownBlock = some q) u x → x.cell? ⟨S.p, 8, none⟩ = some (.slice ao n cap) ∧ x.frozen? ⟨S.p, 8, none⟩ = false) := (fun u x g hf => by
      have hr := h.later g
      have hx : x.heap[S.p]? = some (.cells (wcells S now) 74 (0, 0)) := by
        rw [hf.block S.p (hr.part_lt (i := 0) rfl) (fun e => (fun c => by have := h.apart 2 0 S.p c rfl; omega : S.bv.ownBlock ≠ some S.p) (by rw [hbv, hN]; exact e))]
        exact hr.blk
      rw [hN] at hbv
      exact ⟨by simp [World.cell?, hx, wcells, hbv], by simp [World.frozen?, hx]⟩ : ∀ (u x : World), Grw w u → Frm (fun q => (Value.slice ao n cap).ownBlock = some q) u x → x.cell? ⟨S.p, 8, none⟩ = some (.slice ao n cap) ∧ x.frozen? ⟨S.p, 8, none⟩ = false)
  have HN := Lib.hid hN
  have hn6 : n ≤ 1000000 := by omega
  have BV := Lib.hid hbv
  clear h hn ht hpos h6 hb hsrt hbv hN hnd hd
  unfold dv
  simp only
  go_enter Tryd.func36, Tryd.ntmps36
  go_wp2_with fail
  refine (PO.out _ ((Grw.rfl' _).alloc _)).mono ?_
  rintro _ w1 ⟨rfl, hg1⟩
  have K := Kp.grown hg1
  have G1 := Lib.hid hg1.two
  have c0 := K.t.c0
  have c1 := K.t.c1
  have c8 := C8.out _ G1.out
  clear hg1
  go_wp2_with fail
  refine (PA.out _).mono ?_
  rintro _ w2 ⟨rfl, rfl⟩
  go_wp2_with fail
  go_region_held3 (fun u => u.cell? ⟨w.heap.size, 0, none⟩ = some (.int .i64 di) ∧ u.cell? ⟨w.heap.size, 1, none⟩ = some (.int .u64 dt) ∧ u.cell? ⟨S.p, 8, none⟩ = some (.slice ao n cap)) (first | go_keep | exact ⟨hg2.cell c0, hg2.cell c1, hg2.cell c8⟩)
    (first | (go_at_call 47; refine (SE.out w1.drew G1.out.drew).mono ?_; rintro _ w2 ⟨p, o, rfl, hplc, hg2⟩))
  have G2 : Hid (Grw w w2) := (G1.out.trans (((Grw.rfl' w1).drew).trans hg2) : Grw w w2)
  have d8 := C8.out _ G2.out
  obtain ⟨hpn, hdl⟩ := DL.out p hplc
  have DE := Lib.hid (hdl w2 G2.out)
  have hw1 : IntKind.i64.wrap ((p : Int) + 1) = (p : Int) + 1 := by rw [IntKind.wrap_i64]; omega
  clear hg2 hplc c0 c1 c8 K hdl
  go_wp2_with fail
  refine DE.out.mono ?_
  rintro _ w3 ⟨v', rfl, hown, hfrm, hblk⟩
  obtain ⟨ao', cap', rfl, hl'⟩ := ownsRow_lies hown
  have hcc := (AF.out w2 w3 G2.out hfrm).1
  have hcf := (AF.out w2 w3 G2.out hfrm).2
  have U := Lib.hid (WG.beyondStep G.out G2.out (by rw [BV.out, HN.out]; exact hfrm) hown (by rw [BV.out, HN.out]; exact Or.inl hblk))
  clear hown hfrm hblk hl'
  go_wp2_with fail
  exact bodyPost_end (v := .tuple #[]) (by simp [results, Tryd.results36, go_sem]) rfl ⟨rfl, U.out⟩
end Go.Proofs.YtjkhgpdhhnfmlaaDoor
