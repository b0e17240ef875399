/- The contract of slices.BinarySearchFunc at this program, over rows of timers in order. -/
import Derived.Test.YtjkhgpdhhnfmlaaDoorRc
import Derived.Test.YtjkhgpdhhnfmlaaDoorRh
import Derived.Deep.RegionLaw
namespace Go.Proofs.YtjkhgpdhhnfmlaaDoor
open Go.RowKit MK
open RG (Du)
set_option linter.unusedSimpArgs false

theorem order_is (a b : Du) (r : Int) (h : ord a b = r) (w : World) :
    Calls Tryd.prog 76 #[dv a, dv b] w fun e w' => e = .returned (.int .i64 r) ∧ Grw w w' := by rw [← h]; exact order_any a b w
/-- the place of d: all ahead of it are less, none behind. -/
def Plc (d : Du) (l : List Du) (p : Nat) : Prop := p ≤ l.length ∧ (∀ j (h : j < l.length), j < p → RG.less l[j] d = true) ∧ (∀ j (h : j < l.length), p ≤ j → RG.less l[j] d = false)
def SearchQ (d : Du) (l : List Du) (w : World) (e : Ending) (w' : World) : Prop := ∃ p o, e = .returned (.tuple #[.int .i64 (p : Nat), .bool o]) ∧ Plc d l p ∧ Grw w w'
theorem srt_less {l : List Du} (hs : RG.Srt l) {d : Du} {j k : Nat} (hk : k < l.length) (hj : j ≤ k) (h : RG.less l[k] d = true) : RG.less (l[j]'(by omega)) d = true := by
  rcases (by omega : j < k ∨ j = k) with g | g
  · have h1 := List.pairwise_iff_getElem.1 hs j k (by omega) hk g
    rw [RG.le_iff] at h1
    rw [RG.less_iff] at h ⊢
    omega
  · subst g; exact h
theorem srt_not {l : List Du} (hs : RG.Srt l) {d : Du} {j k : Nat} (hk : k < l.length) (hj : j ≤ k) (h : RG.less (l[j]'(by omega)) d = false) : RG.less l[k] d = false := by
  rcases e : RG.less l[k] d with _ | _
  · rfl
  · rw [srt_less hs hk hj e] at h; cases h
set_option maxHeartbeats 2000000 in
set_option maxRecDepth 100000 in
theorem search_any (ao : Option Addr) (cap : Nat) (l : List Du) (d : Du) (w : World) (hr : Lies w ao (cd l)) (hs : RG.Srt l) (hb : l.length ≤ 1000000) :
    Calls Tryd.prog 47 #[.slice ao l.length cap, dv d, .func (.func 76) #[] #[]] w (SearchQ d l w) := by
  obtain ⟨di, dt⟩ := d
  have S := Lib.hid hs
  have LI := Lib.hid hr
  have EX : ∀ q, ∀ h : q < l.length, RG.less l[q] ⟨di, dt⟩ = decide (ord l[q] ⟨di, dt⟩ < 0) := fun q h => (ord_neg _ _).symm
  have E := Lib.hid EX
  obtain ⟨n, hn⟩ : ∃ n, l.length = n := ⟨_, rfl⟩
  rw [hn] at hb ⊢
  have N := Lib.hid hn
  clear hs hr EX hn
  unfold dv
  simp only
  go_enter Tryd.func47, Tryd.ntmps47
  go_wp2_with fail
  go_loopw [9, 10] (fun u v wr => ∃ i j : Nat, i ≤ j ∧ j ≤ n ∧ u = .int .i64 i ∧ v = .int .i64 j ∧ Grw (w.alloc (.cells #[.int .i64 di, .int .u64 dt] 42)) wr ∧
      (∀ q (h : q < l.length), q < i → RG.less l[q] ⟨di, dt⟩ = true) ∧ (∀ q (h : q < l.length), j ≤ q → RG.less l[q] ⟨di, dt⟩ = false)) (fun u v _ => (intOf v).toNat - (intOf u).toNat)
  case atStart => exact ⟨0, n, Nat.zero_le _, Nat.le_refl _, rfl, rfl, Grw.rfl' _, fun q _ h => by omega, fun q h1 h2 => by rw [N.out] at h1; omega⟩
  case round =>
    obtain ⟨i, j, hij, hjn, rfl, rfl, hg, hlo, hhi⟩ := hrel
    have LO := Lib.hid hlo
    have HI := Lib.hid hhi
    have G := Lib.hid hg
    have K := Kp.grown hg
    have k0 := gw_cell K.t.c0
    have k1 := gw_cell K.t.c1
    clear hlo hhi hg K
    by_cases hlt : i < j
    · have hlti : (i : Int) < (j : Int) := by omega
      obtain ⟨h, hh⟩ : ∃ h, (i + j) / 2 = h := ⟨_, rfl⟩
      have hh1 : ((i : Int) + (j : Int)) / 2 = (h : Int) := by omega
      have hhn : h < n := by omega
      have hhi : i ≤ h := by omega
      have hhj : h < j := by omega
      have hhl : h < l.length := by rw [N.out]; exact hhn
      obtain ⟨b, off, rfl, c0, c1⟩ := lies_at ((LI.out.later ((Grw.rfl' _).alloc _)).later G.out) hhl
      have m0 := gw_cell c0
      have m1 := gw_cell c1
      obtain ⟨x, hx⟩ : ∃ x, l[h] = x := ⟨_, rfl⟩
      obtain ⟨r, hr⟩ : ∃ r, ord x ⟨di, dt⟩ = r := ⟨_, rfl⟩
      have hL := E.out h hhl
      rw [hx, hr] at hL
      rw [hx] at m0 m1
      have C := Lib.hid (fun w => order_is x ⟨di, dt⟩ r hr w)
      obtain ⟨xi, xt⟩ := x
      unfold dv at C
      simp only at C m0 m1
      have HL := Lib.hid (And.intro hx hL)
      have HH := Lib.hid hh
      clear c0 c1 hx hr hL hh
      by_cases hneg : r < 0
      · have hd : decide (r < 0) = true := by simp [hneg]
        go_wp2_with fail
        refine wp_region_grown (by kernel_rfl) (by kernel_rfl) ?_
        repeat (go_big_quiet_step (first | (go_at_call 76; exact calls_grown (C.out _))))
        refine wpQuiet_nil ?_
        rintro _ ⟨q', rfl⟩
        have GQ := Lib.hid (G.out.trans q'.h)
        clear k0 k1 m0 m1
        go_wp2_with fail
        go_roundw
        case rel => exact ⟨h + 1, j, by omega, by omega, by go_num, rfl, GQ.out, fun q h1 h2 => srt_less S.out hhl (by omega : q ≤ h) (by rw [HL.out.1, HL.out.2]; exact hd), HI.out⟩
        case measure => simp [intOf]; omega
      · have hd : decide (r < 0) = false := by simp; omega
        go_wp2_with fail
        refine wp_region_grown (by kernel_rfl) (by kernel_rfl) ?_
        repeat (go_big_quiet_step (first | (go_at_call 76; exact calls_grown (C.out _))))
        refine wpQuiet_nil ?_
        rintro _ ⟨q', rfl⟩
        have GQ := Lib.hid (G.out.trans q'.h)
        clear k0 k1 m0 m1
        go_wp2_with fail
        go_roundw
        case rel => exact ⟨i, h, by omega, by omega, rfl, rfl, GQ.out, LO.out, fun q h1 h2 => srt_not S.out h1 h2 (by rw [HL.out.1, HL.out.2]; exact hd)⟩
        case measure => simp [intOf]; omega
    · have hlti : ¬ (i : Int) < (j : Int) := by omega
      obtain rfl : i = j := by omega
      by_cases hin : i < n
      · have hini : decide ((i : Int) < (n : Int)) = true := by simp; omega
        have hil : i < l.length := by rw [N.out]; exact hin
        obtain ⟨b, off, rfl, c0, c1⟩ := lies_at ((LI.out.later ((Grw.rfl' _).alloc _)).later G.out) hil
        have m0 := gw_cell c0
        have m1 := gw_cell c1
        obtain ⟨x, hx⟩ : ∃ x, l[i] = x := ⟨_, rfl⟩
        obtain ⟨r, hr⟩ : ∃ r, ord x ⟨di, dt⟩ = r := ⟨_, rfl⟩
        rw [hx] at m0 m1
        have C := Lib.hid (fun w => order_is x ⟨di, dt⟩ r hr w)
        obtain ⟨xi, xt⟩ := x
        unfold dv at C
        simp only at C m0 m1
        clear c0 c1 hx hr
        go_wp2_with fail
        refine wp_region_grown (by kernel_rfl) (by kernel_rfl) ?_
        repeat (go_big_quiet_step (first | (go_at_call 76; exact calls_grown (C.out _))))
        refine wpQuiet_nil ?_
        rintro _ ⟨q', rfl⟩
        have GQ := Lib.hid (G.out.trans q'.h)
        clear k0 k1 m0 m1
        go_wp2_with fail
        refine bodyPost_ret (v := .tuple #[.int .i64 i, .bool (r == 0)]) (by simp [results, Tryd.results47, go_sem]) rfl ?_
        exact ⟨i, _, rfl, ⟨by rw [N.out]; exact hjn, LO.out, HI.out⟩, GQ.out.two⟩
      · have hini : decide ((i : Int) < (n : Int)) = false := by simp; omega
        go_wp2_with fail
        refine wp_region_grown (by kernel_rfl) (by kernel_rfl) ?_
        repeat (go_big_quiet_step (fail))
        refine wpQuiet_nil ?_
        rintro _ ⟨q', rfl⟩
        have GQ := Lib.hid (G.out.trans q'.h)
        clear k0 k1
        go_wp2_with fail
        refine bodyPost_ret (v := .tuple #[.int .i64 i, .bool false]) (by simp [results, Tryd.results47, go_sem]) rfl ?_
        exact ⟨i, _, rfl, ⟨by rw [N.out]; exact hjn, LO.out, HI.out⟩, GQ.out.two⟩
end Go.Proofs.YtjkhgpdhhnfmlaaDoor

/- The contract of ring.Put at this program. -/
namespace Go.Proofs.YtjkhgpdhhnfmlaaDoor
open Go.RowKit MK
open RG (Du)
set_option linter.unusedSimpArgs false

def PutQ (b : Nat) (A : Array Value) (w : World) (o : Bool) (M : Nat → List Du) (e : Ending) (w' : World) : Prop := e = .returned (.bool o) ∧ RingQ b A w M w'
theorem put_out (b : Nat) (A : Array Value) (L : Nat → List Du) (i : Int) (d : Du) (w : World) (h : RingL w b A L) (hs : ¬ (0 ≤ i ∧ i < 64)) :
    Calls Tryd.prog 52 #[.pointer (some ⟨b, 0, none⟩), .int .i64 i, dv d] w (PutQ b A w false L) := by
  have R := Lib.hid h
  have H := Lib.hid (fun w => has_no ⟨b, 0, none⟩ i w hs)
  clear h hs
  unfold dv
  go_enter Tryd.func52, Tryd.ntmps52
  go_wp2_with fail
  refine (H.out _).mono ?_
  rintro _ w1 ⟨rfl, rfl⟩
  go_wp2_with fail
  go_ret
  exact ⟨rfl, ringQ_same R.out ((Grw.rfl' _).alloc _)⟩
theorem plc_sort {d : Du} {l : List Du} {p : Nat} (hs : RG.Srt l) (h : Plc d l p) : l.take p ++ d :: l.drop p = RG.put d l := by
  refine RG.srt_unique ?_ (RG.put_srt hs) ?_
  · unfold RG.Srt at *
    have h' := hs
    rw [← List.take_append_drop p l, List.pairwise_append] at h'
    rw [List.pairwise_append, List.pairwise_cons]
    refine ⟨h'.1, ⟨fun x hx => ?_, h'.2.1⟩, fun x hx y hy => ?_⟩
    · obtain ⟨j, hj, rfl⟩ := List.mem_drop_iff_getElem.1 hx
      exact h.2.2 (p + j) (by omega) (by omega)
    · obtain ⟨j, hj, rfl⟩ := List.mem_take_iff_getElem.1 hx
      rcases List.mem_cons.1 hy with rfl | hy
      · exact RG.le_of_less (h.2.1 j (by omega) (by omega))
      · exact h'.2.2 _ hx y hy
  · refine List.Perm.trans ?_ (RG.put_perm d l).symm
    refine List.perm_middle.trans ?_
    rw [List.take_append_drop]
set_option maxHeartbeats 4000000 in
set_option maxRecDepth 100000 in
theorem put_in (b : Nat) (A : Array Value) (L : Nat → List Du) (s : Nat) (d : Du) (w : World) (h : RingL w b A L) (hs : s < 64) (hb : ∀ k, (L k).length ≤ 1000000) (hsrt : RG.Srt (L s)) :
    Calls Tryd.prog 52 #[.pointer (some ⟨b, 0, none⟩), .int .i64 s, dv d] w fun e w' =>
      ((∃ k, k < 64 ∧ ∃ x ∈ L k, x.id = d.id) ∧ PutQ b A w false L e w') ∨ ((∀ k, k < 64 → ∀ x ∈ L k, x.id ≠ d.id) ∧ PutQ b A w true (upd L s (RG.put d (L s))) e w') := by
  obtain ⟨di, dt⟩ := d
  obtain ⟨v, hv⟩ := h.at hs
  have R := Lib.hid h
  have H := Lib.hid (fun w => has_yes ⟨b, 0, none⟩ s w hs)
  have FI := Lib.hid (fun (u : World) (g : Grw w u) => find_any b A L di u (h.later g) hb)
  have HV := Lib.hid hv
  have HB := Lib.hid hb
  have SR := Lib.hid hsrt
  have hsi : (s : Int) < 64 := by omega
  clear h hb hsrt
  obtain ⟨Q, hQ⟩ : ∃ Q : Ending → World → Prop, Q = fun e w' => ((∃ k, k < 64 ∧ ∃ x ∈ L k, x.id = di) ∧ PutQ b A w false L e w') ∨ ((∀ k, k < 64 → ∀ x ∈ L k, x.id ≠ di) ∧ PutQ b A w true (upd L s (RG.put ⟨di, dt⟩ (L s))) e w') := ⟨_, rfl⟩
  show Calls _ _ _ _ (fun e w' => ((∃ k, k < 64 ∧ ∃ x ∈ L k, x.id = di) ∧ PutQ b A w false L e w') ∨ ((∀ k, k < 64 → ∀ x ∈ L k, x.id ≠ di) ∧ PutQ b A w true (upd L s (RG.put ⟨di, dt⟩ (L s))) e w'))
  rw [← hQ]
  have QQ := Lib.hid hQ
  clear hQ
  unfold dv
  simp only
  go_enter Tryd.func52, Tryd.ntmps52
  go_wp2_with fail
  refine (H.out _).mono ?_
  rintro _ w1 ⟨rfl, rfl⟩
  go_wp2_with fail
  refine (FI.out _ ((Grw.rfl' _).alloc _)).mono ?_
  rintro _ w1 ⟨fs, fp, fo, rfl, hfnd, hg1⟩
  have K := Kp.grown hg1
  have G1 := Lib.hid hg1.two
  clear hg1
  rcases hfnd with ⟨k, j, hj, hk, rfl, rfl, rfl, he⟩ | ⟨rfl, rfl, rfl, hno⟩
  · have E := Lib.hid (show ∃ k, k < 64 ∧ ∃ x ∈ L k, x.id = di from ⟨k, hk, _, List.getElem_mem hj, he⟩)
    clear he hj
    go_wp2_with fail
    rw [QQ.out]
    exact Or.inl ⟨E.out, rfl, ringQ_same R.out G1.out⟩
  · have E : Hid (∀ k, k < 64 → ∀ x ∈ L k, x.id ≠ di) := (fun k hk x hx => by
      obtain ⟨j, hj, rfl⟩ := List.mem_iff_getElem.1 hx
      exact hno k hk j hj : ∀ k, k < 64 → ∀ x ∈ L k, x.id ≠ di)
    clear hno
    obtain ⟨ao, cap, rfl, hl⟩ := ownsRow_lies ((R.out.later G1.out).own s v hv)
    have hc := (R.out.later G1.out).cells s _ hv
    have c0 := K.t.c0
    have c1 := K.t.c1
    have SE := search_any ao cap (L s) ⟨di, dt⟩ w1 hl SR.out (HB.out s)
    obtain ⟨n, hn⟩ : ∃ n, (L s).length = n := ⟨_, rfl⟩
    unfold dv at SE
    simp only at SE
    rw [hn] at hc SE
    have HN := Lib.hid hn
    have SE := Lib.hid SE
    clear hl hv hn
    go_wp2_with fail
    refine SE.out.mono ?_
    rintro _ w2 ⟨p, o, rfl, hplc, hg2⟩
    have K2 := K.later hg2
    have d0 := K2.t.c0
    have d1 := K2.t.c1
    have G2 := Lib.hid (G1.out.trans hg2)
    have PL := Lib.hid hplc
    obtain ⟨l', hl'⟩ : ∃ l', (L s).take p ++ ⟨di, dt⟩ :: (L s).drop p = l' := ⟨_, rfl⟩
    have LP : Hid (RG.put ⟨di, dt⟩ (L s) = l') := ((plc_sort SR.out PL.out).symm.trans hl' : RG.put ⟨di, dt⟩ (L s) = l')
    have IN : Hid (∀ u : World, u.heap = (w2.alloc (.cells #[.int .i64 di, .int .u64 dt] 42)).heap → Calls Tryd.prog 54 #[.slice ao n cap, .int .i64 p, .slice (some ⟨w2.heap.size, 0, none⟩) 1 1] u (RowQ (.slice ao n cap) l' u)) := (fun u hu => by
      have ho := ((R.out.later G2.out).own s _ HV.out).alloc (.cells #[.int .i64 di, .int .u64 dt] 42)
      have ho' : u.ownsRow 0 42 2 (.slice ao (L s).length cap) (L s).length (cd (L s)) := by
        refine ⟨ho.1, ?_⟩
        rw [hu]; exact ho.2
      rw [← HN.out, ← hl']
      refine insert_any _ p (L s) ⟨di, dt⟩ w2.heap.size u ho' (HB.out s) PL.out.1 (by rw [hu]; exact heap_alloc_new w2 _) (fun e => ?_)
      have := (((R.out.later G2.out).own s _ HV.out).lt _ e).2
      omega : ∀ u : World, u.heap = (w2.alloc (.cells #[.int .i64 di, .int .u64 dt] 42)).heap → Calls Tryd.prog 54 #[.slice ao n cap, .int .i64 p, .slice (some ⟨w2.heap.size, 0, none⟩) 1 1] u (RowQ (.slice ao n cap) l' u))
    have AF : Hid (∀ (u x : World), u.heap = (w2.alloc (.cells #[.int .i64 di, .int .u64 dt] 42)).heap → Frm (fun k => (Value.slice ao n cap).ownBlock = some k) u x → x.cell? ⟨b, s, none⟩ = some (.slice ao n cap) ∧ x.frozen? ⟨b, s, none⟩ = false ∧ x.cell? ⟨w.heap.size, 0, none⟩ = some (.int .i64 di) ∧ x.cell? ⟨w.heap.size, 1, none⟩ = some (.int .u64 dt)) := (fun u x hu hf => by
      have hr := (R.out.later G2.out).later ((Grw.rfl' w2).alloc (.cells #[.int .i64 di, .int .u64 dt] 42))
      have hblk : u.heap[b]? = some (.cells A 98 (0, 0)) := by rw [hu]; exact hr.blk
      have hx : x.heap[b]? = some (.cells A 98 (0, 0)) := by
        rw [hf.block b (Array.getElem?_eq_some_iff.1 hblk).1 (fun e => R.out.ne s _ HV.out (by rw [HN.out]; exact e))]
        exact hblk
      have hvv := HV.out
      rw [HN.out] at hvv
      have hnw : ¬ (Value.slice ao n cap).ownBlock = some w.heap.size := fun e => by
        have := ((R.out.own s _ HV.out).lt w.heap.size (by rw [HN.out]; exact e)).2
        omega
      have e0 : u.cell? ⟨w.heap.size, 0, none⟩ = some (.int .i64 di) := by
        rw [World.cell?, hu]; exact ((Grw.rfl' w2).alloc _).cell d0
      have e1 : u.cell? ⟨w.heap.size, 1, none⟩ = some (.int .u64 dt) := by
        rw [World.cell?, hu]; exact ((Grw.rfl' w2).alloc _).cell d1
      exact ⟨by simp [World.cell?, hx, hvv], by simp [World.frozen?, hx], hf.cell e0 hnw, hf.cell e1 hnw⟩ : ∀ (u x : World), u.heap = (w2.alloc (.cells #[.int .i64 di, .int .u64 dt] 42)).heap → Frm (fun k => (Value.slice ao n cap).ownBlock = some k) u x → x.cell? ⟨b, s, none⟩ = some (.slice ao n cap) ∧ x.frozen? ⟨b, s, none⟩ = false ∧ x.cell? ⟨w.heap.size, 0, none⟩ = some (.int .i64 di) ∧ x.cell? ⟨w.heap.size, 1, none⟩ = some (.int .u64 dt))
    have hbw : b < w.heap.size := R.out.lt
    have hne1 : ¬ b = w.heap.size := by omega
    have hne2 : ¬ w.heap.size = b := by omega
    clear hg2 hplc c0 c1 K hc K2 hl'
    go_wp2_with fail
    go_region_held3 (fun u => u.cell? ⟨w.heap.size, 0, none⟩ = some (.int .i64 di) ∧ u.cell? ⟨w.heap.size, 1, none⟩ = some (.int .u64 dt)) (first | go_keep | exact ⟨hc0, hc1⟩)
      (first | (go_at_call 54; refine (IN.out ((w2.alloc (.cells #[.int .i64 di, .int .u64 dt] 42)).drew) rfl).mono ?_; rintro _ w3 ⟨v', rfl, hown, hfrm, hblk⟩; obtain ⟨ao', cap', rfl, hl'⟩ := ownsRow_lies hown; have hcc := (AF.out ((w2.alloc (.cells #[.int .i64 di, .int .u64 dt] 42)).drew) w3 rfl hfrm).1; have hcf := (AF.out ((w2.alloc (.cells #[.int .i64 di, .int .u64 dt] 42)).drew) w3 rfl hfrm).2.1; have hc0 := (AF.out ((w2.alloc (.cells #[.int .i64 di, .int .u64 dt] 42)).drew) w3 rfl hfrm).2.2.1; have hc1 := (AF.out ((w2.alloc (.cells #[.int .i64 di, .int .u64 dt] 42)).drew) w3 rfl hfrm).2.2.2))
    have U := Lib.hid (ringQ_set R.out (s := s) ((G2.out.alloc (.cells #[.int .i64 di, .int .u64 dt] 42)).drew) HV.out (by rw [HN.out]; exact hfrm) hown (by
      rw [HN.out]
      rcases hblk with e | ⟨q, e, hq⟩
      · exact Or.inl e
      · refine Or.inr (Or.inr ⟨q, e, Nat.le_trans (Below.size ((G2.out.alloc (.cells #[.int .i64 di, .int .u64 dt] 42)).drew)) hq⟩)))
    clear hown hfrm hblk hl' hcc hcf hc0 hc1
    go_wp2_with fail
    rw [QQ.out]
    exact Or.inr ⟨E.out, rfl, by rw [LP.out]; exact U.out⟩
end Go.Proofs.YtjkhgpdhhnfmlaaDoor

/- The contract of ring.Drop at this program. -/
namespace Go.Proofs.YtjkhgpdhhnfmlaaDoor
open Go.RowKit MK
open RG (Du)
set_option linter.unusedSimpArgs false

def DropQ (b : Nat) (A : Array Value) (L : Nat → List Du) (id : Int) (w : World) (e : Ending) (w' : World) : Prop :=
  (∃ (k j : Nat) (h : j < (L k).length), k < 64 ∧ ((L k)[j]).id = id ∧ e = .returned (.tuple #[.int .i64 k, .bool true]) ∧ RingQ b A w (upd L k ((L k).take j ++ (L k).drop (j + 1))) w') ∨
  ((∀ k, k < 64 → ∀ j (h : j < (L k).length), ((L k)[j]).id ≠ id) ∧ e = .returned (.tuple #[.int .i64 0, .bool false]) ∧ RingQ b A w L w')
set_option maxHeartbeats 4000000 in
set_option maxRecDepth 100000 in
theorem drop_any (b : Nat) (A : Array Value) (L : Nat → List Du) (id : Int) (w : World) (h : RingL w b A L) (hb : ∀ k, (L k).length ≤ 1000000) :
    Calls Tryd.prog 56 #[.pointer (some ⟨b, 0, none⟩), .int .i64 id] w (DropQ b A L id w) := by
  have R := Lib.hid h
  have FI := Lib.hid (find_any b A L id w h hb)
  have HB := Lib.hid hb
  clear h hb
  go_enter Tryd.func56, Tryd.ntmps56
  go_wp2_with fail
  refine FI.out.mono ?_
  rintro _ w1 ⟨fs, fp, fo, rfl, hfnd, hg1⟩
  have G1 := Lib.hid hg1
  clear hg1
  rcases hfnd with ⟨k, j, hj, hk, rfl, rfl, rfl, he⟩ | ⟨rfl, rfl, rfl, hno⟩
  · obtain ⟨v, hv⟩ := R.out.at hk
    have ho := (R.out.later G1.out).own k v hv
    obtain ⟨ao, cap, rfl, hl⟩ := ownsRow_lies ho
    have hc := (R.out.later G1.out).cells k _ hv
    obtain ⟨m, hm⟩ : ∃ m, (L k).length = j + m + 1 := ⟨(L k).length - j - 1, by omega⟩
    have hbk := HB.out k
    have hki : (k : Int) < 64 := by omega
    have hw1 : IntKind.i64.wrap ((j : Int) + 1) = (j : Int) + 1 := by rw [IntKind.wrap_i64]; omega
    obtain ⟨l', hl'⟩ : ∃ l', (L k).take j ++ (L k).drop (j + 1) = l' := ⟨_, rfl⟩
    have DE : Hid (∀ u : World, u.heap = w1.heap → Calls Tryd.prog 57 #[.slice ao (j + m + 1) cap, .int .i64 j, .int .i64 ((j : Int) + 1)] u (DelQ (.slice ao (j + m + 1) cap) l' u)) := (fun u hu => by
      rw [← hm, ← hl']
      exact delete_any _ j m (L k) u ⟨ho.1, by rw [hu]; exact ho.2⟩ hbk hm : ∀ u : World, u.heap = w1.heap → Calls Tryd.prog 57 #[.slice ao (j + m + 1) cap, .int .i64 j, .int .i64 ((j : Int) + 1)] u (DelQ (.slice ao (j + m + 1) cap) l' u))
    rw [hm] at hc
    have AF : Hid (∀ (u x : World), u.heap = w1.heap → Frm (fun q => (Value.slice ao (j + m + 1) cap).ownBlock = some q) u x → x.cell? ⟨b, k, none⟩ = some (.slice ao (j + m + 1) cap) ∧ x.frozen? ⟨b, k, none⟩ = false) := (fun u x hu hf => by
      have hr := R.out.later G1.out
      have hblk : u.heap[b]? = some (.cells A 98 (0, 0)) := by rw [hu]; exact hr.blk
      have hx : x.heap[b]? = some (.cells A 98 (0, 0)) := by
        rw [hf.block b (Array.getElem?_eq_some_iff.1 hblk).1 (fun e => R.out.ne k _ hv (by rw [hm]; exact e))]
        exact hblk
      have hvv := hv
      rw [hm] at hvv
      exact ⟨by simp [World.cell?, hx, hvv], by simp [World.frozen?, hx]⟩ : ∀ (u x : World), u.heap = w1.heap → Frm (fun q => (Value.slice ao (j + m + 1) cap).ownBlock = some q) u x → x.cell? ⟨b, k, none⟩ = some (.slice ao (j + m + 1) cap) ∧ x.frozen? ⟨b, k, none⟩ = false)
    have HV := Lib.hid hv
    have HM := Lib.hid hm
    have HL := Lib.hid hl'
    have HE : Hid (∃ h : j < (L k).length, ((L k)[j]).id = id) := (⟨hj, he⟩ : ∃ h : j < (L k).length, ((L k)[j]).id = id)
    clear ho hl hm hl' hv he hj
    go_wp2_with fail
    go_region_law (first | (go_simp; go_at_call 57; refine (DE.out w1.drew rfl).mono ?_; rintro _ w3 ⟨v', rfl, hown, hfrm, hblk⟩; obtain ⟨ao', cap', rfl, hll⟩ := ownsRow_lies hown; have hcc := (AF.out w1.drew w3 rfl hfrm).1; have hcf := (AF.out w1.drew w3 rfl hfrm).2))
    have U := Lib.hid (ringQ_set R.out (s := k) (G1.out.drew) HV.out (by rw [HM.out]; exact hfrm) hown (by rw [HM.out]; exact Or.inl hblk))
    clear hown hfrm hblk hll hcc hcf
    go_wp2_with fail
    go_ret2
    obtain ⟨h1, h2⟩ := HE.out
    exact Or.inl ⟨k, j, h1, hk, h2, rfl, by rw [HL.out]; exact U.out⟩
  · have E := Lib.hid hno
    clear hno
    go_wp2_with fail
    go_ret2
    exact Or.inr ⟨E.out, rfl, ringQ_same R.out G1.out⟩
end Go.Proofs.YtjkhgpdhhnfmlaaDoor
