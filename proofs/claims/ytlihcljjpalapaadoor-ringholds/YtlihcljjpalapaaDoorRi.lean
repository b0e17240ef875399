/- The contract of ring.Put at this program. -/
import Derived.Test.YtlihcljjpalapaaDoorRh
import Derived.Test.YtlihcljjpalapaaDoorRd
namespace Go.Proofs.YtlihcljjpalapaaDoor
open Go.RowKit MK
open RG (Du)
set_option linter.unusedSimpArgs false

def PutQ (b : Nat) (A : Array Value) (w : World) (o : Bool) (M : Nat → List Du) (e : Ending) (w' : World) : Prop := e = .returned (.bool o) ∧ RingQ b A w M w'
theorem put_out (b : Nat) (A : Array Value) (L : Nat → List Du) (i : Int) (d : Du) (w : World) (h : RingL w b A L) (hs : ¬ (0 ≤ i ∧ i < 64)) :
    Calls Tryd.prog 8 #[.pointer (some ⟨b, 0, none⟩), .int .i64 i, dv d] w (PutQ b A w false L) := by
  have R := Lib.hid h
  have H := Lib.hid (fun w => has_no ⟨b, 0, none⟩ i w hs)
  clear h hs
  unfold dv
  go_enter Tryd.func8, Tryd.ntmps8
  go_wp2_with fail
  refine (H.out _).mono ?_
  rintro _ w1 ⟨rfl, rfl⟩
  go_wp2_with fail
  go_ret
  exact ⟨rfl, ringQ_same R.out ((Grw.rfl' _).alloc _)⟩
theorem plc_sort {d : Du} {l : List Du} {p : Nat} (hs : RG.Srt l) (h : Plc d l p) : l.take p ++ d :: l.drop p = RG.put d l := by
  refine RG.srt_unique ?_ (RG.put_srt hs) ?_
  · unfold RG.Srt at *
    have h' := hs
    rw [← List.take_append_drop p l, List.pairwise_append] at h'
    rw [List.pairwise_append, List.pairwise_cons]
    refine ⟨h'.1, ⟨fun x hx => ?_, h'.2.1⟩, fun x hx y hy => ?_⟩
    · obtain ⟨j, hj, rfl⟩ := List.mem_drop_iff_getElem.1 hx
      exact h.2.2 (p + j) (by omega) (by omega)
    · obtain ⟨j, hj, rfl⟩ := List.mem_take_iff_getElem.1 hx
      rcases List.mem_cons.1 hy with rfl | hy
      · exact RG.le_of_less (h.2.1 j (by omega) (by omega))
      · exact h'.2.2 _ hx y hy
  · refine List.Perm.trans ?_ (RG.put_perm d l).symm
    refine List.perm_middle.trans ?_
    rw [List.take_append_drop]
set_option maxHeartbeats 4000000 in
set_option maxRecDepth 100000 in
theorem put_in (b : Nat) (A : Array Value) (L : Nat → List Du) (s : Nat) (d : Du) (w : World) (h : RingL w b A L) (hs : s < 64) (hb : ∀ k, (L k).length ≤ 1000000) (hsrt : RG.Srt (L s)) :
    Calls Tryd.prog 8 #[.pointer (some ⟨b, 0, none⟩), .int .i64 s, dv d] w fun e w' =>
      ((∃ k, k < 64 ∧ ∃ x ∈ L k, x.id = d.id) ∧ PutQ b A w false L e w') ∨ ((∀ k, k < 64 → ∀ x ∈ L k, x.id ≠ d.id) ∧ PutQ b A w true (upd L s (RG.put d (L s))) e w') := by
  obtain ⟨di, dt⟩ := d
  obtain ⟨v, hv⟩ := h.at hs
  have R := Lib.hid h
  have H := Lib.hid (fun w => has_yes ⟨b, 0, none⟩ s w hs)
  have FI := Lib.hid (fun (u : World) (g : Grw w u) => find_any b A L di u (h.later g) hb)
  have HV := Lib.hid hv
  have HB := Lib.hid hb
  have SR := Lib.hid hsrt
  have hsi : (s : Int) < 64 := by omega
  clear h hb hsrt
  obtain ⟨Q, hQ⟩ : ∃ Q : Ending → World → Prop, Q = fun e w' => ((∃ k, k < 64 ∧ ∃ x ∈ L k, x.id = di) ∧ PutQ b A w false L e w') ∨ ((∀ k, k < 64 → ∀ x ∈ L k, x.id ≠ di) ∧ PutQ b A w true (upd L s (RG.put ⟨di, dt⟩ (L s))) e w') := ⟨_, rfl⟩
  show Calls _ _ _ _ (fun e w' => ((∃ k, k < 64 ∧ ∃ x ∈ L k, x.id = di) ∧ PutQ b A w false L e w') ∨ ((∀ k, k < 64 → ∀ x ∈ L k, x.id ≠ di) ∧ PutQ b A w true (upd L s (RG.put ⟨di, dt⟩ (L s))) e w'))
  rw [← hQ]
  have QQ := Lib.hid hQ
  clear hQ
  unfold dv
  simp only
  go_enter Tryd.func8, Tryd.ntmps8
  go_wp2_with fail
  refine (H.out _).mono ?_
  rintro _ w1 ⟨rfl, rfl⟩
  go_wp2_with fail
  refine (FI.out _ ((Grw.rfl' _).alloc _)).mono ?_
  rintro _ w1 ⟨fs, fp, fo, rfl, hfnd, hg1⟩
  have K := Kp.grown hg1
  have G1 := Lib.hid hg1.two
  clear hg1
  rcases hfnd with ⟨k, j, hj, hk, rfl, rfl, rfl, he⟩ | ⟨rfl, rfl, rfl, hno⟩
  · have E := Lib.hid (show ∃ k, k < 64 ∧ ∃ x ∈ L k, x.id = di from ⟨k, hk, _, List.getElem_mem hj, he⟩)
    clear he hj
    go_wp2_with fail
    rw [QQ.out]
    exact Or.inl ⟨E.out, rfl, ringQ_same R.out G1.out⟩
  · have E : Hid (∀ k, k < 64 → ∀ x ∈ L k, x.id ≠ di) := (fun k hk x hx => by
      obtain ⟨j, hj, rfl⟩ := List.mem_iff_getElem.1 hx
      exact hno k hk j hj : ∀ k, k < 64 → ∀ x ∈ L k, x.id ≠ di)
    clear hno
    obtain ⟨ao, cap, rfl, hl⟩ := ownsRow_lies ((R.out.later G1.out).own s v hv)
    have hc := (R.out.later G1.out).cells s _ hv
    have c0 := K.t.c0
    have c1 := K.t.c1
    have SE := search_any ao cap (L s) ⟨di, dt⟩ w1 hl SR.out (HB.out s)
    obtain ⟨n, hn⟩ : ∃ n, (L s).length = n := ⟨_, rfl⟩
    unfold dv at SE
    simp only at SE
    rw [hn] at hc SE
    have HN := Lib.hid hn
    have SE := Lib.hid SE
    clear hl hv hn
    go_wp2_with fail
    refine SE.out.mono ?_
    rintro _ w2 ⟨p, o, rfl, hplc, hg2⟩
    have K2 := K.later hg2
    have d0 := K2.t.c0
    have d1 := K2.t.c1
    have G2 := Lib.hid (G1.out.trans hg2)
    have PL := Lib.hid hplc
    obtain ⟨l', hl'⟩ : ∃ l', (L s).take p ++ ⟨di, dt⟩ :: (L s).drop p = l' := ⟨_, rfl⟩
    have LP : Hid (RG.put ⟨di, dt⟩ (L s) = l') := ((plc_sort SR.out PL.out).symm.trans hl' : RG.put ⟨di, dt⟩ (L s) = l')
    have IN : Hid (∀ u : World, u.heap = (w2.alloc (.cells #[.int .i64 di, .int .u64 dt] 31)).heap → Calls Tryd.prog 26 #[.slice ao n cap, .int .i64 p, .slice (some ⟨w2.heap.size, 0, none⟩) 1 1] u (RowQ (.slice ao n cap) l' u)) := (fun u hu => by
      have ho := ((R.out.later G2.out).own s _ HV.out).alloc (.cells #[.int .i64 di, .int .u64 dt] 31)
      have ho' : u.ownsRow 0 31 2 (.slice ao (L s).length cap) (L s).length (cd (L s)) := by
        refine ⟨ho.1, ?_⟩
        rw [hu]; exact ho.2
      rw [← HN.out, ← hl']
      refine insert_any _ p (L s) ⟨di, dt⟩ w2.heap.size u ho' (HB.out s) PL.out.1 (by rw [hu]; exact heap_alloc_new w2 _) (fun e => ?_)
      have := (((R.out.later G2.out).own s _ HV.out).lt _ e).2
      omega : ∀ u : World, u.heap = (w2.alloc (.cells #[.int .i64 di, .int .u64 dt] 31)).heap → Calls Tryd.prog 26 #[.slice ao n cap, .int .i64 p, .slice (some ⟨w2.heap.size, 0, none⟩) 1 1] u (RowQ (.slice ao n cap) l' u))
    have AF : Hid (∀ (u x : World), u.heap = (w2.alloc (.cells #[.int .i64 di, .int .u64 dt] 31)).heap → Frm (fun k => (Value.slice ao n cap).ownBlock = some k) u x → x.cell? ⟨b, s, none⟩ = some (.slice ao n cap) ∧ x.frozen? ⟨b, s, none⟩ = false ∧ x.cell? ⟨w.heap.size, 0, none⟩ = some (.int .i64 di) ∧ x.cell? ⟨w.heap.size, 1, none⟩ = some (.int .u64 dt)) := (fun u x hu hf => by
      have hr := (R.out.later G2.out).later ((Grw.rfl' w2).alloc (.cells #[.int .i64 di, .int .u64 dt] 31))
      have hblk : u.heap[b]? = some (.cells A 53 (0, 0)) := by rw [hu]; exact hr.blk
      have hx : x.heap[b]? = some (.cells A 53 (0, 0)) := by
        rw [hf.block b (Array.getElem?_eq_some_iff.1 hblk).1 (fun e => R.out.ne s _ HV.out (by rw [HN.out]; exact e))]
        exact hblk
      have hvv := HV.out
      rw [HN.out] at hvv
      have hnw : ¬ (Value.slice ao n cap).ownBlock = some w.heap.size := fun e => by
        have := ((R.out.own s _ HV.out).lt w.heap.size (by rw [HN.out]; exact e)).2
        omega
      have e0 : u.cell? ⟨w.heap.size, 0, none⟩ = some (.int .i64 di) := by
        rw [World.cell?, hu]; exact ((Grw.rfl' w2).alloc _).cell d0
      have e1 : u.cell? ⟨w.heap.size, 1, none⟩ = some (.int .u64 dt) := by
        rw [World.cell?, hu]; exact ((Grw.rfl' w2).alloc _).cell d1
      exact ⟨by simp [World.cell?, hx, hvv], by simp [World.frozen?, hx], hf.cell e0 hnw, hf.cell e1 hnw⟩ : ∀ (u x : World), u.heap = (w2.alloc (.cells #[.int .i64 di, .int .u64 dt] 31)).heap → Frm (fun k => (Value.slice ao n cap).ownBlock = some k) u x → x.cell? ⟨b, s, none⟩ = some (.slice ao n cap) ∧ x.frozen? ⟨b, s, none⟩ = false ∧ x.cell? ⟨w.heap.size, 0, none⟩ = some (.int .i64 di) ∧ x.cell? ⟨w.heap.size, 1, none⟩ = some (.int .u64 dt))
    have hbw : b < w.heap.size := R.out.lt
    have hne1 : ¬ b = w.heap.size := by omega
    have hne2 : ¬ w.heap.size = b := by omega
    clear hg2 hplc c0 c1 K hc K2 hl'
    go_wp2_with fail
    go_region_held3 (fun u => u.cell? ⟨w.heap.size, 0, none⟩ = some (.int .i64 di) ∧ u.cell? ⟨w.heap.size, 1, none⟩ = some (.int .u64 dt)) (first | go_keep | exact ⟨hc0, hc1⟩)
      (first | (go_at_call 26; refine (IN.out ((w2.alloc (.cells #[.int .i64 di, .int .u64 dt] 31)).drew) rfl).mono ?_; rintro _ w3 ⟨v', rfl, hown, hfrm, hblk⟩; obtain ⟨ao', cap', rfl, hl'⟩ := ownsRow_lies hown; have hcc := (AF.out ((w2.alloc (.cells #[.int .i64 di, .int .u64 dt] 31)).drew) w3 rfl hfrm).1; have hcf := (AF.out ((w2.alloc (.cells #[.int .i64 di, .int .u64 dt] 31)).drew) w3 rfl hfrm).2.1; have hc0 := (AF.out ((w2.alloc (.cells #[.int .i64 di, .int .u64 dt] 31)).drew) w3 rfl hfrm).2.2.1; have hc1 := (AF.out ((w2.alloc (.cells #[.int .i64 di, .int .u64 dt] 31)).drew) w3 rfl hfrm).2.2.2))
    have U := Lib.hid (ringQ_set R.out (s := s) ((G2.out.alloc (.cells #[.int .i64 di, .int .u64 dt] 31)).drew) HV.out (by rw [HN.out]; exact hfrm) hown (by
      rw [HN.out]
      rcases hblk with e | ⟨q, e, hq⟩
      · exact Or.inl e
      · refine Or.inr (Or.inr ⟨q, e, Nat.le_trans (Below.size ((G2.out.alloc (.cells #[.int .i64 di, .int .u64 dt] 31)).drew)) hq⟩)))
    clear hown hfrm hblk hl' hcc hcf hc0 hc1
    go_wp2_with fail
    rw [QQ.out]
    exact Or.inr ⟨E.out, rfl, by rw [LP.out]; exact U.out⟩
end Go.Proofs.YtlihcljjpalapaaDoor
