/- The contracts of the document's Place and Load at this program. -/
import Derived.Test.YtjkhgpdhhnfmlaaDoorJc
import Derived.Test.YtjkhgpdhhnfmlaaDoorVp
import Derived.Test.YtjkhgpdhhnfmlaaDoorXr
import Derived.Test.YtjkhgpdhhnfmlaaDoorJi
namespace Go.Proofs.YtjkhgpdhhnfmlaaDoor
open Go.RowKit TM MK
open RG (Du Srt)
open VM (lvl idsD)
set_option linter.unusedSimpArgs false

set_option maxHeartbeats 2000000 in
set_option maxRecDepth 100000 in
theorem rplace_R (r now : Nat) (v : Value) (L : List Du) (i : Int) (a b : Nat) (o : Bool) (w : World) (h : RW w r v now L) (hb : L.length ≤ 1000) (hn : now < 2 ^ 64) (hL : ∀ d ∈ L, d.t < 2 ^ 64) (h1 : plS now (atO L i) = a) (h2 : plL now (atO L i) = b) (h3 : (atO L i).isSome = o) :
    Calls Tryd.prog 19 #[.pointer (some ⟨r, 0, none⟩), .int .i64 i] w fun e w' => e = .returned (.tuple #[.complex .f64 a b, .bool o]) ∧ Grw w w' := by
  rcases e : atO L i with _ | t
  · have A := Lib.hid (rat_R r now v L i 0 false w h hb (by rw [e]; rfl) (by rw [e]; rfl))
    rw [e] at h1 h2 h3
    unfold plS at h1
    unfold plL at h2
    simp only at h1 h2
    subst h1 h2 h3
    clear h e hb hn hL
    go_enter Tryd.func19, Tryd.ntmps19
    go_wp2_with fail
    refine A.out.mono ?_
    rintro _ w1 ⟨rfl, hg⟩
    have G := Lib.hid hg
    clear hg
    go_wp2_with fail
    go_ret2
    exact ⟨rfl, G.out.alloc _⟩
  · have A := Lib.hid (rat_R r now v L i t true w h hb (by rw [e]; rfl) (by rw [e]; rfl))
    have ht : t < 2 ^ 64 := hL _ (atO_mem e)
    rw [e] at h1 h2 h3
    unfold plS at h1
    unfold plL at h2
    simp only at h1 h2
    obtain rfl : true = o := h3
    have IX := index_dig t (lvl now t)
    have hl6 := VM.lvl_six now t
    have hdg := dig_dg t (lvl now t)
    have hps : posS now t = if lvl now t = 6 then -1 else ((VM.dg t (lvl now t) : Nat) : Int) := rfl
    rw [← hdg] at hps
    obtain ⟨l, hl⟩ : ∃ l, lvl now t = l := ⟨_, rfl⟩
    have LV := Lib.hid (fun x (q : Grw w x) => rlevel_R r now v L t l x (h.later q) hn ht hl)
    have DG := Lib.hid (fun x => rdigits_any (t : Int) x ⟨by omega, by omega⟩)
    rw [hl] at IX hl6 hps h2
    rw [hps] at h1
    clear h e hb hn hL hl hdg hps
    by_cases h6 : l = 6
    · subst h6
      rw [if_pos rfl, floatM1] at h1
      rw [show ((6 : Nat) : Int) = 6 from rfl, float6] at h2
      subst h1 h2
      clear IX DG ht
      go_enter Tryd.func19, Tryd.ntmps19
      go_wp2_with fail
      refine A.out.mono ?_
      rintro _ w1 ⟨rfl, hg⟩
      have G := Lib.hid hg
      have K1 := Lib.hid (Kp.new w1 (.int .u64 (t : Nat)) (.bool true) 39)
      clear hg
      go_wp2_with fail
      refine (LV.out _ (G.out.alloc _)).mono ?_
      rintro _ w2 ⟨rfl, hg⟩
      have G2 := Lib.hid ((G.out.alloc _).trans hg)
      clear hg
      go_wp2_with fail
      go_ret2
      exact ⟨rfl, G2.out⟩
    · rw [if_neg h6] at h1
      have IX := Lib.hid (IX (by omega))
      have t6 : ((l : Int) == 6) = false := by simp; omega
      have t7 : ¬ (l : Int) = 6 := by omega
      clear ht h6 hl6
      go_enter Tryd.func19, Tryd.ntmps19
      go_wp2_with fail
      refine A.out.mono ?_
      rintro _ w1 ⟨rfl, hg⟩
      have G := Lib.hid hg
      clear hg
      go_wp2_with fail
      refine (LV.out _ (G.out.alloc _)).mono ?_
      rintro _ w2 ⟨rfl, hg⟩
      have G2 := Lib.hid ((G.out.alloc _).trans hg)
      have K2 := Kp.grown hg
      have c0 := K2.t.c0
      clear hg K2
      go_wp2_with fail
      refine (DG.out _).mono ?_
      rintro _ _ ⟨rfl, k1, k2, rfl⟩
      go_wp2_with (simp only [IX.out])
      go_ret2
      exact ⟨rfl, (G2.out.alloc _).alloc _⟩
/-! ### Load -/
theorem ld_succ (now : Nat) (L : List Du) {k : Nat} (h : k < L.length) (i : Nat) : ld now (L.take (k + 1)) i = if i = lvl now L[k].t then ld now (L.take k) i + 1 else ld now (L.take k) i := by
  unfold ld
  rw [List.take_succ_eq_append_getElem h, List.filter_append, List.length_append, List.filter_cons]
  by_cases e : i = lvl now L[k].t
  · rw [if_pos e, if_pos (by simp [e])]; rfl
  · rw [if_neg e, if_neg (by simp; exact fun c => e c.symm)]; rfl
/-- seven numbers in a block. -/
theorem a7_cell {w : World} {X : Nat} {T : TypeId} {g : Nat → Nat} (h : w.heap[X]? = some (.cells (a7 g) T (0, 0))) {k : Nat} (hk : k < 7) : w.cell? ⟨X, k, none⟩ = some (.int .i64 (g k : Nat)) ∧ w.frozen? ⟨X, k, none⟩ = false :=
  ⟨by simp [World.cell?, h, a7_get g k hk], by simp [World.frozen?, h]⟩
theorem a7_put {w : World} {X : Nat} {T : TypeId} {g g' : Nat → Nat} (h : w.heap[X]? = some (.cells (a7 g) T (0, 0))) {k : Nat} (hk : k < 7) (e : ∀ i, i ≠ k → g' i = g i) : (w.setCell ⟨X, k, none⟩ (.int .i64 (g' k : Nat))).heap[X]? = some (.cells (a7 g') T (0, 0)) := by
  rw [← a7_set g g' k hk e]
  simp [World.setCell, Array.getElem?_modify, h]
theorem ldv_is (now : Nat) (L : List Du) : ldv now L = .agg #[.int .i64 (ld now L 0 : Nat), .int .i64 (ld now L 1 : Nat), .int .i64 (ld now L 2 : Nat), .int .i64 (ld now L 3 : Nat), .int .i64 (ld now L 4 : Nat), .int .i64 (ld now L 5 : Nat), .int .i64 (ld now L 6 : Nat)] := rfl
/-- the two arrays of Load: the result's, the counts. -/
structure LP (w wr : World) (Z : Nat) (g : Nat → Nat) : Prop where
  gr : Grw w wr
  z : wr.heap[Z]? = some (.cells (a7 (fun _ => 0)) 87 (0, 0))
  d : wr.heap[Z + 1]? = some (.cells (a7 g) 87 (0, 0))
  ge : w.heap.size ≤ Z
theorem LP.later {w wr x : World} {Z : Nat} {g : Nat → Nat} (P : LP w wr Z g) (q : Grw wr x) : LP w x Z g :=
  ⟨P.gr.trans q, (q.block (Array.getElem?_eq_some_iff.1 P.z).1).trans P.z, (q.block (Array.getElem?_eq_some_iff.1 P.d).1).trans P.d, P.ge⟩
theorem LP.put {w wr : World} {Z : Nat} {g g' : Nat → Nat} (P : LP w wr Z g) {k : Nat} (hk : k < 7) (e : ∀ i, i ≠ k → g' i = g i) : LP w (wr.setCell ⟨Z + 1, k, none⟩ (.int .i64 (g' k : Nat))) Z g' :=
  ⟨P.gr.set (p := ⟨Z + 1, k, none⟩) (Nat.le_succ_of_le P.ge) _, ((frm_set (F := fun q => q = Z + 1) wr ⟨Z + 1, k, none⟩ _ rfl).block Z (Array.getElem?_eq_some_iff.1 P.z).1 (by omega)).trans P.z, a7_put P.d hk e, P.ge⟩
theorem LP.start (w : World) : LP w ((w.alloc (.cells #[.int .i64 0, .int .i64 0, .int .i64 0, .int .i64 0, .int .i64 0, .int .i64 0, .int .i64 0] 87)).alloc (.cells #[.int .i64 0, .int .i64 0, .int .i64 0, .int .i64 0, .int .i64 0, .int .i64 0, .int .i64 0] 87)) w.heap.size (fun _ => 0) := by
  refine ⟨((Grw.rfl' w).alloc _).alloc _, ?_, ?_, Nat.le_refl _⟩
  · rw [a7_zero, heap_old _ _ _ (by rw [size_new]; omega)]
    exact heap_alloc_new w _
  · have := heap_alloc_new (w.alloc (.cells #[.int .i64 0, .int .i64 0, .int .i64 0, .int .i64 0, .int .i64 0, .int .i64 0, .int .i64 0] 87)) (.cells #[.int .i64 0, .int .i64 0, .int .i64 0, .int .i64 0, .int .i64 0, .int .i64 0, .int .i64 0] 87)
    rw [size_new] at this
    rw [a7_zero]
    exact this
set_option maxHeartbeats 4000000 in
set_option maxRecDepth 100000 in
theorem rload_R (r now : Nat) (v : Value) (L : List Du) (w : World) (h : RW w r v now L) (hb : L.length ≤ 1000) (hn : now < 2 ^ 64) (hL : ∀ d ∈ L, d.t < 2 ^ 64) :
    Calls Tryd.prog 44 #[.pointer (some ⟨r, 0, none⟩)] w (LoadQ now L w) := by
  have H := Lib.hid h
  obtain ⟨n, hnn⟩ : ∃ n, L.length = n := ⟨_, rfl⟩
  have LT : Hid (∀ k (hk : k < L.length) x, Grw w x → Calls Tryd.prog 41 #[.pointer (some ⟨r, 0, none⟩), .int .u64 ((L[k]).t : Nat)] x fun e w' => e = .returned (.int .i64 (lvl now (L[k]).t : Nat)) ∧ Grw x w') :=
    (fun k hk x q => rlevel_R r now v L _ _ x (h.later q) hn (hL _ (List.getElem_mem hk)) rfl : ∀ k (hk : k < L.length) x, Grw w x → Calls Tryd.prog 41 #[.pointer (some ⟨r, 0, none⟩), .int .u64 ((L[k]).t : Nat)] x fun e w' => e = .returned (.int .i64 (lvl now (L[k]).t : Nat)) ∧ Grw x w')
  obtain ⟨ao, cap, rfl, hcap, hnil, hl⟩ := h.row
  rw [hnn] at hb hcap
  have LI := Lib.hid hl
  have HN := Lib.hid hnn
  have K := Lib.hid (fun x (q : Grw w x) => (H.out.later q).kp.t.c0)
  rw [hnn] at K
  have P0 := Lib.hid (LP.start w)
  have k0 := K.out _ (((Grw.rfl' w).alloc (.cells #[.int .i64 0, .int .i64 0, .int .i64 0, .int .i64 0, .int .i64 0, .int .i64 0, .int .i64 0] 87)).alloc (.cells #[.int .i64 0, .int .i64 0, .int .i64 0, .int .i64 0, .int .i64 0, .int .i64 0, .int .i64 0] 87))
  obtain ⟨Z, hZ⟩ : ∃ Z, w.heap.size = Z := ⟨_, rfl⟩
  rw [hZ] at P0
  have HZ := Lib.hid (Nat.le_of_eq hZ)
  clear h hl hn hL hnn hnil hcap
  obtain ⟨Q, hQ⟩ : ∃ Q : Ending → World → Prop, Q = LoadQ now L w := ⟨_, rfl⟩
  rw [← hQ]
  have Q1 := Lib.hid hQ
  clear hQ
  go_enter Tryd.func44, Tryd.ntmps44
  go_wp2_with fail
  go_loopw [4] (fun u wr => ∃ k : Nat, k ≤ n ∧ u = .int .i64 k ∧ LP w wr Z (ld now (L.take k))) (fun u _ => n - (intOf u).toNat)
  case atStart => exact ⟨0, Nat.zero_le _, rfl, P0.out⟩
  case round =>
    obtain ⟨k, hk, rfl, hp⟩ := hrel
    have P := Lib.hid hp
    clear k0
    have k0 := K.out _ hp.gr
    clear hp
    by_cases ck : k < n
    · have hki : (k : Int) < (n : Int) := by omega
      have hkl : k < L.length := by rw [HN.out]; exact ck
      obtain ⟨b, off, rfl, _, e1⟩ := lies_at (LI.out.later P.out.gr) hkl
      have LV := LT.out k hkl wr P.out.gr
      have hs : ∀ i, ld now (L.take (k + 1)) i = if i = lvl now L[k].t then ld now (L.take k) i + 1 else ld now (L.take k) i := ld_succ now L hkl
      have hle : ld now (L.take k) (lvl now L[k].t) ≤ 1000 := Nat.le_trans (ld_le _ _ _) (by rw [List.length_take]; omega)
      obtain ⟨t, ht⟩ : ∃ t, (L[k]).t = t := ⟨_, rfl⟩
      rw [ht] at e1 LV hs hle
      have hl6 := VM.lvl_six now t
      obtain ⟨l, hlv⟩ : ∃ l, lvl now t = l := ⟨_, rfl⟩
      rw [hlv] at LV hs hle hl6
      have PS : Hid (∀ y, Grw wr y → LP w (y.setCell ⟨Z + 1, l, none⟩ (.int .i64 (ld now (L.take (k + 1)) l : Nat))) Z (ld now (L.take (k + 1)))) :=
        (fun y q => (P.out.later q).put (by omega) (fun i hi => by rw [hs i, if_neg hi]) : ∀ y, Grw wr y → LP w (y.setCell ⟨Z + 1, l, none⟩ (.int .i64 (ld now (L.take (k + 1)) l : Nat))) Z (ld now (L.take (k + 1))))
      have hs1 := hs l
      rw [if_pos rfl] at hs1
      obtain ⟨q, hq⟩ : ∃ q, ld now (L.take k) l = q := ⟨_, rfl⟩
      have CD : Hid (∀ y, Grw wr y → y.cell? ⟨Z + 1, l, none⟩ = some (.int .i64 (q : Nat)) ∧ y.frozen? ⟨Z + 1, l, none⟩ = false) := (fun y g => by
          have := a7_cell (P.out.later g).d (k := l) (by omega)
          rw [hq] at this
          exact this : ∀ y, Grw wr y → y.cell? ⟨Z + 1, l, none⟩ = some (.int .i64 (q : Nat)) ∧ y.frozen? ⟨Z + 1, l, none⟩ = false)
      rw [hq] at hs1 hle
      rw [hs1] at PS
      have hl7 : (l : Int) < 7 := by omega
      have hl7' : l < 7 := by omega
      have LV := Lib.hid LV
      clear hs hs1 hq ht hlv hl6
      go_wp2_with fail
      refine LV.out.mono ?_
      rintro _ w1 ⟨rfl, hg⟩
      have c0 := (CD.out w1 hg).1
      have f0 := (CD.out w1 hg).2
      have PN := Lib.hid (PS.out w1 hg)
      clear hg
      go_wp2_with fail
      go_roundw
      case rel => exact ⟨k + 1, by omega, by go_num, PN.out⟩
      case measure => simp [intOf]; omega
    · have hki : ¬ (k : Int) < (n : Int) := by omega
      obtain rfl : n = k := by omega
      have PE := P.out
      rw [List.take_of_length_le (by rw [HN.out]; exact Nat.le_refl _)] at PE
      obtain ⟨f, hf⟩ : ∃ f, ld now L = f := ⟨_, rfl⟩
      rw [hf] at PE
      have z0 := a7_cell PE.z (k := 0) (by omega)
      have z1 := a7_cell PE.z (k := 1) (by omega)
      have z2 := a7_cell PE.z (k := 2) (by omega)
      have z3 := a7_cell PE.z (k := 3) (by omega)
      have z4 := a7_cell PE.z (k := 4) (by omega)
      have z5 := a7_cell PE.z (k := 5) (by omega)
      have z6 := a7_cell PE.z (k := 6) (by omega)
      have d0 := (a7_cell PE.d (k := 0) (by omega)).1
      have d1 := (a7_cell PE.d (k := 1) (by omega)).1
      have d2 := (a7_cell PE.d (k := 2) (by omega)).1
      have d3 := (a7_cell PE.d (k := 3) (by omega)).1
      have d4 := (a7_cell PE.d (k := 4) (by omega)).1
      have d5 := (a7_cell PE.d (k := 5) (by omega)).1
      have d6 := (a7_cell PE.d (k := 6) (by omega)).1
      have GE := Lib.hid PE.gr
      have HF := Lib.hid hf
      obtain ⟨y0, x0⟩ := z0
      obtain ⟨y1, x1⟩ := z1
      obtain ⟨y2, x2⟩ := z2
      obtain ⟨y3, x3⟩ := z3
      obtain ⟨y4, x4⟩ := z4
      obtain ⟨y5, x5⟩ := z5
      obtain ⟨y6, x6⟩ := z6
      clear PE hf
      go_wp2_with fail
      refine bodyPost_ret (v := .agg #[.int .i64 (f 0 : Nat), .int .i64 (f 1 : Nat), .int .i64 (f 2 : Nat), .int .i64 (f 3 : Nat), .int .i64 (f 4 : Nat), .int .i64 (f 5 : Nat), .int .i64 (f 6 : Nat)]) (by simp [results, Tryd.results44, go_sem, y0, y1, y2, y3, y4, y5, y6]) rfl ?_
      rw [Q1.out]
      refine ⟨by rw [ldv_is, HF.out], ?_⟩
      repeat (first | (with_reducible exact GE.out) | ((with_reducible refine Grw.set ?_ ?_ _); rotate_left; exact HZ.out))
end Go.Proofs.YtjkhgpdhhnfmlaaDoor

/- The law's own same: the project's wheel and the document's tell the same. -/
namespace Go.Proofs.YtjkhgpdhhnfmlaaDoor
open Go.RowKit TM MK
open RG (Du Srt)
open VM (lvl idsD)
set_option linter.unusedSimpArgs false

/-- a position equals itself. -/
theorem pl_eq (now : Nat) (o : Option Nat) : (FloatKind.f64.format.order (plS now o) (plS now o) == some .eq) = true ∧ (FloatKind.f64.format.order (plL now o) (plL now o) == some .eq) = true := by
  cases o with
  | none => exact ⟨eqO, eqO⟩
  | some t =>
    have h6 := VM.lvl_six now t
    exact ⟨fl_eq _ (posS_range now t).1 (posS_range now t).2, fl_eq _ (by omega) (by omega)⟩
set_option maxHeartbeats 8000000 in
set_option maxRecDepth 100000 in
theorem same_any (w0 w : World) (p now r : Nat) (L : List Du) (X : Nat → Prop) (h : HS w0 w p now L r now L X) :
    Calls Tryd.prog 22 #[.pointer (some ⟨p, 0, none⟩), .pointer (some ⟨r, 0, none⟩)] w fun e w' => e = .returned (.bool true) ∧ Grw w w' := by
  have gl := h.gl
  have few := gl.few
  have MW' := h.mw
  obtain ⟨v, hr⟩ := h.rw
  have RL : Hid (∀ x, Grw w x → RW x r v now L) := (fun x q => hr.later q : ∀ x, Grw w x → RW x r v now L)
  have ML : Hid (∀ x, Grw w x → MW w0 x p now L) := (fun x q => MW'.later q : ∀ x, Grw w x → MW w0 x p now L)
  have GLL := Lib.hid gl
  obtain ⟨n, hn⟩ : ∃ n, L.length = n := ⟨_, rfl⟩
  have NO := Lib.hid (fun q : GW w => now_M w0 p now L q.x (ML.out q.x q.h))
  have LE := Lib.hid (fun q : GW w => len_M w0 p now L n q.x (ML.out q.x q.h) hn)
  have LO := fun q : GW w => load_M w0 p now L q.x (ML.out q.x q.h)
  have RO := fun q : GW w => rload_R r now v L q.x (RL.out q.x q.h) (by omega) gl.nw (fun d hd => (gl.bd d hd).2)
  unfold LoadQ ldv at LO RO
  have E7 := fun w => eq7_same (fun k => (ld now L k : Int)) w
  obtain ⟨f7, hf7⟩ : ∃ f7 : Nat → Nat, ld now L = f7 := ⟨_, rfl⟩
  rw [hf7] at LO RO E7
  have LO := Lib.hid LO
  have RO := Lib.hid RO
  have FI := Lib.hid (fun x (q : Grw w x) => first_M w0 p now L x (ML.out x q))
  obtain ⟨ao, cap, hv, hcap, hnil, hl⟩ := hr.row
  rw [hn] at hv hcap
  have LI := Lib.hid hl
  have HN := Lib.hid hn
  have K : Hid (∀ x, Grw w x → Two x r (.slice ao n cap) (.int .u64 (now : Nat))) := (fun x q => by rw [← hv]; exact (RL.out x q).kp.t : ∀ x, Grw w x → Two x r (.slice ao n cap) (.int .u64 (now : Nat)))
  have k0 := gw_cell (K.out w (Grw.rfl' w)).c0
  have k1 := gw_cell (K.out w (Grw.rfl' w)).c1
  have hb : n ≤ 900 := by rw [← hn]; exact few
  clear h gl few MW' hr hf7 hl hn hv hcap hnil
  go_enter Tryd.func22, Tryd.ntmps22
  go_wp2_with fail
  refine wp_region_grown (by kernel_rfl) (by kernel_rfl) ?_
  repeat (go_big_quiet_step (first | (go_at_call 26; exact calls_grown_same (NO.out _)) | (go_at_call 30; exact calls_grown_same (LE.out _)) | (go_at_call 43; exact calls_grown (LO.out _)) | (go_at_call 44; exact calls_grown (RO.out _))))
  refine wpQuiet_nil ?_
  rintro _ ⟨q1, rfl⟩
  have G1 := Lib.hid q1.h
  have F1 := FI.out q1.x q1.h
  obtain ⟨w1, hw1⟩ : ∃ x, q1.x = x := ⟨_, rfl⟩
  rw [hw1] at F1 G1 ⊢
  unfold FirstQ at F1
  clear k0 k1 NO LE LO RO E7 hw1
  rcases hc : L with _ | ⟨d, l⟩
  · subst hc
    have e0 : n = 0 := by rw [← HN.out]; rfl
    subst e0
    unfold hdD at F1
    simp only [List.headD_nil, List.isEmpty_nil, Bool.not_true] at F1
    have F1 := Lib.hid F1
    go_wp2_with fail
    refine F1.out.mono ?_
    rintro _ w2 ⟨rfl, hg⟩
    have G2 := Lib.hid ((G1.out.trans hg).alloc (.cells #[.int .i64 0, .int .u64 0] 42))
    have KD := Kp.new w2 (.int .i64 0) (.int .u64 0) 42
    have k0 := gw_cell (K.out _ G2.out).c0
    have d0 := gw_cell KD.t.c0
    have d1 := gw_cell KD.t.c1
    clear hg KD
    go_wp2_with fail
    refine wp_region_grown (by kernel_rfl) (by kernel_rfl) ?_
    repeat (go_big_quiet_step (fail))
    refine wpQuiet_nil ?_
    rintro _ ⟨q3, rfl⟩
    have G3 := Lib.hid (G2.out.trans q3.h)
    have c0 := (K.out _ G3.out).c0
    go_wp2_with fail
    refine wp_loop_rounds 1 ?_
    rw [rounds_succ]
    go_wp2_with fail
    go_ret
    exact ⟨rfl, G3.out⟩
  · have hpos : 0 < n := by rw [← HN.out, hc]; simp
    unfold hdD at F1
    rw [hc] at F1
    simp only [List.headD_cons, List.isEmpty_cons, Bool.not_false] at F1
    have LD0 := fun x (q : Grw w x) => lies_at (LI.out.later q) (j := 0) (by rw [hc]; simp)
    obtain ⟨di, dt⟩ := d
    have LD : Hid (∀ x, Grw w x → ∃ b off, ao = some ⟨b, off, none⟩ ∧ x.cell? ⟨b, off, none⟩ = some (.int .i64 di) ∧ x.cell? ⟨b, off + 1, none⟩ = some (.int .u64 (dt : Nat))) := (fun x q => by
      obtain ⟨b, off, e, q0, q1⟩ := LD0 x q
      simp only [hc, Nat.zero_mul, Nat.add_zero, List.getElem_cons_zero] at q0 q1
      exact ⟨b, off, e, q0, q1⟩ : ∀ x, Grw w x → ∃ b off, ao = some ⟨b, off, none⟩ ∧ x.cell? ⟨b, off, none⟩ = some (.int .i64 di) ∧ x.cell? ⟨b, off + 1, none⟩ = some (.int .u64 (dt : Nat)))
    have F1 := Lib.hid F1
    have hn1 : decide ((0 : Int) < (n : Int)) = true := by simp; omega
    have hn2 : (0 : Int) < (n : Int) := by omega
    clear LD0 hc
    go_wp2_with fail
    refine F1.out.mono ?_
    rintro _ w2 ⟨rfl, hg⟩
    have G2 := Lib.hid ((G1.out.trans hg).alloc (.cells #[.int .i64 di, .int .u64 (dt : Nat)] 42))
    have KD := Kp.new w2 (.int .i64 di) (.int .u64 (dt : Nat)) 42
    obtain ⟨b, off, rfl, x0, x1⟩ := LD.out _ G2.out
    have k0 := gw_cell (K.out _ G2.out).c0
    have d0 := gw_cell KD.t.c0
    have d1 := gw_cell KD.t.c1
    have y0 := gw_cell x0
    have y1 := gw_cell x1
    clear hg KD x0 x1
    go_wp2_with fail
    refine wp_region_grown (by kernel_rfl) (by kernel_rfl) ?_
    repeat (go_big_quiet_step (fail))
    refine wpQuiet_nil ?_
    rintro _ ⟨q3, rfl⟩
    have G3 := Lib.hid (G2.out.trans q3.h)
    obtain ⟨w3, hw3⟩ : ∃ x, q3.x = x := ⟨_, rfl⟩
    rw [hw3] at G3 ⊢
    clear k0 d0 d1 y0 y1 hw3 F1
    go_wp2_with fail
    go_loopw [7] (fun u wr => ∃ k : Nat, k ≤ n ∧ u = .int .i64 k ∧ Grw w wr) (fun u _ => n - (intOf u).toNat)
    case atStart => exact ⟨0, Nat.zero_le _, rfl, G3.out⟩
    case round =>
      obtain ⟨k, hk, rfl, hg⟩ := hrel
      have G := Lib.hid hg
      have c0 := (K.out _ hg).c0
      by_cases ck : k < n
      · have hki : (k : Int) < (n : Int) := by omega
        have hkl : k < L.length := by rw [HN.out]; exact ck
        have LK : Hid (∀ x, Grw w x → x.cell? ⟨b, off + k * 2, none⟩ = some (.int .i64 (L[k]).id) ∧ x.cell? ⟨b, off + k * 2 + 1, none⟩ = some (.int .u64 ((L[k]).t : Nat))) := (fun x q => by
          obtain ⟨b', off', e, q0, q1⟩ := lies_at (LI.out.later q) hkl
          injection e with e
          injection e with e1 e2
          subst e1; subst e2
          exact ⟨q0, q1⟩ : ∀ x, Grw w x → x.cell? ⟨b, off + k * 2, none⟩ = some (.int .i64 (L[k]).id) ∧ x.cell? ⟨b, off + k * 2 + 1, none⟩ = some (.int .u64 ((L[k]).t : Nat)))
        have hat := atO_of GLL.out.ids (List.getElem_mem hkl)
        have hbd := GLL.out.bd _ (List.getElem_mem hkl)
        obtain ⟨x, hx⟩ : ∃ x, L[k] = x := ⟨_, rfl⟩
        rw [hx] at LK hat hbd
        obtain ⟨xi, xt⟩ := x
        simp only at LK hat hbd
        have PE := pl_eq now (atO L xi)
        obtain ⟨a, ha⟩ : ∃ a, plS now (atO L xi) = a := ⟨_, rfl⟩
        obtain ⟨a2, ha2⟩ : ∃ a2, plL now (atO L xi) = a2 := ⟨_, rfl⟩
        rw [ha, ha2] at PE
        have P1 := Lib.hid (fun x (q : Grw w x) => place_M w0 p now L xi a a2 true x (ML.out x q) hbd.1 ha ha2 (by rw [hat]; rfl))
        have P2 := Lib.hid (fun x (q : Grw w x) => rplace_R r now v L xi a a2 true x (RL.out x q) (by have := GLL.out.few; omega) GLL.out.nw (fun d hd => (GLL.out.bd d hd).2) ha ha2 (by rw [hat]; rfl))
        have P3 := Lib.hid (fun x (q : Grw w x) => at_M w0 p now L xi xt true x (ML.out x q) hbd.1 (by rw [hat]; rfl) (by rw [hat]; rfl))
        have x0 := (LK.out wr hg).1
        obtain ⟨pe1, pe2⟩ := PE
        clear hg hat hbd hx ha ha2
        go_wp2_with fail
        refine (P1.out _ G.out).mono ?_
        rintro _ w4 ⟨rfl, hg4⟩
        have G4 := Lib.hid (G.out.trans hg4)
        clear c0 x0
        have c0 := (K.out _ G4.out).c0
        have x0 := (LK.out _ G4.out).1
        clear hg4
        go_wp2_with fail
        refine (P2.out _ G4.out).mono ?_
        rintro _ w5 ⟨rfl, hg5⟩
        have G5 := Lib.hid (G4.out.trans hg5)
        clear c0 x0
        have c0 := (K.out _ G5.out).c0
        have x0 := (LK.out _ G5.out).1
        clear hg5
        go_wp2_with fail
        refine (P3.out _ G5.out).mono ?_
        rintro _ w6 ⟨rfl, rfl⟩
        have y1 := (LK.out _ G5.out).2
        go_wp2_with fail
        go_roundw
        case rel => exact ⟨k + 1, by omega, by go_num, G5.out⟩
        case measure => simp [intOf]; omega
      · have hki : ¬ (k : Int) < (n : Int) := by omega
        obtain rfl : n = k := by omega
        clear hg
        go_wp2_with fail
        go_ret
        exact ⟨rfl, G.out⟩
end Go.Proofs.YtjkhgpdhhnfmlaaDoor

/- Each act, answered by the project's wheel and by the document's. -/
namespace Go.Proofs.YtjkhgpdhhnfmlaaDoor
open Go.RowKit TM MK
open RG (Du Srt)
open VM (lvl idsD)
set_option linter.unusedSimpArgs false

section
variable {w0 : World} {p r now : Nat} {L : List Du} {X : Nat → Prop}
/-- Insert. -/
theorem insert_pair (gl : GL now L) (i : Int) (t : Nat) (hi : Wi i) (ht : t < 2 ^ 64) (hf : L.length < 900) : ∃ (z : Int) (L' : List Du), L'.length ≤ L.length + 1 ∧
    (∀ u, HS w0 u p now L r now L X → Calls Tryd.prog 9 #[.pointer (some ⟨p, 0, none⟩), .int .i64 i, .int .u64 (t : Nat)] u fun e w' => e = .returned (.int .i64 z) ∧ HS w0 w' p now L' r now L X ∧ Frm (fun k => ¬ X k) u w') ∧
    (∀ u, HS w0 u p now L' r now L X → Calls Tryd.prog 10 #[.pointer (some ⟨r, 0, none⟩), .int .i64 i, .int .u64 (t : Nat)] u fun e w' => e = .returned (.int .i64 z) ∧ HS w0 w' p now L' r now L' X ∧ Frm (fun k => ¬ X k) u w') := by
  refine ⟨insE now L i t, insL now L i t, ?_, fun u h => insert_H _ i t _ h hi ht hf rfl rfl, fun u h => ?_⟩
  · unfold insL
    split
    · omega
    · split
      · omega
      · rw [JM.put_len]; omega
  · obtain ⟨v, hv⟩ := h.ex
    exact (rinsert_R r now v L _ i t _ u hv.1 gl.srt (by omega) rfl rfl).mono fun _ _ ⟨he, hq⟩ => ⟨he, HS.ref hv h hq⟩
/-- Cancel. -/
theorem cancel_pair (gl : GL now L) (i : Int) (hi : Wi i) : ∃ (c : Nat) (o : Bool) (L' : List Du), L'.length ≤ L.length ∧
    (∀ u, HS w0 u p now L r now L X → Calls Tryd.prog 11 #[.pointer (some ⟨p, 0, none⟩), .int .i64 i] u fun e w' => e = .returned (.tuple #[.int .u64 (c : Nat), .bool o]) ∧ HS w0 w' p now L' r now L X ∧ Frm (fun k => ¬ X k) u w') ∧
    (∀ u, HS w0 u p now L' r now L X → Calls Tryd.prog 12 #[.pointer (some ⟨r, 0, none⟩), .int .i64 i] u fun e w' => e = .returned (.agg #[.int .u64 (c : Nat), .bool o]) ∧ HS w0 w' p now L' r now L' X ∧ Frm (fun k => ¬ X k) u w') := by
  refine ⟨(atO L i).getD 0, (atO L i).isSome, VM.del i L, List.length_filter_le _ _, fun u h => cancel_H _ i _ _ h hi rfl rfl rfl, fun u h => ?_⟩
  obtain ⟨v, hv⟩ := h.ex
  have := gl.few
  exact (rcancel_R r now v L _ i _ _ u hv.1 gl.ids (by omega) rfl rfl rfl).mono fun _ _ ⟨he, hq⟩ => ⟨he, HS.ref hv h hq⟩
/-- Pop. -/
theorem pop_pair (gl : GL now L) (tt : Nat) (ht : tt < 2 ^ 64) : ∃ (d : Du) (o : Bool) (now' : Nat) (L' : List Du), L'.length ≤ L.length ∧
    (∀ u, HS w0 u p now L r now L X → Calls Tryd.prog 13 #[.pointer (some ⟨p, 0, none⟩), .int .u64 (tt : Nat)] u fun e w' => e = .returned (.tuple #[.agg #[.int .i64 d.id, .int .u64 (d.t : Nat)], .bool o]) ∧ HS w0 w' p now' L' r now L X ∧ Frm (fun k => ¬ X k) u w') ∧
    (∀ u Y, HS w0 u p now' L' r now L Y → Calls Tryd.prog 14 #[.pointer (some ⟨r, 0, none⟩), .int .u64 (tt : Nat)] u fun e w' => e = .returned (.tuple #[.agg #[.int .i64 d.id, .int .u64 (d.t : Nat)], .bool o]) ∧ HS w0 w' p now' L' r now' L' Y ∧ Frm (fun k => ¬ Y k) u w') := by
  have few := gl.few
  rcases JM.pop_cases L tt with ⟨d, l, rfl, hd, _, _⟩ | ⟨hM, _, _⟩
  · refine ⟨d, true, d.t, l, by simp, fun u h => pop_H_hit tt d l h hd, fun u Y h => ?_⟩
    obtain ⟨v, hv⟩ := h.ex
    exact (rpop_hit r now v tt d l u hv.1 (by simp at few; omega) hd).mono fun _ _ ⟨he, hq⟩ => ⟨he, HS.ref hv h hq⟩
  · refine ⟨⟨0, 0⟩, false, max now tt, L, Nat.le_refl _, fun u h => pop_H_miss tt _ h ht hM rfl, fun u Y h => ?_⟩
    obtain ⟨v, hv⟩ := h.ex
    exact (rpop_no r now v tt _ L u hv.1 hM rfl).mono fun _ _ ⟨he, hq⟩ => ⟨he, HS.ref hv h hq⟩
/-- Advance: the rows that are told. -/
theorem advance_pair (gl : GL now L) (n : Nat) (hn : n < 2 ^ 64) : ∃ (er : Int) (now' : Nat) (L' T : List Du), L'.length ≤ L.length ∧ T.length ≤ L.length ∧
    (∀ u, HS w0 u p now L r now L X → Calls Tryd.prog 15 #[.pointer (some ⟨p, 0, none⟩), .int .u64 (n : Nat)] u fun e w' => ∃ v, e = .returned (.tuple #[v, .int .i64 er]) ∧ RowD w' v T ∧ HS w0 w' p now' L' r now L (fun k => X k ∨ v.ownBlock = some k) ∧ Frm (fun k => ¬ X k) u w') ∧
    (∀ u Y, HS w0 u p now' L' r now L Y → Calls Tryd.prog 16 #[.pointer (some ⟨r, 0, none⟩), .int .u64 (n : Nat)] u fun e w' => ∃ v, e = .returned (.tuple #[v, .int .i64 er]) ∧ RowD w' v T ∧ HS w0 w' p now' L' r now' L' Y ∧ Frm (fun k => ¬ Y k) u w') := by
  have few := gl.few
  by_cases hs : now + n < 2 ^ 64
  · refine ⟨0, now + n, L.dropWhile (dueP (now + n)), L.takeWhile (dueP (now + n)), (List.dropWhile_sublist _).length_le, (List.takeWhile_sublist _).length_le, fun u h => advance_H n (now + n) _ _ h hs rfl rfl rfl, fun u Y h => ?_⟩
    obtain ⟨v, hv⟩ := h.ex
    exact (radvance_R r now v n (now + n) L _ _ u hv.1 (by omega) hs rfl rfl rfl).mono fun _ _ ⟨x, he, hrow, hq⟩ => ⟨x, he, hrow, HS.ref hv h hq⟩
  · refine ⟨14, now, L, [], Nat.le_refl _, Nat.zero_le _, fun u h => ?_, fun u Y h => ?_⟩
    · refine (advance_M_no w0 p now n L u h.mw hn hs).mono ?_
      rintro _ _ ⟨rfl, rfl⟩
      exact ⟨_, rfl, ⟨none, 0, rfl, Or.inl rfl⟩, h.mono (fun k hk => hk.elim id (fun c => by cases c)), Frm.rfl' _ _⟩
    · obtain ⟨v, hv⟩ := h.ex
      exact (radvance_no r now v n L u hv.1 gl.nw hn hs).mono fun _ _ ⟨he, hq⟩ => ⟨_, he, ⟨none, 0, rfl, Or.inl rfl⟩, HS.ref hv h hq⟩
/-- Place and At. -/
theorem place_pair (gl : GL now L) (i : Int) (hi : Wi i) : ∃ (a b c : Nat) (o : Bool), (FloatKind.f64.format.order a a == some .eq) = true ∧ (FloatKind.f64.format.order b b == some .eq) = true ∧
    (∀ u, HS w0 u p now L r now L X → Calls Tryd.prog 18 #[.pointer (some ⟨p, 0, none⟩), .int .i64 i] u fun e w' => e = .returned (.tuple #[.complex .f64 a b, .bool o]) ∧ Grw u w') ∧
    (∀ u, HS w0 u p now L r now L X → Calls Tryd.prog 19 #[.pointer (some ⟨r, 0, none⟩), .int .i64 i] u fun e w' => e = .returned (.tuple #[.complex .f64 a b, .bool o]) ∧ Grw u w') ∧
    (∀ u, HS w0 u p now L r now L X → Calls Tryd.prog 20 #[.pointer (some ⟨p, 0, none⟩), .int .i64 i] u fun e w' => e = .returned (.tuple #[.int .u64 (c : Nat), .bool o]) ∧ Grw u w') ∧
    (∀ u, HS w0 u p now L r now L X → Calls Tryd.prog 21 #[.pointer (some ⟨r, 0, none⟩), .int .i64 i] u fun e w' => e = .returned (.agg #[.int .u64 (c : Nat), .bool o]) ∧ Grw u w') := by
  have few := gl.few
  refine ⟨plS now (atO L i), plL now (atO L i), (atO L i).getD 0, (atO L i).isSome, (pl_eq now _).1, (pl_eq now _).2, fun u h => place_M w0 p now L i _ _ _ u h.mw hi rfl rfl rfl, fun u h => ?_, fun u h => ?_, fun u h => ?_⟩
  · obtain ⟨v, hv⟩ := h.rw
    exact rplace_R r now v L i _ _ _ u hv (by omega) gl.nw (fun d hd => (gl.bd d hd).2) rfl rfl rfl
  · refine (at_M w0 p now L i _ _ u h.mw hi rfl rfl).mono ?_
    rintro _ _ ⟨he, rfl⟩
    exact ⟨he, Grw.rfl' _⟩
  · obtain ⟨v, hv⟩ := h.rw
    exact rat_R r now v L i _ _ u hv (by omega) rfl rfl
end
/-- three cells in a block, as they lie. -/
structure C3 (w : World) (b : Nat) (c0 c1 c2 : Value) : Prop where
  c0 : w.cell? ⟨b, 0, none⟩ = some c0
  c1 : w.cell? ⟨b, 1, none⟩ = some c1
  c2 : w.cell? ⟨b, 2, none⟩ = some c2
theorem C3.frm {F : Nat → Prop} {w x : World} {b : Nat} {c0 c1 c2 : Value} (h : C3 w b c0 c1 c2) (f : Frm F w x) (hn : ¬ F b) : C3 x b c0 c1 c2 := ⟨f.cell h.c0 hn, f.cell h.c1 hn, f.cell h.c2 hn⟩
theorem C3.later {w x : World} {b : Nat} {c0 c1 c2 : Value} (h : C3 w b c0 c1 c2) (g : Grw w x) : C3 x b c0 c1 c2 := ⟨g.cell h.c0, g.cell h.c1, g.cell h.c2⟩
end Go.Proofs.YtjkhgpdhhnfmlaaDoor
