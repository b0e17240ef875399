/- The contracts of wheel.moveTo, Insert, Cancel at this program, told by the list of timers. -/
import Derived.Test.YtjkhgpdhhnfmlaaDoorXi
import Derived.Test.YtjkhgpdhhnfmlaaDoorXd
import Derived.Test.YtjkhgpdhhnfmlaaDoorXe
namespace Go.Proofs.YtjkhgpdhhnfmlaaDoor
open Go.RowKit TM MK
open RG (Du La listR putB putR dropR dropO takeR hasId Srt)
open VM (RK BK lvl idsD)
set_option linter.unusedSimpArgs false

theorem GL.move {now to : Nat} {L : List Du} (h : GL now L) (ht : to < 2 ^ 64) (hL : ∀ d ∈ L, to ≤ d.t) : GL to L := ⟨h.srt, h.ids, h.bd, hL, h.few, ht⟩
theorem GL.good {now : Nat} {L : List Du} (h : GL now L) (n k : Nat) : (RG.ids (RK n L k)).Nodup ∧ (RK n L k).length < 1000 :=
  ⟨(VM.RK_good h.ids k).once, by have := VM.RK_len n L k; have := h.few; omega⟩
theorem moveTo_on (S : Sh) (now to : Nat) (L : List Du) (w : World) (h : WR w S now L) (hlt : now < to) (hto : to < 2 ^ 64) (hL : ∀ d ∈ L, to ≤ d.t) :
    Calls Tryd.prog 38 #[.pointer (some ⟨S.p, 0, none⟩), .int .u64 to] w fun e w' => e = .returned (.tuple #[]) ∧ WRQ S w to L w' := by
  obtain ⟨D, hwg, hm⟩ := h.wg
  have gl := h.gl
  have gl' := gl.move hto hL
  rcases Nat.lt_or_ge (lvl now to) 6 with h6 | h6
  · have hd := VM.dg_lt to (lvl now to)
    have hs : posS now to = ((VM.dg to (lvl now to) : Nat) : Int) := by unfold posS; rw [if_neg (by omega)]
    refine (moveTo_core S now to D (RK now L) (updN (RK now L) (lvl now to) (takeR (RK now L (lvl now to)) ((VM.dg to (lvl now to) : Nat) : Int))) (RK to L) (BK now L) (BK now L) (listR (RK now L (lvl now to)) ((VM.dg to (lvl now to) : Nat) : Int)) _ _ w hwg hlt hto hs rfl
      (fun u hu => wtake_in S to D (RK now L) (BK now L) (lvl now to) (VM.dg to (lvl now to)) u hu h6 hd) ?_ ?_ (fun k _ => gl.good to k) ?_).mono ?_
    · rw [VM.listR_hit gl.srt]
      intro d hd
      rw [List.mem_filter] at hd
      exact ⟨VM.hit_down h6 hd.2, (gl.bd d hd.1).2⟩
    · intro k _
      rw [VM.listR_hit gl.srt]
      have := VM.move_ring hlt hL h6 k
      unfold updN
      by_cases c : k = lvl now to
      · subst c
        rw [if_pos rfl] at this ⊢
        exact this
      · rw [if_neg c] at this ⊢
        exact this
    · rw [VM.listR_hit gl.srt]
      have := List.length_filter_le (VM.hit now to) L
      have := gl.few
      omega
    · rintro e w' ⟨he, hq⟩
      exact ⟨he, WRQ.mk' h hq (fun k _ => List.Perm.refl _) (VM.move_beyond hlt hL h6) hm gl'⟩
  · have e6 : lvl now to = 6 := by have := VM.lvl_six now to; omega
    have hs : posS now to = -1 := by unfold posS; rw [if_pos e6]
    obtain ⟨f1, f2⟩ := VM.far_all hlt hL e6
    have nt := VM.near_take gl.srt hL
    have hfew := gl.few
    refine (moveTo_core S now to D (RK now L) (RK now L) (RK to L) (BK now L) (BK to L) (L.filter (VM.nearP to)) (-1) 6 w hwg hlt hto hs (by rw [e6]; rfl)
      (fun u hu => by
        have := wtake_far S to D (RK now L) (BK now L) u hu hto (fun d hd => (gl.bd d (List.mem_filter.1 hd).1).2) (by rw [f1]; omega)
        rw [f1, nt.1, nt.2, VM.far_beyond] at this
        exact this) ?_ ?_ (fun k _ => gl.good to k) ?_).mono ?_
    · intro d hd
      rw [List.mem_filter] at hd
      refine ⟨?_, (gl.bd d hd.1).2⟩
      have := hd.2
      unfold VM.nearP at this
      exact of_decide_eq_true this
    · intro k hk
      rw [f2 k hk, List.nil_append, VM.far_ring L hk]
    · have := List.length_filter_le (VM.nearP to) L
      omega
    · rintro e w' ⟨he, hq⟩
      exact ⟨he, WRQ.mk' h hq (fun k _ => List.Perm.refl _) rfl hm gl'⟩
theorem moveTo_stay (S : Sh) (now to : Nat) (L : List Du) (w : World) (h : WR w S now L) (hle : to ≤ now) :
    Calls Tryd.prog 38 #[.pointer (some ⟨S.p, 0, none⟩), .int .u64 to] w fun e w' => e = .returned (.tuple #[]) ∧ WRQ S w now L w' := by
  obtain ⟨D, hwg, _⟩ := h.wg
  have c0 := hwg.cells.c0
  have H := Lib.hid h
  have h1 : decide ((to : Int) ≤ (now : Int)) = true := by simp; omega
  have h2 : (to : Int) ≤ (now : Int) := by omega
  clear h hwg
  go_enter Tryd.func38, Tryd.ntmps38
  go_wp2_with fail
  exact bodyPost_ret (v := .tuple #[]) (by simp [results, Tryd.results38, go_sem]) rfl ⟨rfl, WRQ.same H.out (Grw.rfl' _)⟩
def MoveQ (S : Sh) (w : World) (now : Nat) (L : List Du) (e : Ending) (w' : World) : Prop := e = .returned (.tuple #[]) ∧ WRQ S w now L w'
theorem moveTo_W (S : Sh) (now to : Nat) (L : List Du) (w : World) (h : WR w S now L) (hto : to < 2 ^ 64) (hL : ∀ d ∈ L, to ≤ d.t ∨ to ≤ now) :
    Calls Tryd.prog 38 #[.pointer (some ⟨S.p, 0, none⟩), .int .u64 to] w (MoveQ S w (max now to) L) := by
  rcases Nat.lt_or_ge now to with g | g
  · rw [Nat.max_eq_right (by omega)]
    exact moveTo_on S now to L w h g hto (fun d hd => (hL d hd).elim id (fun c => by omega))
  · rw [Nat.max_eq_left g]
    exact moveTo_stay S now to L w h g
/-! ### Insert -/
theorem GL.put {now : Nat} {L : List Du} (h : GL now L) {d : Du} (hi : Wi d.id) (ht : d.t < 2 ^ 64) (hlt : now < d.t) (hno : ∀ x ∈ L, x.id ≠ d.id) (hf : L.length < 900) : GL now (RG.put d L) := by
  have hp := RG.put_perm d L
  refine ⟨RG.put_srt h.srt, ?_, fun x hx => ?_, fun x hx => ?_, by rw [hp.length_eq]; simp; omega, h.nw⟩
  · unfold VM.idsD
    refine ((hp.map _).nodup_iff).2 ?_
    rw [List.map_cons, List.nodup_cons]
    refine ⟨fun c => ?_, h.ids⟩
    obtain ⟨x, hx, e⟩ := List.mem_map.1 c
    exact hno x hx e
  · rcases List.mem_cons.1 (hp.mem_iff.1 hx) with rfl | hx
    · exact ⟨hi, ht⟩
    · exact h.bd x hx
  · rcases List.mem_cons.1 (hp.mem_iff.1 hx) with rfl | hx
    · omega
    · exact h.ge x hx
theorem hasId_RK {now : Nat} {L : List Du} {i : Int} (hno : ∀ x ∈ L, x.id ≠ i) (k : Nat) : hasId (RK now L k) i = false := by
  refine RG.hasId_no fun j hj e => ?_
  have hm : (RK now L k)[j] ∈ RK now L k := List.getElem_mem hj
  obtain ⟨x, hx, ex⟩ := List.mem_map.1 hm
  rw [← ex] at e
  exact hno x (List.mem_filter.1 hx).1 e
/-- store, told by the list: the map already holds the timer. -/
theorem store_W (S : Sh) (now : Nat) (D : DataW Unit) (L : List Du) (d : Du) (w : World) (hwg : WG w S now D (RK now L) (BK now L)) (gl : GL now L) (ht : d.t < 2 ^ 64) (hno : ∀ x ∈ L, x.id ≠ d.id) :
    Calls Tryd.prog 33 #[.pointer (some ⟨S.p, 0, none⟩), dv d] w fun e w' => e = .returned (.tuple #[]) ∧ WQ S w now D (RK now (RG.put d L)) (BK now (RG.put d L)) w' := by
  have h6 := VM.lvl_six now d.t
  rcases Nat.lt_or_ge (lvl now d.t) 6 with g | g
  · refine (store_in S now D (RK now L) (BK now L) d _ w hwg rfl g gl.nw ht (gl.good now _).2 (hasId_RK hno _)).mono ?_
    rintro e w' ⟨he, S', e1, h1, h2⟩
    rw [VM.BK_put_other gl.srt (by omega)]
    refine ⟨he, S', e1, h1.permR fun k hk => ?_, h2⟩
    by_cases c : k = lvl now d.t
    · subst c
      rw [updN_same]
      exact VM.RK_put_at rfl
    · rw [updN_other _ _ c]
      exact VM.RK_put_other (fun q => c q.symm)
  · have e6 : lvl now d.t = 6 := by omega
    refine (store_out S now D (RK now L) (BK now L) d w hwg e6 gl.nw ht ?_ (VM.BK_srt gl.srt)).mono ?_
    · have := List.length_filter_le (fun d => decide (lvl now d.t = 6)) L
      have := gl.few
      unfold VM.BK
      omega
    · rintro e w' ⟨he, S', e1, h1, h2⟩
      rw [VM.BK_put_at gl.srt e6]
      refine ⟨he, S', e1, h1.permR fun k hk => ?_, h2⟩
      exact VM.RK_put_other (by omega)
/-- unstore, told by the list. -/
theorem unstore_W (S : Sh) (now : Nat) (D : DataW Unit) (L : List Du) (d : Du) (w : World) (hwg : WG w S now D (RK now L) (BK now L)) (gl : GL now L) (hd : d ∈ L) :
    Calls Tryd.prog 36 #[.pointer (some ⟨S.p, 0, none⟩), dv d] w fun e w' => e = .returned (.tuple #[]) ∧ WQ S w now D (RK now (VM.del d.id L)) (BK now (VM.del d.id L)) w' := by
  have h6 := VM.lvl_six now d.t
  have ht := (gl.bd d hd).2
  rcases Nat.lt_or_ge (lvl now d.t) 6 with g | g
  · refine (unstore_in S now D (RK now L) (BK now L) d _ w hwg rfl g gl.nw ht).mono ?_
    rintro e w' ⟨he, S', e1, h1, h2⟩
    rw [VM.BK_del_other gl.ids hd (by omega)]
    refine ⟨he, S', e1, h1.eqR fun k hk => ?_, h2⟩
    rw [VM.RK_del]
    by_cases c : k = lvl now d.t
    · subst c
      rw [updN_same]
    · rw [updN_other _ _ c, VM.dropR_other gl.ids hd (fun q => c q.symm)]
  · have e6 : lvl now d.t = 6 := by omega
    have hsub : (idsD (BK now L)).Nodup := gl.ids.sublist ((List.filter_sublist).map _)
    refine (unstore_out S now D (RK now L) (BK now L) d w hwg e6 gl.nw ht ?_ (VM.BK_srt gl.srt) hsub (List.mem_filter.2 ⟨hd, by simpa using e6⟩)).mono ?_
    · have := List.length_filter_le (fun d => decide (lvl now d.t = 6)) L
      have := gl.few
      unfold VM.BK
      omega
    · rintro e w' ⟨he, S', e1, h1, h2⟩
      rw [VM.BK_del]
      refine ⟨he, S', e1, h1.eqR fun k hk => ?_, h2⟩
      rw [VM.RK_del, VM.dropR_other gl.ids hd (by omega)]
/-- what Insert answers, and what is there behind it. -/
def insE (now : Nat) (L : List Du) (i : Int) (t : Nat) : Int := if (atO L i).isSome then 8 else if t ≤ now then 9 else 0
def insL (now : Nat) (L : List Du) (i : Int) (t : Nat) : List Du := if (atO L i).isSome then L else if t ≤ now then L else RG.put ⟨i, t⟩ L
def InsQ (S : Sh) (w : World) (now : Nat) (r : Int) (L : List Du) (e : Ending) (w' : World) : Prop := e = .returned (.int .i64 r) ∧ WRQ S w now L w'
set_option maxHeartbeats 4000000 in
set_option maxRecDepth 100000 in
theorem insert_W (S : Sh) (now : Nat) (L : List Du) (i : Int) (t : Nat) (w : World) (h : WR w S now L) (hi : Wi i) (ht : t < 2 ^ 64) (hf : L.length < 900) :
    Calls Tryd.prog 9 #[.pointer (some ⟨S.p, 0, none⟩), .int .i64 i, .int .u64 t] w (InsQ S w now (insE now L i t) (insL now L i t)) := by
  obtain ⟨D, hwg, hm⟩ := h.wg
  have H := Lib.hid h
  have c0 := hwg.cells.c0
  have c1 := hwg.cells.c1
  have MP := Lib.hid hwg.mp
  have K := Lib.hid (Maps.keyOf_int_mk Tryd.underlying3 (wi_wf hi))
  have ME := Lib.hid (plainElem_int (H := Unit) Tryd.underlying22 (wu_wf ht))
  have hlook := (hm.look i).1
  unfold ky at hlook
  rcases e : atO L i with _ | t0
  · rw [e] at hlook
    have HH : Hid (Maps.has D (.int .i64 i) = false) := (hlook : Maps.has D (.int .i64 i) = false)
    by_cases hle : t ≤ now
    · have e1 : insE now L i t = 9 := by unfold insE; rw [e]; simp [hle]
      have e2 : insL now L i t = L := by unfold insL; rw [e]; simp [hle]
      rw [e1, e2]
      have h1 : decide ((t : Int) ≤ (now : Int)) = true := by simp; omega
      have h2 : (t : Int) ≤ (now : Int) := by omega
      clear h hwg hm hi ht hf e e1 e2 hlook
      go_enter Tryd.func9, Tryd.ntmps9
      go_wp2_with (at_lookup; refine wpList_lookup_own_ok_int _ rfl _ _ 70 rfl 3 22 .u64 law3 Tryd.underlying70 Tryd.underlying22 (zero22 _) S.mb _ D rfl MP.out _ _ rfl K.out ?_; intro v hat hwc; rw [HH.out])
      go_ret
      exact ⟨rfl, WRQ.same H.out (Grw.rfl' _)⟩
    · have e1 : insE now L i t = 0 := by unfold insE; rw [e]; simp [hle]
      have e2 : insL now L i t = RG.put ⟨i, t⟩ L := by unfold insL; rw [e]; simp [hle]
      rw [e1, e2]
      have h1 : decide ((t : Int) ≤ (now : Int)) = false := by simp; omega
      have h2 : ¬ (t : Int) ≤ (now : Int) := by omega
      have hno := atO_no e
      have hsz : Maps.size D < maxLen := by rw [hm.size]; unfold maxLen; omega
      have SZ := Lib.hid hsz
      have ST : Hid (∀ w1, w1.ownsMap Tryd.prog 3 (plainElem Tryd.prog 22) S.mb (Maps.size D + 1) (D.put (.int .i64 i) (.lit (.int .u64 (t : Nat)))) → w.mapTurned w1 S.mb → Calls Tryd.prog 33 #[.pointer (some ⟨S.p, 0, none⟩), .agg #[.int .i64 i, .int .u64 (t : Nat)]] w1 fun e w' => e = .returned (.tuple #[]) ∧ WRQ S w now (RG.put ⟨i, t⟩ L) w') := (fun w1 hm1 ht1 => by
          obtain ⟨g1, f1⟩ := hwg.mapStep hm1 ht1
          refine (store_W S now _ L ⟨i, t⟩ w1 g1 h.gl ht hno).mono ?_
          rintro e w' ⟨he, S', e1, h1, h2, h3⟩
          refine ⟨he, WRQ.mk' h ⟨S', e1, h1, f1.trans h2 (fun _ e => Or.inl e), fun q hq => (h3 q hq).imp id (fun c => Nat.le_trans f1.size c)⟩ (fun k _ => List.Perm.refl _) rfl (hm.put (d := ⟨i, t⟩) hno) (h.gl.put (d := ⟨i, t⟩) hi ht (by simp only; omega) hno hf)⟩ : ∀ w1, w1.ownsMap Tryd.prog 3 (plainElem Tryd.prog 22) S.mb (Maps.size D + 1) (D.put (.int .i64 i) (.lit (.int .u64 (t : Nat)))) → w.mapTurned w1 S.mb → Calls Tryd.prog 33 #[.pointer (some ⟨S.p, 0, none⟩), .agg #[.int .i64 i, .int .u64 (t : Nat)]] w1 fun e w' => e = .returned (.tuple #[]) ∧ WRQ S w now (RG.put ⟨i, t⟩ L) w')
      clear h hwg hm hi ht hf e e1 e2 hlook hno hsz
      go_enter Tryd.func9, Tryd.ntmps9
      go_wp2_with (first | (at_lookup; refine wpList_lookup_own_ok_int _ rfl _ _ 70 rfl 3 22 .u64 law3 Tryd.underlying70 Tryd.underlying22 (zero22 _) S.mb _ D rfl MP.out _ _ rfl K.out ?_; intro v hat hwc; rw [HH.out]) | (at_mapUpdate; refine wpList_mapUpdate_in _ rfl _ _ _ 70 rfl 3 22 law3 Tryd.underlying70 _ S.mb _ D rfl MP.out SZ.out _ _ _ rfl rfl K.out _ [] ME.out ?_; intro w1 hown1 hturn1))
      refine (ST.out w1 hown1 hturn1).mono ?_
      rintro _ w2 ⟨rfl, hq⟩
      have HQ := Lib.hid hq
      clear hq hown1 hturn1 c0 c1
      go_wp2_with fail
      go_ret
      exact ⟨rfl, HQ.out⟩
  · rw [e] at hlook
    have HH : Hid (Maps.has D (.int .i64 i) = true) := (hlook : Maps.has D (.int .i64 i) = true)
    have e1 : insE now L i t = 8 := by unfold insE; rw [e]; simp
    have e2 : insL now L i t = L := by unfold insL; rw [e]; simp
    rw [e1, e2]
    clear h hwg hm hi ht hf e e1 e2 hlook
    go_enter Tryd.func9, Tryd.ntmps9
    go_wp2_with (at_lookup; refine wpList_lookup_own_ok_int _ rfl _ _ 70 rfl 3 22 .u64 law3 Tryd.underlying70 Tryd.underlying22 (zero22 _) S.mb _ D rfl MP.out _ _ rfl K.out ?_; intro v hat hwc; rw [HH.out])
    go_ret
    exact ⟨rfl, WRQ.same H.out (Grw.rfl' _)⟩
theorem insert_nil (i : Int) (t : Nat) (w : World) : Calls Tryd.prog 9 #[.pointer none, .int .i64 i, .int .u64 t] w fun e w' => e = .returned (.int .i64 1) ∧ w = w' := by
  go_enter Tryd.func9, Tryd.ntmps9
  go_wp2_with fail
  go_ret
  exact ⟨rfl, rfl⟩
end Go.Proofs.YtjkhgpdhhnfmlaaDoor
