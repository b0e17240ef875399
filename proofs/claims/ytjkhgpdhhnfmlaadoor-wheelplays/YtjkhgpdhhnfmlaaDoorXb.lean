/- The contracts of wheel.position, Now at this program. -/
import Derived.Test.YtjkhgpdhhnfmlaaDoorFl
import Derived.Test.YtjkhgpdhhnfmlaaDoorWv
namespace Go.Proofs.YtjkhgpdhhnfmlaaDoor
open Go.RowKit TM
set_option linter.unusedSimpArgs false

theorem floatM1 : floatOfInt .f64 (-1) = 13830554455654793216 := by decide +kernel
theorem float6 : floatOfInt .f64 6 = 4618441417868443648 := by decide +kernel
theorem index_dig (t l : Nat) (hl : l < 11) (w : World) : (Instr.index 85 (.agg #[.int .i64 (dig t 0), .int .i64 (dig t 1), .int .i64 (dig t 2), .int .i64 (dig t 3), .int .i64 (dig t 4), .int .i64 (dig t 5), .int .i64 (dig t 6), .int .i64 (dig t 7), .int .i64 (dig t 8), .int .i64 (dig t 9), .int .i64 (dig t 10)]) (.int .i64 l)).run Tryd.prog w = .ok (.int .i64 (dig t l)) w := by
  rcases (by omega : l = 0 ∨ l = 1 ∨ l = 2 ∨ l = 3 ∨ l = 4 ∨ l = 5 ∨ l = 6 ∨ l = 7 ∨ l = 8 ∨ l = 9 ∨ l = 10) with rfl | rfl | rfl | rfl | rfl | rfl | rfl | rfl | rfl | rfl | rfl <;> simp [Instr.index, Tryd.underlying85, go_sem]
set_option maxHeartbeats 1000000 in
theorem position_any (p now t : Nat) (w : World) (c0 : w.cell? ⟨p, 0, none⟩ = some (.int .u64 (now : Nat))) (hn : now < 2 ^ 64) (ht : t < 2 ^ 64) :
    Calls Tryd.prog 40 #[.pointer (some ⟨p, 0, none⟩), .int .u64 t] w fun e w' => e = .returned (.complex .f64 (floatOfInt .f64 (posS now t)) (floatOfInt .f64 (VM.lvl now t : Nat))) ∧ Grw w w' := by
  have T := top_any (t : Int) (now : Int) w ⟨by omega, by omega⟩ ⟨by omega, by omega⟩
  have DG := digits_any (t : Int) w ⟨by omega, by omega⟩
  have IX := index_dig t (VM.lvl now t)
  have HL := lvl_top hn ht
  have hdg := dig_dg t (VM.lvl now t)
  obtain ⟨tv, htv⟩ : ∃ tv, topV (t : Int) (now : Int) = tv := ⟨_, rfl⟩
  rw [htv] at T HL
  rcases HL with ⟨hlt, hmx⟩ | ⟨h6, hmx⟩
  · have hps : posS now t = dig (t : Int) (VM.lvl now t) := by unfold posS; rw [if_neg (by omega)]; exact hdg.symm
    rw [hps]
    obtain ⟨l, hl⟩ : ∃ l, VM.lvl now t = l := ⟨_, rfl⟩
    rw [hl] at IX hmx hlt ⊢
    have IX := Lib.hid (IX (by omega))
    have T := Lib.hid T
    have DG := Lib.hid DG
    have g6 : ¬ (6 : Int) ≤ (l : Int) := by omega
    clear hdg hps htv hl hn ht
    go_enter Tryd.func40, Tryd.ntmps40
    go_wp2_with fail
    refine T.out.mono ?_
    rintro _ w1 ⟨rfl, rfl⟩
    go_wp2_with fail
    refine DG.out.mono ?_
    rintro _ _ ⟨rfl, k1, k2, rfl⟩
    go_wp2_with (simp only [IX.out])
    go_ret
    exact ⟨rfl, ((Grw.rfl' _).alloc _).alloc _⟩
  · have hps : posS now t = -1 := by unfold posS; rw [if_pos h6]
    rw [hps, h6, floatM1, show ((6 : Nat) : Int) = 6 from rfl, float6]
    have T := Lib.hid T
    clear DG IX hdg hps htv h6 hn ht
    go_enter Tryd.func40, Tryd.ntmps40
    go_wp2_with fail
    refine T.out.mono ?_
    rintro _ w1 ⟨rfl, rfl⟩
    go_wp2_with fail
    go_ret
    exact ⟨rfl, Grw.rfl' _⟩
theorem now_any (p now : Nat) (w : World) (c0 : w.cell? ⟨p, 0, none⟩ = some (.int .u64 (now : Nat))) :
    Calls Tryd.prog 26 #[.pointer (some ⟨p, 0, none⟩)] w fun e w' => e = .returned (.int .u64 (now : Nat)) ∧ w = w' := by
  go_enter Tryd.func26, Tryd.ntmps26
  go_wp2_with fail
  go_ret
  exact ⟨rfl, rfl⟩
theorem now_nil (w : World) : Calls Tryd.prog 26 #[.pointer none] w fun e w' => e = .returned (.int .u64 0) ∧ w = w' := by
  go_enter Tryd.func26, Tryd.ntmps26
  go_wp2_with fail
  go_ret
  exact ⟨rfl, rfl⟩
end Go.Proofs.YtjkhgpdhhnfmlaaDoor

/- The map of a wheel against a list of timers; the contracts of wheel.At, Len, Place at this program. -/
namespace Go.Proofs.YtjkhgpdhhnfmlaaDoor
open Go.RowKit TM
open Go.Maps (Keyed IsMap Tidy)
open RG (Du La put)
open VM (idsD)
set_option linter.unusedSimpArgs false

def ky (i : Int) : Lit := .int .i64 i
def z64 : DataW Unit := .lit (.int .u64 0)
theorem ky_ne {i j : Int} (h : i ≠ j) : ky i ≠ ky j := fun e => h (by injection e)
theorem ky_lit (i : Int) : WideAt.IsKeyLit (ky i) := trivial
def Wi (i : Int) : Prop := -9223372036854775808 ≤ i ∧ i ≤ 9223372036854775807
theorem wi_wf {i : Int} (h : Wi i) : (Lit.int .i64 i).wf = true := by
  unfold Lit.wf
  simp only [Bool.and_eq_true, decide_eq_true_eq]
  exact h
theorem wu_wf {t : Nat} (h : t < 2 ^ 64) : (Lit.int .u64 (t : Nat)).wf = true := by
  have h' : (t : Int) ≤ 18446744073709551615 := by omega
  unfold Lit.wf
  simp only [Bool.and_eq_true, decide_eq_true_eq]
  exact ⟨Int.natCast_nonneg t, h'⟩
/-- the time of a number. -/
def atO (L : List Du) (i : Int) : Option Nat := (L.find? (fun d => decide (d.id = i))).map (·.t)
theorem atO_none {L : List Du} {i : Int} (h : ∀ d ∈ L, d.id ≠ i) : atO L i = none := by
  unfold atO
  rw [List.find?_eq_none.2 (fun d hd => by simpa using h d hd)]
  rfl
theorem atO_no {L : List Du} {i : Int} (h : atO L i = none) : ∀ d ∈ L, d.id ≠ i := by
  unfold atO at h
  rw [Option.map_eq_none_iff, List.find?_eq_none] at h
  intro d hd
  simpa using h d hd
theorem atO_mem {L : List Du} {i : Int} {t : Nat} (h : atO L i = some t) : (⟨i, t⟩ : Du) ∈ L := by
  unfold atO at h
  rw [Option.map_eq_some_iff] at h
  obtain ⟨d, hd, rfl⟩ := h
  have h1 := List.mem_of_find?_eq_some hd
  have h2 := List.find?_some hd
  simp only [decide_eq_true_eq] at h2
  subst h2
  exact h1
theorem atO_of {L : List Du} (hn : (idsD L).Nodup) {d : Du} (h : d ∈ L) : atO L d.id = some d.t := by
  rcases e : atO L d.id with _ | t
  · exact absurd rfl (atO_no e d h)
  · have := VM.id_inj hn (atO_mem e) h rfl
    rw [← this]
/-- the map holds the times of the timers of L by their numbers. -/
structure MapOf (D : DataW Unit) (L : List Du) : Prop where
  tidy : Tidy D
  size : Maps.size D = L.length
  yes : ∀ d ∈ L, Maps.has D (ky d.id) = true ∧ D.atKey (ky d.id) z64 = .lit (.int .u64 (d.t : Nat))
  no : ∀ i, (∀ d ∈ L, d.id ≠ i) → Maps.has D (ky i) = false ∧ D.atKey (ky i) z64 = z64
theorem MapOf.nil : MapOf (.map []) [] := ⟨Maps.tidy_empty, rfl, (fun _ h => by cases h), fun _ _ => ⟨rfl, rfl⟩⟩
theorem MapOf.perm {D : DataW Unit} {L M : List Du} (h : MapOf D L) (e : L.Perm M) : MapOf D M :=
  ⟨h.tidy, h.size.trans e.length_eq, fun d hd => h.yes d (e.mem_iff.2 hd), fun i hi => h.no i (fun d hd => hi d (e.mem_iff.1 hd))⟩
theorem MapOf.put {D : DataW Unit} {L : List Du} (h : MapOf D L) {d : Du} (hd : ∀ x ∈ L, x.id ≠ d.id) : MapOf (D.put (ky d.id) (.lit (.int .u64 (d.t : Nat)))) (RG.put d L) := by
  refine MapOf.perm (L := d :: L) ?_ (RG.put_perm d L).symm
  have hno := h.no d.id hd
  refine ⟨h.tidy.put (ky_lit _) _, ?_, ?_, ?_⟩
  · rw [Maps.size_put h.tidy, hno.1, h.size]; rfl
  · intro x hx
    rcases List.mem_cons.1 hx with rfl | hx
    · exact ⟨Maps.has_put_same h.tidy.isMap (ky_lit _) _, Maps.atKey_put_same h.tidy.isMap (ky_lit _) _ _⟩
    · have hne : ky x.id ≠ ky d.id := ky_ne (hd x hx)
      rw [Maps.has_put_other hne, Maps.atKey_put_other hne]
      exact h.yes x hx
  · intro i hi
    have hne : ky i ≠ ky d.id := ky_ne (fun c => hi d List.mem_cons_self c.symm)
    rw [Maps.has_put_other hne, Maps.atKey_put_other hne]
    exact h.no i (fun x hx => hi x (List.mem_cons_of_mem _ hx))
theorem del_len {L : List Du} (hn : (idsD L).Nodup) {d : Du} (h : d ∈ L) : (VM.del d.id L).length + 1 = L.length := by
  unfold VM.del
  induction L with
  | nil => cases h
  | cons x L ih =>
    have hn' := hn
    unfold idsD at hn'
    rw [List.map_cons, List.nodup_cons] at hn'
    rcases List.mem_cons.1 h with rfl | hm
    · rw [List.filter_cons, if_neg (by simp), List.filter_eq_self.2]
      · rfl
      · intro y hy
        simp only [decide_eq_true_eq]
        intro c
        exact hn'.1 (List.mem_map.2 ⟨y, hy, c⟩)
    · have hne : x.id ≠ d.id := fun c => hn'.1 (List.mem_map.2 ⟨d, hm, c.symm⟩)
      rw [List.filter_cons, if_pos (by simpa using hne), List.length_cons, ih hn'.2 hm, List.length_cons]
theorem MapOf.del {D : DataW Unit} {L : List Du} (h : MapOf D L) (hn : (idsD L).Nodup) {d : Du} (hd : d ∈ L) : MapOf (D.del (ky d.id)) (VM.del d.id L) := by
  refine ⟨h.tidy.del _, ?_, ?_, ?_⟩
  · have h1 := Maps.size_del (k := ky d.id) h.tidy
    rw [(h.yes d hd).1, h.size, ← del_len hn hd] at h1
    simp only [if_true] at h1
    omega
  · intro x hx
    unfold VM.del at hx
    rw [List.mem_filter, decide_eq_true_eq] at hx
    have hne : ky x.id ≠ ky d.id := ky_ne hx.2
    rw [Maps.has_del_other hne, Maps.atKey_del_other hne]
    exact h.yes x hx.1
  · intro i hi
    by_cases e : i = d.id
    · subst e
      exact ⟨Maps.has_del_same, Maps.atKey_del_same _⟩
    · have hne : ky i ≠ ky d.id := ky_ne e
      rw [Maps.has_del_other hne, Maps.atKey_del_other hne]
      refine h.no i (fun x hx c => ?_)
      exact hi x (List.mem_filter.2 ⟨hx, by simp only [decide_eq_true_eq]; rw [c]; exact e⟩) c
theorem MapOf.look {D : DataW Unit} {L : List Du} (h : MapOf D L) (i : Int) : Maps.has D (ky i) = (atO L i).isSome ∧ D.atKey (ky i) z64 = .lit (.int .u64 ((atO L i).getD 0 : Nat)) := by
  rcases e : atO L i with _ | t
  · exact h.no i (atO_no e)
  · have := h.yes _ (atO_mem e)
    exact this
theorem law3 : Keyed Tryd.prog 3 := Maps.int_keyed Tryd.underlying3
theorem zero22 (w : World) : (zeroValue 22).run Tryd.prog w = .ok (.int .u64 0) w := by kernel_rfl

theorem wlen_any (p mb n : Nat) (D : DataW Unit) (w : World) (c1 : w.cell? ⟨p, 1, none⟩ = some (.map (some mb))) (hm : w.ownsMap Tryd.prog 3 (plainElem Tryd.prog 22) mb n D) :
    Calls Tryd.prog 30 #[.pointer (some ⟨p, 0, none⟩)] w fun e w' => e = .returned (.int .i64 (Maps.size D : Nat)) ∧ w = w' := by
  have H := Lib.hid hm
  clear hm
  go_enter Tryd.func30, Tryd.ntmps30
  go_wp2_with (at_len; refine wpList_len_own _ rfl _ 70 rfl 3 22 Tryd.underlying70 _ mb n D rfl H.out ?_)
  go_ret
  exact ⟨rfl, rfl⟩
theorem wlen_nil (w : World) : Calls Tryd.prog 30 #[.pointer none] w fun e w' => e = .returned (.int .i64 0) ∧ w = w' := by
  go_enter Tryd.func30, Tryd.ntmps30
  go_wp2_with fail
  go_ret
  exact ⟨rfl, rfl⟩
theorem wat_any (p mb n : Nat) (D : DataW Unit) (i : Int) (c : Nat) (o : Bool) (w : World) (c1 : w.cell? ⟨p, 1, none⟩ = some (.map (some mb))) (hm : w.ownsMap Tryd.prog 3 (plainElem Tryd.prog 22) mb n D) (hi : Wi i) (h1 : Maps.has D (ky i) = o) (h2 : D.atKey (ky i) z64 = .lit (.int .u64 (c : Nat))) :
    Calls Tryd.prog 20 #[.pointer (some ⟨p, 0, none⟩), .int .i64 i] w fun e w' => e = .returned (.tuple #[.int .u64 (c : Nat), .bool o]) ∧ w = w' := by
  have H := Lib.hid hm
  have K := Lib.hid (Maps.keyOf_int_mk Tryd.underlying3 (wi_wf hi))
  have H1 := Lib.hid h1
  have H2 := Lib.hid h2
  clear hm hi h1 h2
  go_enter Tryd.func20, Tryd.ntmps20
  go_wp2_with (at_lookup; refine wpList_lookup_own_ok_int _ rfl _ _ 70 rfl 3 22 .u64 law3 Tryd.underlying70 Tryd.underlying22 (zero22 _) mb n D rfl H.out _ _ rfl K.out ?_; intro v hat hwc)
  go_ret2
  have hv : v = (c : Int) := (Lit.int.inj (DataW.lit.inj (hat.symm.trans H2.out))).2
  exact ⟨by rw [hv]; show _ = Ending.returned (.tuple #[_, .bool o]); rw [← H1.out]; rfl, rfl⟩
theorem wat_nil (i : Int) (w : World) : Calls Tryd.prog 20 #[.pointer none, .int .i64 i] w fun e w' => e = .returned (.tuple #[.int .u64 0, .bool false]) ∧ w = w' := by
  go_enter Tryd.func20, Tryd.ntmps20
  go_wp2_with fail
  go_ret2
  exact ⟨rfl, rfl⟩
end Go.Proofs.YtjkhgpdhhnfmlaaDoor
