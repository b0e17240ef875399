/- The contract of wheel.moveTo at this program; a wheel told by the list of its timers. -/
import Derived.Test.YtjkhgpdhhnfmlaaDoorXg
namespace Go.Proofs.YtjkhgpdhhnfmlaaDoor
open Go.RowKit TM MK
open RG (Du La listR putB putR dropR dropO takeR hasId Srt)
open VM (RK BK lvl idsD)
set_option linter.unusedSimpArgs false

theorem RK_snoc (to : Nat) (T : List Du) (d : Du) (k : Nat) : RK to (T ++ [d]) k = if lvl to d.t = k then RK to T k ++ [VM.la k d] else RK to T k := by
  unfold VM.RK
  rw [List.filter_append, List.map_append, List.filter_cons]
  by_cases h : lvl to d.t = k
  · rw [if_pos (decide_eq_true h), if_pos h]; rfl
  · rw [if_neg (by simpa using h), if_neg h]; simp
theorem RK_take (to : Nat) (T : List Du) (i k : Nat) (R0 : List La) : (R0 ++ RK to (T.take i) k).Sublist (R0 ++ RK to T k) :=
  (List.Sublist.refl _).append (((List.take_sublist i T).filter _).map _)
theorem hasId_snoc {R : List La} {x : La} (h : (RG.ids (R ++ [x])).Nodup) : hasId R x.d.id = false := by
  rcases e : hasId R x.d.id with _ | _
  · rfl
  · rw [RG.hasId_iff] at e
    unfold RG.ids at h e
    rw [List.map_append, List.nodup_append] at h
    exact absurd rfl (h.2.2 _ e x.d.id (by simp))
theorem WG.eqR {w : World} {S : Sh} {now : Nat} {D : DataW Unit} {R R' : Nat → List La} {B : List Du} (h : WG w S now D R B) (e : ∀ k, k < 6 → R k = R' k) : WG w S now D R' B := h.congr (fun k hk q => by rw [← e k hk]; exact q)
theorem WG.permR {w : World} {S : Sh} {now : Nat} {D : DataW Unit} {R R' : Nat → List La} {B : List Du} (h : WG w S now D R B) (e : ∀ k, k < 6 → (R k).Perm (R' k)) : WG w S now D R' B := h.congr (fun k hk q => q.perm (e k hk))
/-- one more of those that come down is stored. -/
theorem coming {w x w2 : World} {S : Sh} {to : Nat} {D : DataW Unit} {R0 : Nat → List La} {B0 T : List Du} {i : Nat} (hi : i < T.length) (gx : Grw w x) (h : WQ S x to D (updN (fun k => R0 k ++ RK to (T.take i) k) (lvl to T[i].t) ((R0 (lvl to T[i].t) ++ RK to (T.take i) (lvl to T[i].t)) ++ [VM.la (lvl to T[i].t) T[i]])) B0 w2) :
    WQ S w to D (fun k => R0 k ++ RK to (T.take (i + 1)) k) B0 w2 := by
  obtain ⟨S', e, h1, h2, h3⟩ := h.pre gx
  refine ⟨S', e, h1.eqR fun k hk => ?_, h2, h3⟩
  rw [List.take_succ_eq_append_getElem hi, RK_snoc]
  by_cases c : lvl to T[i].t = k
  · subst c
    rw [updN_same, if_pos rfl, List.append_assoc]
  · rw [updN_other _ _ (fun q => c q.symm), if_neg c]
def DoneQ (S : Sh) (w : World) (now : Nat) (D : DataW Unit) (R : Nat → List La) (B : List Du) (e : Ending) (w' : World) : Prop := e = .returned (.tuple #[]) ∧ WQ S w now D R B w'
/-- while those that come down are stored. -/
structure Fill (w wr : World) (S Si : Sh) (to : Nat) (D : DataW Unit) (R : Nat → List La) (B : List Du) (v : Value) (T : List Du) : Prop where
  p : Si.p = S.p
  g : WG wr Si to D R B
  f : Frm (wfoot S) w wr
  t : ∀ q, wfoot Si q → wfoot S q ∨ w.heap.size ≤ q
  row : RowD wr v T
  off : ∀ g, v.ownBlock = some g → ¬ wfoot Si g
theorem Fill.step {w wr w2 : World} {S Si : Sh} {to : Nat} {D : DataW Unit} {R R2 : Nat → List La} {B : List Du} {v : Value} {T : List Du} (h : Fill w wr S Si to D R B v T) (hv : ∀ g, v.ownBlock = some g → g < wr.heap.size) (q : WQ Si wr to D R2 B w2) : ∃ S2, Fill w w2 S S2 to D R2 B v T := by
  obtain ⟨S2, e2, g2, f2, t2⟩ := q
  refine ⟨S2, e2.trans h.p, g2, h.f.trans f2 h.t, fun q hq => ?_, h.row.frm f2 h.off, fun g hg c => ?_⟩
  · rcases t2 q hq with e | e
    · exact h.t q e
    · exact Or.inr (Nat.le_trans h.f.size e)
  · rcases t2 g c with e | e
    · exact h.off g hg e
    · have := hv g hg; omega
theorem store_is (S : Sh) (now : Nat) (D : DataW Unit) (R : Nat → List La) (B : List Du) (d : Du) (w : World) (h : WG w S now D R B) (hk6 : lvl now d.t < 6) (hn : now < 2 ^ 64) (ht : d.t < 2 ^ 64) (hf : (R (lvl now d.t)).length < 1000) (hno : hasId (R (lvl now d.t)) d.id = false) :
    Calls Tryd.prog 33 #[.pointer (some ⟨S.p, 0, none⟩), .agg #[.int .i64 d.id, .int .u64 (d.t : Nat)]] w (DoneQ S w now D (updN R (lvl now d.t) (R (lvl now d.t) ++ [VM.la (lvl now d.t) d])) B) := store_in S now D R B d _ w h rfl hk6 hn ht hf hno
set_option maxHeartbeats 4000000 in
set_option maxRecDepth 100000 in
theorem moveTo_core (S : Sh) (now to : Nat) (D : DataW Unit) (R R0 R1 : Nat → List La) (B B0 T : List Du) (s l : Int) (w : World) (h : WG w S now D R B) (hlt : now < to) (hto : to < 2 ^ 64) (hs : posS now to = s) (hl : ((lvl now to : Nat) : Int) = l)
    (TK : ∀ u, WG u S to D R B → Calls Tryd.prog 60 #[.pointer (some ⟨S.p, 0, none⟩), .int .i64 s, .int .i64 l] u (TakeW S u to D R0 B0 T))
    (H1 : ∀ d ∈ T, lvl to d.t < 6 ∧ d.t < 2 ^ 64) (H2 : ∀ k, k < 6 → (R0 k ++ RK to T k).Perm (R1 k)) (H3 : ∀ k, k < 6 → (RG.ids (R1 k)).Nodup ∧ (R1 k).length < 1000) (hT : T.length ≤ 1000000) :
    Calls Tryd.prog 38 #[.pointer (some ⟨S.p, 0, none⟩), .int .u64 to] w (DoneQ S w to D R1 B0) := by
  have G := Lib.hid h
  have c0 := h.cells.c0
  have f0 := h.cells.f 0
  have PO : Hid (Calls Tryd.prog 40 #[.pointer (some ⟨S.p, 0, none⟩), .int .u64 to] w fun e w' => e = .returned (.complex .f64 (floatOfInt .f64 s) (floatOfInt .f64 l)) ∧ Grw w w') := (by have := position_is S.p now to s (lvl now to) w c0 (by omega) hto hs rfl; rw [hl] at this; exact this : Calls Tryd.prog 40 #[.pointer (some ⟨S.p, 0, none⟩), .int .u64 to] w fun e w' => e = .returned (.complex .f64 (floatOfInt .f64 s) (floatOfInt .f64 l)) ∧ Grw w w')
  have hsr := posS_range now to
  rw [hs] at hsr
  have hlr := VM.lvl_six now to
  have PA := Lib.hid (fun u => parts_any s l u (by omega) (by omega) (by omega) (by omega))
  have TK := Lib.hid TK
  have ST : Hid (∀ (i : Nat) (hi : i < T.length) (u : World) (Si : Sh), WG u Si to D (fun k => R0 k ++ RK to (T.take i) k) B0 → Calls Tryd.prog 33 #[.pointer (some ⟨Si.p, 0, none⟩), .agg #[.int .i64 T[i].id, .int .u64 (T[i].t : Nat)]] u (DoneQ Si u to D (updN (fun k => R0 k ++ RK to (T.take i) k) (lvl to T[i].t) ((R0 (lvl to T[i].t) ++ RK to (T.take i) (lvl to T[i].t)) ++ [VM.la (lvl to T[i].t) T[i]])) B0)) := (fun i hi u Si hu => by
      have hd := H1 T[i] (List.getElem_mem hi)
      have hsub : ((R0 (lvl to T[i].t) ++ RK to (T.take i) (lvl to T[i].t)) ++ [VM.la (lvl to T[i].t) T[i]]).Sublist (R0 (lvl to T[i].t) ++ RK to T (lvl to T[i].t)) := by
        have := RK_take to T (i + 1) (lvl to T[i].t) (R0 (lvl to T[i].t))
        rw [List.take_succ_eq_append_getElem hi, RK_snoc, if_pos rfl, ← List.append_assoc] at this
        exact this
      have hp := H2 _ hd.1
      have h3 := H3 _ hd.1
      refine store_is Si to D (fun k => R0 k ++ RK to (T.take i) k) B0 T[i] u hu hd.1 hto hd.2 ?_ ?_
      · have h1 := hsub.length_le
        rw [hp.length_eq, List.length_append] at h1
        simp only [List.length_singleton] at h1
        have := h3.2
        show (R0 (lvl to T[i].t) ++ RK to (T.take i) (lvl to T[i].t)).length < 1000
        omega
      · have hn : (RG.ids (R0 (lvl to T[i].t) ++ RK to T (lvl to T[i].t))).Nodup := ((hp.map _).nodup_iff).2 h3.1
        exact hasId_snoc (x := VM.la (lvl to T[i].t) T[i]) (hn.sublist (hsub.map _)) : ∀ (i : Nat) (hi : i < T.length) (u : World) (Si : Sh), WG u Si to D (fun k => R0 k ++ RK to (T.take i) k) B0 → Calls Tryd.prog 33 #[.pointer (some ⟨Si.p, 0, none⟩), .agg #[.int .i64 T[i].id, .int .u64 (T[i].t : Nat)]] u (DoneQ Si u to D (updN (fun k => R0 k ++ RK to (T.take i) k) (lvl to T[i].t) ((R0 (lvl to T[i].t) ++ RK to (T.take i) (lvl to T[i].t)) ++ [VM.la (lvl to T[i].t) T[i]])) B0))
  have HP := Lib.hid H2
  obtain ⟨n, hn⟩ : ∃ n, T.length = n := ⟨_, rfl⟩
  have HN := Lib.hid hn
  rw [hn] at hT
  obtain ⟨Q, hQ⟩ : ∃ Q : Ending → World → Prop, Q = DoneQ S w to D R1 B0 := ⟨_, rfl⟩
  rw [← hQ]
  have QQ := Lib.hid hQ
  have hle : ¬ to ≤ now := by omega
  have hle2 : decide ((to : Int) ≤ (now : Int)) = false := by simp; omega
  have hle3 : ¬ (to : Int) ≤ (now : Int) := by omega
  clear h hs hl H1 H2 H3 hn hQ hsr hlr
  go_enter Tryd.func38, Tryd.ntmps38
  go_wp2_with fail
  refine PO.out.mono ?_
  rintro _ w1 ⟨rfl, hg1⟩
  have G1 := Lib.hid hg1
  have d0 := hg1.cell c0
  have e0 := (G.out.later hg1).cells.f 0
  clear hg1 c0 f0
  go_wp2_with fail
  refine (PA.out _).mono ?_
  rintro _ w2 ⟨rfl, rfl⟩
  have NS := Lib.hid ((G.out.later G1.out).nowStep to)
  go_wp2_with fail
  refine (TK.out _ NS.out.1).mono ?_
  rintro _ w3 ⟨v, S3, rfl, hp3, hg3, hf3, ht3, hrow, hoff⟩
  have FL : Hid (∃ Si, Fill w w3 S Si to D (fun k => R0 k ++ RK to (T.take 0) k) B0 v T) := (⟨S3, hp3, hg3.eqR (fun k _ => by simp [VM.RK]), ((G1.out.frm (wfoot S)).trans NS.out.2 (fun _ e => Or.inl e)).trans hf3 (fun _ e => Or.inl e), fun q hq => (ht3 q hq).imp id (fun c => by
      have := Below.size G1.out
      have h2 : (w1.setCell ⟨S.p, 0, none⟩ (.int .u64 (to : Nat))).heap.size = w1.heap.size := by simp [World.setCell]
      omega), hrow, hoff⟩ : ∃ Si, Fill w w3 S Si to D (fun k => R0 k ++ RK to (T.take 0) k) B0 v T)
  obtain ⟨ao, cap, hv, _⟩ := hrow
  rw [HN.out] at hv
  subst hv
  clear hp3 hg3 hf3 ht3 hoff d0 e0
  go_wp2_with fail
  go_loopw [30] (fun u wr => ∃ i : Nat, i ≤ n ∧ u = .int .i64 i ∧ ∃ Si, Fill w wr S Si to D (fun k => R0 k ++ RK to (T.take i) k) B0 (.slice ao n cap) T) (fun u _ => n - (intOf u).toNat)
  case atStart => exact ⟨0, Nat.zero_le _, rfl, FL.out⟩
  case round =>
    obtain ⟨i, hi, rfl, Si, hfill⟩ := hrel
    by_cases hin : i < n
    · have hiT : i < T.length := by rw [HN.out]; exact hin
      obtain ⟨ao2, cap2, e, hl⟩ := hfill.row
      injection e with e1 e2 e3
      subst e1
      obtain ⟨b, off, rfl, c0, c1⟩ := lies_at hl hiT
      have hbl : b < wr.heap.size := World.block_lt_of_cell? wr _ c0
      have FI := Lib.hid hfill
      have hii : (i : Int) < (n : Int) := by omega
      have G0 : Hid (∀ o : Obj, Grw wr (wr.alloc o)) := (fun o => (Grw.rfl' wr).alloc o : ∀ o : Obj, Grw wr (wr.alloc o))
      have SS := Lib.hid (ST.out i hiT)
      have CM := Lib.hid (fun (x w2 : World) gx h => @coming wr x w2 Si to D R0 B0 T i hiT gx h)
      have SZ := Lib.hid hbl
      have hpe := hfill.p
      obtain ⟨x, hx⟩ : ∃ x, T[i] = x := ⟨_, rfl⟩
      rw [hx] at c0 c1 SS CM
      obtain ⟨xi, xt⟩ := x
      simp only at c0 c1 SS CM
      clear hl hfill e2 e3 hbl hx
      have SP : Hid (Calls Tryd.prog 33 #[.pointer (some ⟨S.p, 0, none⟩), .agg #[.int .i64 xi, .int .u64 (xt : Nat)]] (wr.alloc (.cells #[.int .i64 xi, .int .u64 (xt : Nat)] 42)) (DoneQ Si (wr.alloc (.cells #[.int .i64 xi, .int .u64 (xt : Nat)] 42)) to D (updN (fun k => R0 k ++ RK to (T.take i) k) (lvl to xt) ((R0 (lvl to xt) ++ RK to (T.take i) (lvl to xt)) ++ [VM.la (lvl to xt) ⟨xi, xt⟩])) B0)) := (by
        have := SS.out _ Si (FI.out.g.later (G0.out (.cells #[.int .i64 xi, .int .u64 (xt : Nat)] 42)))
        rw [hpe] at this
        exact this : Calls Tryd.prog 33 #[.pointer (some ⟨S.p, 0, none⟩), .agg #[.int .i64 xi, .int .u64 (xt : Nat)]] (wr.alloc (.cells #[.int .i64 xi, .int .u64 (xt : Nat)] 42)) (DoneQ Si (wr.alloc (.cells #[.int .i64 xi, .int .u64 (xt : Nat)] 42)) to D (updN (fun k => R0 k ++ RK to (T.take i) k) (lvl to xt) ((R0 (lvl to xt) ++ RK to (T.take i) (lvl to xt)) ++ [VM.la (lvl to xt) ⟨xi, xt⟩])) B0))
      go_wp2_with fail
      refine SP.out.mono ?_
      rintro _ w4 ⟨rfl, hq4⟩
      have F4 := Lib.hid (FI.out.step (fun g hg => by have hg' : some b = some g := hg; injection hg' with hg'; have := SZ.out; omega) (CM.out _ w4 (G0.out _) hq4))
      clear hq4 c0 c1
      go_wp2_with fail
      go_roundw
      case rel => exact ⟨i + 1, by omega, by go_num, F4.out⟩
      case measure => simp [intOf]; omega
    · obtain rfl : i = n := by omega
      have FI := Lib.hid hfill
      have hini : ¬ (i : Int) < (i : Int) := by omega
      clear hfill
      go_wp2_with fail
      refine bodyPost_end (v := .tuple #[]) (by simp [results, Tryd.results38, go_sem]) rfl ?_
      rw [QQ.out]
      refine ⟨rfl, Si, FI.out.p, ?_, FI.out.f, FI.out.t⟩
      have := FI.out.g
      rw [show T.take i = T by rw [List.take_of_length_le (by rw [HN.out]; exact Nat.le_refl _)]] at this
      exact this.permR HP.out
end Go.Proofs.YtjkhgpdhhnfmlaaDoor
