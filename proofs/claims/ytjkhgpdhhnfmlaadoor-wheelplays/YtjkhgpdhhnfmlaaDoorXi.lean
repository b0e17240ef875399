/- A wheel told by the list of its timers; the contract of wheel.First at this program. -/
import Derived.Test.YtjkhgpdhhnfmlaaDoorXh
namespace Go.Proofs.YtjkhgpdhhnfmlaaDoor
open Go.RowKit TM MK
open RG (Du La listR putB putR dropR dropO takeR hasId Srt)
open VM (RK BK lvl idsD)
set_option linter.unusedSimpArgs false

/-- timers in order, each number once, none of them past. -/
structure GL (now : Nat) (L : List Du) : Prop where
  srt : Srt L
  ids : (idsD L).Nodup
  bd : ∀ d ∈ L, Wi d.id ∧ d.t < 2 ^ 64
  ge : ∀ d ∈ L, now ≤ d.t
  few : L.length ≤ 900
  nw : now < 2 ^ 64
/-- a wheel in memory that holds the timers of L. -/
structure WR (w : World) (S : Sh) (now : Nat) (L : List Du) : Prop where
  wg : ∃ D, WG w S now D (RK now L) (BK now L) ∧ MapOf D L
  gl : GL now L
  tab : Tab w
  zero : ¬ wfoot S 0
theorem tab_frm {F : Nat → Prop} {w x : World} (h : Tab w) (g : Frm F w x) (hn : ¬ F 0) : Tab x := fun j hj => g.cell (h j hj) hn
theorem tab_pos {w : World} (h : Tab w) : 0 < w.heap.size := World.block_lt_of_cell? w _ (h 0 (by omega))
theorem WR.frm {F : Nat → Prop} {w x : World} {S : Sh} {now : Nat} {L : List Du} (h : WR w S now L) (g : Frm F w x) (hn : ∀ k, wfoot S k → ¬ F k) (h0 : ¬ F 0) : WR x S now L :=
  ⟨let ⟨D, h1, h2⟩ := h.wg; ⟨D, h1.frm g hn, h2⟩, h.gl, tab_frm h.tab g h0, h.zero⟩
theorem WR.later {w x : World} {S : Sh} {now : Nat} {L : List Du} (h : WR w S now L) (g : Grw w x) : WR x S now L := h.frm (g.frm (fun _ => False)) (fun _ _ e => e) (fun e => e)
theorem WR.lt {w : World} {S : Sh} {now : Nat} {L : List Du} (h : WR w S now L) {g : Nat} (hg : wfoot S g) : g < w.heap.size := let ⟨_, h1, _⟩ := h.wg; h1.lt hg
/-- behind a call that writes the wheel. -/
def WRQ (S : Sh) (w : World) (now : Nat) (L : List Du) (w' : World) : Prop := ∃ S', S'.p = S.p ∧ WR w' S' now L ∧ Frm (wfoot S) w w' ∧ ∀ q, wfoot S' q → wfoot S q ∨ w.heap.size ≤ q
theorem WRQ.mk' {w w' : World} {S : Sh} {now now' : Nat} {L L' : List Du} {D : DataW Unit} {R : Nat → List La} {B : List Du} (h : WR w S now L) (q : WQ S w now' D R B w') (hr : ∀ k, k < 6 → (R k).Perm (RK now' L' k)) (hb : B = BK now' L') (hm : MapOf D L') (hg : GL now' L') : WRQ S w now' L' w' := by
  obtain ⟨S', e, h1, h2, h3⟩ := q
  subst hb
  refine ⟨S', e, ⟨⟨D, h1.permR hr, hm⟩, hg, tab_frm h.tab h2 h.zero, fun c => ?_⟩, h2, h3⟩
  rcases h3 0 c with c | c
  · exact h.zero c
  · have := tab_pos h.tab; omega
theorem WRQ.same {w w' : World} {S : Sh} {now : Nat} {L : List Du} (h : WR w S now L) (g : Grw w w') : WRQ S w now L w' := ⟨S, rfl, h.later g, g.frm _, fun _ e => Or.inl e⟩
theorem WRQ.trans {w w1 w2 : World} {S : Sh} {now now2 : Nat} {L L2 : List Du} (h : WRQ S w now L w1) (h2 : ∀ S1, S1.p = S.p → WR w1 S1 now L → WRQ S1 w1 now2 L2 w2) : WRQ S w now2 L2 w2 := by
  obtain ⟨S1, e1, g1, f1, t1⟩ := h
  obtain ⟨S2, e2, g2, f2, t2⟩ := h2 S1 e1 g1
  refine ⟨S2, e2.trans e1, g2, f1.trans f2 t1, fun q hq => ?_⟩
  rcases t2 q hq with e | e
  · exact t1 q e
  · exact Or.inr (Nat.le_trans f1.size e)
theorem WRQ.later {w w1 w2 : World} {S : Sh} {now : Nat} {L : List Du} (h : WRQ S w now L w1) (g : Grw w1 w2) : WRQ S w now L w2 := h.trans (fun _ _ h1 => WRQ.same h1 g)
theorem WRQ.pre {w u w' : World} {S : Sh} {now : Nat} {L : List Du} (h : WRQ S u now L w') (g : Grw w u) : WRQ S w now L w' := by
  obtain ⟨S', e, h1, h2, h3⟩ := h
  exact ⟨S', e, h1, (g.frm _).trans h2 (fun _ e => Or.inl e), fun q hq => (h3 q hq).imp id (fun c => Nat.le_trans (Below.size g) c)⟩
theorem WRQ.row {w w' : World} {S : Sh} {now : Nat} {L : List Du} (h : WRQ S w now L w') : Frm (wfoot S) w w' := let ⟨_, _, _, f, _⟩ := h; f

/-! ### the first one -/
theorem rnd_slots {R : List La} (g : RG.Good R) : (rnd (mR R) 0 = none ∧ R = []) ∨ ∃ s : Nat, rnd (mR R) 0 = some (s : Int) ∧ s < 64 ∧ (∃ d, ⟨(s : Int), d⟩ ∈ R) ∧ ∀ x ∈ R, (s : Int) ≤ x.s := by
  have hr : rnd (mR R) 0 = nxt (mR R) 0 := by
    unfold rnd
    rw [if_pos (by omega)]
    cases nxt (mR R) 0 <;> rfl
  rw [hr]
  rcases nxt_is (mR R) 0 with ⟨h1, h2⟩ | ⟨n, h1, h2, h3, h4, h5⟩
  · left
    refine ⟨h1, ?_⟩
    rcases R with _ | ⟨x, R⟩
    · rfl
    · have hs := g.slot x List.mem_cons_self
      obtain ⟨k, hk⟩ := Int.eq_ofNat_of_zero_le hs.1
      have := h2 k (by omega) (by omega)
      unfold mR at this
      rw [ofL_bit _ _ (by omega)] at this
      simp only [decide_eq_false_iff_not] at this
      exact absurd (List.mem_map.2 ⟨x, List.mem_cons_self, hk⟩) this
  · right
    unfold mR at h3 h5
    rw [ofL_bit _ _ h2, decide_eq_true_eq, List.mem_map] at h3
    refine ⟨n, h1, h2, ?_, fun x hx => ?_⟩
    · obtain ⟨x, hx, e⟩ := h3
      exact ⟨x.d, by rw [← e]; exact hx⟩
    · have hs := g.slot x hx
      obtain ⟨k, hk⟩ := Int.eq_ofNat_of_zero_le hs.1
      rw [hk]
      rcases Nat.lt_or_ge k n with c | c
      · have := h5 k c (by omega)
        rw [ofL_bit _ _ (by omega)] at this
        simp only [decide_eq_false_iff_not] at this
        exact absurd (List.mem_map.2 ⟨x, hx, hk⟩) this
      · omega
def hdD (L : List Du) : Du := L.headD ⟨0, 0⟩
theorem run_index6 (r : Nat → Nat) (k : Nat) (hk : k < 6) (w : World) : (Instr.index 72 (.agg #[.pointer (some ⟨r 0, 0, none⟩), .pointer (some ⟨r 1, 0, none⟩), .pointer (some ⟨r 2, 0, none⟩), .pointer (some ⟨r 3, 0, none⟩), .pointer (some ⟨r 4, 0, none⟩), .pointer (some ⟨r 5, 0, none⟩)]) (.int .i64 k)).run Tryd.prog w = .ok (.pointer (some ⟨r k, 0, none⟩)) w := by
  rcases (by omega : k = 0 ∨ k = 1 ∨ k = 2 ∨ k = 3 ∨ k = 4 ∨ k = 5) with rfl | rfl | rfl | rfl | rfl | rfl <;> simp [Instr.index, Tryd.underlying72, go_sem]
/-- what a ring's First tells, of a ring of the wheel. -/
theorem ring_first {w : World} {b : Nat} {A : Array Value} {R : List La} (h : RingR w b A R) (t : Tab w) :
    (R = [] ∧ Calls Tryd.prog 58 #[.pointer (some ⟨b, 0, none⟩), .int .i64 0] w fun e w' => e = .returned (.tuple #[.int .i64 0, .bool false]) ∧ w = w') ∨
    (∃ s : Nat, s < 64 ∧ (∃ d, ⟨(s : Int), d⟩ ∈ R) ∧ (∀ x ∈ R, (s : Int) ≤ x.s) ∧ Calls Tryd.prog 58 #[.pointer (some ⟨b, 0, none⟩), .int .i64 0] w fun e w' => e = .returned (.tuple #[.int .i64 (s : Nat), .bool true]) ∧ w = w') := by
  rcases rnd_slots h.good with ⟨h1, h2⟩ | ⟨s, h1, h2, h3, h4⟩
  · exact Or.inl ⟨h2, first_R b A R 0 0 false w h t (by rw [h1]; rfl) (by rw [h1]; rfl)⟩
  · exact Or.inr ⟨s, h2, h3, h4, first_R b A R 0 s true w h t (by rw [h1]; rfl) (by rw [h1]; rfl)⟩
theorem list_head (b : Nat) (A : Array Value) (R : List La) (s : Nat) (w : World) (h : RingR w b A R) (d : Du) (l : List Du) (hl : listR R (s : Int) = d :: l) :
    Calls Tryd.prog 59 #[.pointer (some ⟨b, 0, none⟩), .int .i64 s] w fun e w' => ∃ lb n cap, e = .returned (.slice (some ⟨lb, 0, none⟩) (n + 1) cap) ∧ w'.cell? ⟨lb, 0, none⟩ = some (.int .i64 d.id) ∧ w'.cell? ⟨lb, 1, none⟩ = some (.int .u64 (d.t : Nat)) ∧ Grw w w' := by
  have := list_R b A R s w h
  rw [hl] at this
  refine this.mono ?_
  rintro e w' ⟨v, rfl, ho, hg⟩
  rcases ho.2 with ⟨_, h2⟩ | ⟨g, cap, cur, rfl, hb, _⟩
  · simp at h2
  · refine ⟨g, l.length, cap, rfl, ?_, ?_, hg⟩
    · rw [ho.cellAt 0 (by simp only [List.length_cons]; omega)]; rfl
    · rw [ho.cellAt 1 (by simp only [List.length_cons]; omega)]; rfl
def FirstQ (L : List Du) (w : World) (e : Ending) (w' : World) : Prop := e = .returned (.tuple #[.agg #[.int .i64 (hdD L).id, .int .u64 ((hdD L).t : Nat)], .bool (!L.isEmpty)]) ∧ Grw w w'
set_option maxHeartbeats 4000000 in
set_option maxRecDepth 100000 in
theorem first_W (S : Sh) (now : Nat) (L : List Du) (w : World) (h : WR w S now L) : Calls Tryd.prog 37 #[.pointer (some ⟨S.p, 0, none⟩)] w (FirstQ L w) := by
  obtain ⟨D, hwg, _⟩ := h.wg
  have W := Lib.hid hwg
  have HG := Lib.hid h.gl
  have TB := Lib.hid h.tab
  have IX := Lib.hid (run_index6 S.rb)
  have C := Lib.hid (fun u (g : Grw w u) => (hwg.later g).cells)
  have RI := Lib.hid (fun u (g : Grw w u) k hk => ring_first ((hwg.later g).ring k hk) (tab_grw g h.tab))
  have LI := Lib.hid (fun u (g : Grw w u) k hk s d l hl => list_head (S.rb k) (S.A k) (RK now L k) s u ((hwg.later g).ring k hk) d l hl)
  obtain ⟨Q, hQ⟩ : ∃ Q : Ending → World → Prop, Q = FirstQ L w := ⟨_, rfl⟩
  rw [← hQ]
  have QQ := Lib.hid hQ
  have g0 : Grw w (w.alloc (.cells #[.int .i64 0, .int .u64 0] 42)) := (Grw.rfl' w).alloc _
  have K0 := C.out _ g0
  have k2 := K0.c2
  have k3 := K0.c3
  have k4 := K0.c4
  have k5 := K0.c5
  have k6 := K0.c6
  have k7 := K0.c7
  clear h hwg hQ K0 g0
  go_enter Tryd.func37, Tryd.ntmps37
  go_wp2_with fail
  go_loopw [15] (fun u wr => ∃ k : Nat, k ≤ 6 ∧ u = .int .i64 k ∧ (∀ j, j < k → RK now L j = []) ∧ Grw (w.alloc (.cells #[.int .i64 0, .int .u64 0] 42)) wr) (fun u _ => 6 - (intOf u).toNat)
  case atStart => exact ⟨0, Nat.zero_le _, rfl, fun j hj => by omega, Grw.rfl' _⟩
  case round =>
    obtain ⟨k, hk, rfl, he, hg⟩ := hrel
    have HE := Lib.hid he
    have G := Lib.hid hg.two
    have K := Kp.grown hg
    clear he k2 k3 k4 k5 k6 k7
    by_cases hk6 : k < 6
    · have hki : (k : Int) < 6 := by omega
      have IK := Lib.hid (IX.out k hk6)
      rcases RI.out wr G.out k hk6 with ⟨hnil, hC⟩ | ⟨s, hs, hsome, hmin, hC⟩
      · have F := Lib.hid hC
        have NL := Lib.hid hnil
        have GG := Lib.hid hg
        clear hnil hC hg K
        go_wp2_with (simp only [IK.out])
        refine F.out.mono ?_
        rintro _ w1 ⟨rfl, rfl⟩
        go_wp2_with fail
        go_roundw
        case rel => exact ⟨k + 1, by omega, by go_num, fun j hj => by
          rcases (by omega : j < k ∨ j = k) with c | c
          · exact HE.out j c
          · rw [c]; exact NL.out, GG.out⟩
        case measure => simp [intOf]; omega
      · have F := Lib.hid hC
        obtain ⟨d, l, hl⟩ : ∃ d l, listR (RK now L k) (s : Int) = d :: l := by
          obtain ⟨d, hd⟩ := hsome
          have hm := (mem_listR _ _ _).2 hd
          rcases e : listR (RK now L k) (s : Int) with _ | ⟨x, l⟩
          · rw [e] at hm; cases hm
          · exact ⟨x, l, rfl⟩
        obtain ⟨l', hL⟩ := VM.first_ring HG.out.srt HG.out.ge hk6 HE.out hmin hl
        have LC := Lib.hid (LI.out wr G.out k hk6 s d l hl)
        have HL := Lib.hid hL
        obtain ⟨di, dt⟩ := d
        simp only at LC
        clear hl hL hC hsome hmin
        go_wp2_with (simp only [IK.out])
        refine F.out.mono ?_
        rintro _ w1 ⟨rfl, rfl⟩
        go_wp2_with fail
        refine LC.out.mono ?_
        rintro _ w1 ⟨lb, n, cap, rfl, c0, c1, hg1⟩
        have K1 := K.later hg1
        have r0 := K1.t.c0
        have r1 := K1.t.c1
        have f0 := K1.t.f0
        have f1 := K1.t.f1
        have G1 : Hid (Grw w w1) := (G.out.trans hg1 : Grw w w1)
        clear hg1 K K1 hg
        go_wp2_with fail
        refine bodyPost_ret (v := .tuple #[.agg #[.int .i64 di, .int .u64 dt], .bool true]) (by simp [results, Tryd.results37, go_sem, r0, r1]) rfl ?_
        rw [QQ.out]
        exact ⟨by rw [HL.out]; rfl, G1.out.set2 (Nat.le_refl _) _ _⟩
    · obtain rfl : k = 6 := by omega
      have HB := Lib.hid (VM.first_beyond HE.out)
      have CW := C.out _ G.out
      have c8 := CW.c8
      have ho := (W.out.later G.out).own
      rw [HB.out] at ho
      obtain ⟨ao, cap, hbv, hl⟩ := ownsRow_lies ho
      rw [hbv] at c8
      have r0 := K.t.c0
      have r1 := K.t.c1
      have f0 := K.t.f0
      have f1 := K.t.f1
      clear ho CW hg K hbv
      rcases L with _ | ⟨d, l⟩
      · clear hl
        simp only [List.length_nil] at c8
        go_wp2_with fail
        refine bodyPost_ret (v := .tuple #[.agg #[.int .i64 0, .int .u64 0], .bool false]) (by simp [results, Tryd.results37, go_sem, r0, r1]) rfl ?_
        rw [QQ.out]
        exact ⟨rfl, G.out.set2 (Nat.le_refl _) _ _⟩
      · obtain ⟨b, off, rfl, c0, c1⟩ := lies_at hl (j := 0) (by simp)
        simp only [Nat.zero_mul, Nat.add_zero, List.getElem_cons_zero] at c0 c1
        obtain ⟨n, hn⟩ : ∃ n, (d :: l).length = n + 1 := ⟨l.length, rfl⟩
        rw [hn] at c8
        obtain ⟨di, dt⟩ := d
        simp only at c0 c1
        clear hl hn
        go_wp2_with fail
        refine bodyPost_ret (v := .tuple #[.agg #[.int .i64 di, .int .u64 dt], .bool true]) (by simp [results, Tryd.results37, go_sem, r0, r1]) rfl ?_
        rw [QQ.out]
        exact ⟨rfl, G.out.set2 (Nat.le_refl _) _ _⟩
theorem wfirst_nil (w : World) : Calls Tryd.prog 37 #[.pointer none] w fun e w' => e = .returned (.tuple #[.agg #[.int .i64 0, .int .u64 0], .bool false]) ∧ Grw w w' := by
  go_enter Tryd.func37, Tryd.ntmps37
  go_wp2_with fail
  refine bodyPost_ret (v := .tuple #[.agg #[.int .i64 0, .int .u64 0], .bool false]) (by simp [results, Tryd.results37, go_sem]) rfl ?_
  exact ⟨rfl, (Grw.rfl' _).alloc _⟩
end Go.Proofs.YtjkhgpdhhnfmlaaDoor
