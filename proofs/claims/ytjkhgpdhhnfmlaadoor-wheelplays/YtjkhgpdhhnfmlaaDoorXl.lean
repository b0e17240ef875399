/- The contract of wheel.Pop at this program, told by the list of timers. -/
import Derived.Test.YtjkhgpdhhnfmlaaDoorXk
namespace Go.Proofs.YtjkhgpdhhnfmlaaDoor
open Go.RowKit TM MK
open RG (Du La listR putB putR dropR dropO takeR hasId Srt)
open VM (RK BK lvl idsD)
set_option linter.unusedSimpArgs false

theorem Kp.frm {F : Nat → Prop} {w x : World} {b : Nat} {c0 c1 : Value} (k : Kp w b c0 c1) (g : Frm F w x) (hn : ¬ F b) : Kp x b c0 c1 := by
  have e := g.block b k.lt hn
  refine ⟨⟨?_, ?_, ?_, ?_⟩, Nat.lt_of_lt_of_le k.lt g.size⟩
  · exact g.cell k.t.c0 hn
  · exact g.cell k.t.c1 hn
  · have := k.t.f0
    unfold World.frozen? at this ⊢
    simp only [e]; exact this
  · have := k.t.f1
    unfold World.frozen? at this ⊢
    simp only [e]; exact this
theorem WRQ.kp {w w' : World} {S : Sh} {now : Nat} {L : List Du} (h : WRQ S w now L w') {b : Nat} {c0 c1 : Value} (k : Kp w b c0 c1) (hn : ¬ wfoot S b) : Kp w' b c0 c1 := k.frm h.row hn
def PopQ (S : Sh) (w : World) (r : Du) (o : Bool) (now : Nat) (L : List Du) (e : Ending) (w' : World) : Prop := e = .returned (.tuple #[.agg #[.int .i64 r.id, .int .u64 (r.t : Nat)], .bool o]) ∧ WRQ S w now L w'
theorem cancel_hd (S : Sh) (now : Nat) (d : Du) (l : List Du) (w : World) (h : WR w S now (d :: l)) :
    Calls Tryd.prog 11 #[.pointer (some ⟨S.p, 0, none⟩), .int .i64 d.id] w (CanQ S w now d.t true l) := by
  have := cancel_W S now (d :: l) d.id w h (h.gl.bd d List.mem_cons_self).1
  have e : atO (d :: l) d.id = some d.t := atO_of h.gl.ids List.mem_cons_self
  have hn := h.gl.ids
  unfold VM.idsD at hn
  rw [List.map_cons, List.nodup_cons] at hn
  have e2 : VM.del d.id (d :: l) = l := by
    unfold VM.del
    rw [List.filter_cons, if_neg (by simp), List.filter_eq_self]
    intro x hx
    simp only [decide_eq_true_eq]
    intro c
    exact hn.1 (List.mem_map.2 ⟨x, hx, c⟩)
  rw [e, e2] at this
  exact this
set_option maxHeartbeats 4000000 in
set_option maxRecDepth 100000 in
theorem pop_hit (S : Sh) (now : Nat) (d : Du) (l : List Du) (to : Nat) (w : World) (h : WR w S now (d :: l)) (hle : d.t ≤ to) :
    Calls Tryd.prog 13 #[.pointer (some ⟨S.p, 0, none⟩), .int .u64 to] w (PopQ S w d true d.t l) := by
  have H := Lib.hid h
  have FI : Hid (∀ u, Grw w u → Calls Tryd.prog 37 #[.pointer (some ⟨S.p, 0, none⟩)] u fun e w' => e = .returned (.tuple #[.agg #[.int .i64 d.id, .int .u64 (d.t : Nat)], .bool true]) ∧ Grw u w') := (fun u g => first_W S now (d :: l) u (h.later g) : ∀ u, Grw w u → Calls Tryd.prog 37 #[.pointer (some ⟨S.p, 0, none⟩)] u fun e w' => e = .returned (.tuple #[.agg #[.int .i64 d.id, .int .u64 (d.t : Nat)], .bool true]) ∧ Grw u w')
  have CA := Lib.hid (fun u (g : Grw w u) => cancel_hd S now d l u (h.later g))
  have MV : Hid (∀ (S1 : Sh) (u : World), S1.p = S.p → WR u S1 now l → Calls Tryd.prog 38 #[.pointer (some ⟨S.p, 0, none⟩), .int .u64 (d.t : Nat)] u (MoveQ S1 u d.t l)) := (fun S1 u e1 h1 => by
      have hs := List.pairwise_cons.1 h.gl.srt
      have := moveTo_W S1 now d.t l u h1 (h.gl.bd d List.mem_cons_self).2 (fun x hx => Or.inl (by have := hs.1 x hx; rw [RG.le_iff] at this; omega))
      rw [Nat.max_eq_right (h.gl.ge d List.mem_cons_self), e1] at this
      exact this : ∀ (S1 : Sh) (u : World), S1.p = S.p → WR u S1 now l → Calls Tryd.prog 38 #[.pointer (some ⟨S.p, 0, none⟩), .int .u64 (d.t : Nat)] u (MoveQ S1 u d.t l))
  have LT : Hid (∀ g, wfoot S g → g < w.heap.size) := (fun g hg => h.lt hg : ∀ g, wfoot S g → g < w.heap.size)
  obtain ⟨di, dt⟩ := d
  simp only at FI CA MV hle
  have h1 : ¬ (to : Int) < (dt : Int) := by omega
  have h2 : decide ((to : Int) < (dt : Int)) = false := by simp; omega
  have h3 : decide ((dt : Int) > (to : Int)) = false := by simp; omega
  obtain ⟨Q, hQ⟩ : ∃ Q : Ending → World → Prop, Q = PopQ S w ⟨di, dt⟩ true dt l := ⟨_, rfl⟩
  simp only
  rw [← hQ]
  have QQ := Lib.hid hQ
  clear h hle hQ
  go_enter Tryd.func13, Tryd.ntmps13
  go_wp2_with fail
  refine (FI.out _ ((Grw.rfl' _).alloc _)).mono ?_
  rintro _ w1 ⟨rfl, hg1⟩
  have K := Lib.hid (Kp.grown hg1)
  have G1 := Lib.hid hg1.two
  have KX := Lib.hid (Kp.new w1 (.int .i64 di) (.int .u64 dt) 42)
  have CX := Lib.hid (CA.out (w1.alloc (.cells #[.int .i64 di, .int .u64 dt] 42)) (G1.out.alloc _))
  have K1 := Lib.hid (K.out.later ((Grw.rfl' w1).alloc (.cells #[.int .i64 di, .int .u64 dt] 42)))
  have hXw : ¬ w.heap.size = w1.heap.size := by have := K.out.lt; omega
  clear hg1
  go_wp2_with fail
  refine CX.out.mono ?_
  rintro _ w2 ⟨rfl, hq2⟩
  have NX : Hid (¬ wfoot S w1.heap.size ∧ ¬ wfoot S w.heap.size) := (⟨fun c => by have h1 := LT.out _ c; have h2 := Below.size G1.out; omega, fun c => by have h1 := LT.out _ c; omega⟩ : ¬ wfoot S w1.heap.size ∧ ¬ wfoot S w.heap.size)
  have KX2 := Lib.hid (hq2.kp KX.out NX.out.1)
  have K2 := Lib.hid (hq2.kp K1.out NX.out.2)
  obtain ⟨S1, e1, g1, f1, t1⟩ := hq2
  have W1 := Lib.hid g1
  have T1 := Lib.hid (And.intro f1 t1)
  have MX := Lib.hid (MV.out S1 w2 e1 g1)
  have N1 : Hid (¬ wfoot S1 w1.heap.size ∧ ¬ wfoot S1 w.heap.size) := (⟨fun c => (t1 _ c).elim NX.out.1 (fun c2 => by simp only [size_new] at c2; omega), fun c => (t1 _ c).elim NX.out.2 (fun c2 => by have := K.out.lt; simp only [size_new] at c2; omega)⟩ : ¬ wfoot S1 w1.heap.size ∧ ¬ wfoot S1 w.heap.size)
  have x0 := KX2.out.t.c0
  have x1 := KX2.out.t.c1
  clear g1 f1 t1
  go_wp2_with fail
  refine MX.out.mono ?_
  rintro _ w3 ⟨rfl, hq3⟩
  have KX3 := hq3.kp KX2.out N1.out.1
  have K3 := hq3.kp K2.out N1.out.2
  have y0 := KX3.t.c0
  have y1 := KX3.t.c1
  have r0 := K3.t.c0
  have r1 := K3.t.c1
  have f0 := K3.t.f0
  have f1 := K3.t.f1
  obtain ⟨S3, e3, g3, f3, t3⟩ := hq3
  have HQ : Hid (WRQ S w dt l ((w3.setCell ⟨w.heap.size, 0, none⟩ (.int .i64 di)).setCell ⟨w.heap.size, 1, none⟩ (.int .u64 dt))) := (by
    have g4 : WR ((w3.setCell ⟨w.heap.size, 0, none⟩ (.int .i64 di)).setCell ⟨w.heap.size, 1, none⟩ (.int .u64 dt)) S3 dt l := by
      have hne : ∀ k, wfoot S3 k → ¬ k = w.heap.size := fun k hk c => by
        subst c
        rcases t3 _ hk with c | c
        · exact N1.out.2 c
        · have := K2.out.lt; omega
      have z : ¬ (0 = w.heap.size) := by have := tab_pos H.out.tab; omega
      exact (g3.frm (frm_set (F := fun k => k = w.heap.size) w3 ⟨w.heap.size, 0, none⟩ _ rfl) hne z).frm (frm_set (F := fun k => k = w.heap.size) _ ⟨w.heap.size, 1, none⟩ _ rfl) hne z
    have fa : Frm (wfoot S) w w3 := (((G1.out.alloc (.cells #[.int .i64 di, .int .u64 dt] 42)).frm (wfoot S)).trans T1.out.1 (fun _ e => Or.inl e)).trans f3 (fun q hq => (T1.out.2 q hq).imp id (fun c => by have := Below.size (G1.out.alloc (.cells #[.int .i64 di, .int .u64 dt] 42)); omega))
    refine ⟨S3, e3.trans e1, g4, (fa.set ⟨w.heap.size, 0, none⟩ _ (Or.inr (Nat.le_refl _))).set ⟨w.heap.size, 1, none⟩ _ (Or.inr (Nat.le_refl _)), fun q hq => ?_⟩
    rcases t3 q hq with c | c
    · exact (T1.out.2 q c).imp id (fun c2 => by have := Below.size (G1.out.alloc (.cells #[.int .i64 di, .int .u64 dt] 42)); omega)
    · right
      have h1 := K2.out.lt
      omega : WRQ S w dt l ((w3.setCell ⟨w.heap.size, 0, none⟩ (.int .i64 di)).setCell ⟨w.heap.size, 1, none⟩ (.int .u64 dt)))
  clear KX3 K3 g3 f3 t3 x0 x1
  go_wp2_with fail
  refine bodyPost_ret (v := .tuple #[.agg #[.int .i64 di, .int .u64 dt], .bool true]) (by simp [results, Tryd.results13, go_sem, r0, r1]) rfl ?_
  rw [QQ.out]
  exact ⟨rfl, HQ.out⟩
set_option maxHeartbeats 4000000 in
set_option maxRecDepth 100000 in
theorem pop_miss (S : Sh) (now : Nat) (L : List Du) (to : Nat) (w : World) (h : WR w S now L) (hto : to < 2 ^ 64) (hL : ∀ d ∈ L, to < d.t) :
    Calls Tryd.prog 13 #[.pointer (some ⟨S.p, 0, none⟩), .int .u64 to] w (PopQ S w ⟨0, 0⟩ false (max now to) L) := by
  have H := Lib.hid h
  have MV := Lib.hid (fun u (g : Grw w u) => moveTo_W S now to L u (h.later g) hto (fun d hd => Or.inl (by have := hL d hd; omega)))
  have LT : Hid (∀ g, wfoot S g → g < w.heap.size) := (fun g hg => h.lt hg : ∀ g, wfoot S g → g < w.heap.size)
  obtain ⟨o, ho⟩ : ∃ o, (!L.isEmpty) = o := ⟨_, rfl⟩
  obtain ⟨d, hd⟩ : ∃ d, hdD L = d := ⟨_, rfl⟩
  have FI : Hid (∀ u, Grw w u → Calls Tryd.prog 37 #[.pointer (some ⟨S.p, 0, none⟩)] u fun e w' => e = .returned (.tuple #[.agg #[.int .i64 d.id, .int .u64 (d.t : Nat)], .bool o]) ∧ Grw u w') := (fun u g => by have := first_W S now L u (h.later g); unfold FirstQ at this; rw [ho, hd] at this; exact this : ∀ u, Grw w u → Calls Tryd.prog 37 #[.pointer (some ⟨S.p, 0, none⟩)] u fun e w' => e = .returned (.tuple #[.agg #[.int .i64 d.id, .int .u64 (d.t : Nat)], .bool o]) ∧ Grw u w')
  have hdt : o = true → to < d.t := by
    intro c
    subst ho
    rcases L with _ | ⟨x, l⟩
    · cases c
    · rw [← hd]; exact hL x List.mem_cons_self
  obtain ⟨di, dt⟩ := d
  simp only at FI hdt
  obtain ⟨Q, hQ⟩ : ∃ Q : Ending → World → Prop, Q = PopQ S w ⟨0, 0⟩ false (max now to) L := ⟨_, rfl⟩
  rw [← hQ]
  have QQ := Lib.hid hQ
  obtain ⟨nw, hnw⟩ : ∃ nw, max now to = nw := ⟨_, rfl⟩
  rw [hnw] at MV QQ
  have FIN : Hid (∀ w1 u w3, Grw (w.alloc (.cells #[.int .i64 0, .int .u64 0] 42)) w1 → Grw w1 u → MoveQ S u nw L (.returned (.tuple #[])) w3 → Kp w3 w.heap.size (.int .i64 0) (.int .u64 0) ∧ WRQ S w nw L ((w3.setCell ⟨w.heap.size, 0, none⟩ (.int .i64 0)).setCell ⟨w.heap.size, 1, none⟩ (.int .u64 0))) := (fun w1 u w3 hg1 hgu hq => by
      obtain ⟨_, hq3⟩ := hq
      have hN : ¬ wfoot S w.heap.size := fun c => by have h1 := LT.out _ c; omega
      have kk := (Kp.grown hg1).later hgu
      have KK := hq3.kp kk hN
      obtain ⟨S3, e3, g3, f3, t3⟩ := hq3
      have gu : Grw w u := hg1.two.trans hgu
      have hne : ∀ k, wfoot S3 k → ¬ k = w.heap.size := fun k hk c => by
        subst c
        rcases t3 _ hk with c | c
        · exact hN c
        · have := kk.lt; omega
      have z : ¬ (0 = w.heap.size) := by have := tab_pos H.out.tab; omega
      have g4 := (g3.frm (frm_set (F := fun k => k = w.heap.size) w3 ⟨w.heap.size, 0, none⟩ (.int .i64 0) rfl) hne z).frm (frm_set (F := fun k => k = w.heap.size) _ ⟨w.heap.size, 1, none⟩ (.int .u64 0) rfl) hne z
      have fa : Frm (wfoot S) w w3 := (gu.frm (wfoot S)).trans f3 (fun _ e => Or.inl e)
      exact ⟨KK, S3, e3, g4, (fa.set ⟨w.heap.size, 0, none⟩ _ (Or.inr (Nat.le_refl _))).set ⟨w.heap.size, 1, none⟩ _ (Or.inr (Nat.le_refl _)), fun q hq => (t3 q hq).imp id (fun c => Nat.le_trans (Below.size gu) c)⟩ : ∀ w1 u w3, Grw (w.alloc (.cells #[.int .i64 0, .int .u64 0] 42)) w1 → Grw w1 u → MoveQ S u nw L (.returned (.tuple #[])) w3 → Kp w3 w.heap.size (.int .i64 0) (.int .u64 0) ∧ WRQ S w nw L ((w3.setCell ⟨w.heap.size, 0, none⟩ (.int .i64 0)).setCell ⟨w.heap.size, 1, none⟩ (.int .u64 0)))
  clear h hQ hL hto ho hd hnw
  cases o with
  | false =>
    clear hdt
    go_enter Tryd.func13, Tryd.ntmps13
    go_wp2_with fail
    refine (FI.out _ ((Grw.rfl' _).alloc _)).mono ?_
    rintro _ w1 ⟨rfl, hg1⟩
    have G1 := Lib.hid hg1
    have MX := Lib.hid (MV.out (w1.alloc (.cells #[.int .i64 di, .int .u64 dt] 42)) (hg1.two.alloc _))
    clear hg1
    go_wp2_with fail
    refine MX.out.mono ?_
    rintro _ w3 ⟨rfl, hq3⟩
    obtain ⟨K3, hq⟩ := FIN.out w1 _ w3 G1.out ((Grw.rfl' _).alloc _) ⟨rfl, hq3⟩
    have HQ := Lib.hid hq
    have r0 := K3.t.c0
    have r1 := K3.t.c1
    have f0 := K3.t.f0
    have f1 := K3.t.f1
    clear hq hq3 K3
    go_wp2_with fail
    refine bodyPost_ret (v := .tuple #[.agg #[.int .i64 0, .int .u64 0], .bool false]) (by simp [results, Tryd.results13, go_sem, r0, r1]) rfl ?_
    rw [QQ.out]
    exact ⟨rfl, HQ.out⟩
  | true =>
    have hlt := hdt rfl
    have h1 : (to : Int) < (dt : Int) := by omega
    have h2 : decide ((to : Int) < (dt : Int)) = true := by simp; omega
    clear hdt
    go_enter Tryd.func13, Tryd.ntmps13
    go_wp2_with fail
    refine (FI.out _ ((Grw.rfl' _).alloc _)).mono ?_
    rintro _ w1 ⟨rfl, hg1⟩
    have G1 := Lib.hid hg1
    have MX := Lib.hid (MV.out (w1.alloc (.cells #[.int .i64 di, .int .u64 dt] 42)) (hg1.two.alloc _))
    clear hg1
    go_wp2_with fail
    refine MX.out.mono ?_
    rintro _ w3 ⟨rfl, hq3⟩
    obtain ⟨K3, hq⟩ := FIN.out w1 _ w3 G1.out ((Grw.rfl' _).alloc _) ⟨rfl, hq3⟩
    have HQ := Lib.hid hq
    have r0 := K3.t.c0
    have r1 := K3.t.c1
    have f0 := K3.t.f0
    have f1 := K3.t.f1
    clear hq hq3 K3
    go_wp2_with fail
    refine bodyPost_ret (v := .tuple #[.agg #[.int .i64 0, .int .u64 0], .bool false]) (by simp [results, Tryd.results13, go_sem, r0, r1]) rfl ?_
    rw [QQ.out]
    exact ⟨rfl, HQ.out⟩
theorem pop_nil (to : Nat) (w : World) : Calls Tryd.prog 13 #[.pointer none, .int .u64 to] w fun e w' => e = .returned (.tuple #[.agg #[.int .i64 0, .int .u64 0], .bool false]) ∧ Grw w w' := by
  go_enter Tryd.func13, Tryd.ntmps13
  go_wp2_with fail
  refine bodyPost_ret (v := .tuple #[.agg #[.int .i64 0, .int .u64 0], .bool false]) (by simp [results, Tryd.results13, go_sem]) rfl ?_
  exact ⟨rfl, (Grw.rfl' _).alloc _⟩
end Go.Proofs.YtjkhgpdhhnfmlaaDoor
