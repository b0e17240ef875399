/- The contract of wheel.store at a time within the rings, at this program. -/
import Derived.Test.YtjkhgpdhhnfmlaaDoorXb
import Derived.Deep.RegionHeld3
namespace Go.Proofs.YtjkhgpdhhnfmlaaDoor
open Go.RowKit TM MK
open RG (Du La listR putB putR dropR dropO takeR hasId)
set_option linter.unusedSimpArgs false

theorem position_is (p now t : Nat) (s : Int) (l : Nat) (w : World) (c0 : w.cell? ⟨p, 0, none⟩ = some (.int .u64 (now : Nat))) (hn : now < 2 ^ 64) (ht : t < 2 ^ 64) (hs : posS now t = s) (hl : VM.lvl now t = l) :
    Calls Tryd.prog 40 #[.pointer (some ⟨p, 0, none⟩), .int .u64 t] w fun e w' => e = .returned (.complex .f64 (floatOfInt .f64 s) (floatOfInt .f64 (l : Nat))) ∧ Grw w w' := by rw [← hs, ← hl]; exact position_any p now t w c0 hn ht
theorem putB_new {R : List La} {s : Nat} {d : Du} (hs : s < 64) (h : hasId R d.id = false) : putB R (s : Int) d = true ∧ putR R (s : Int) d = R ++ [⟨(s : Int), d⟩] := by
  have hb : putB R (s : Int) d = true := by unfold RG.putB RG.slotB; rw [h]; simp; omega
  exact ⟨hb, by unfold RG.putR; rw [if_pos hb]⟩
theorem put_new (b : Nat) (A : Array Value) (R : List La) (s : Nat) (d : Du) (w : World) (h : RingR w b A R) (hf : R.length < 1000) (hs : s < 64) (hno : hasId R d.id = false) :
    Calls Tryd.prog 52 #[.pointer (some ⟨b, 0, none⟩), .int .i64 s, dv d] w fun e w' => e = .returned (.bool true) ∧ RQ b A w (R ++ [⟨(s : Int), d⟩]) w' := by
  have := put_R b A R (s : Int) d w h hf
  rw [(putB_new hs hno).1, (putB_new hs hno).2] at this
  exact this
/-- what is read while a timer is stored: its two cells, and the pointer to the ring. -/
def SC (u : World) (X : Nat) (d : Du) (p k rb : Nat) : Prop := u.cell? ⟨X, 0, none⟩ = some (.int .i64 d.id) ∧ u.cell? ⟨X, 1, none⟩ = some (.int .u64 (d.t : Nat)) ∧ u.cell? ⟨p, 2 + k, none⟩ = some (.pointer (some ⟨rb, 0, none⟩))
theorem RQ.frm {b : Nat} {A : Array Value} {w w' : World} {R : List La} (h : RQ b A w R w') : Frm (foot b A) w w' := let ⟨_, _, f, _⟩ := h; f
theorem WQ.pre {w u w' : World} {S : Sh} {now : Nat} {D : DataW Unit} {R : Nat → List La} {B : List Du} (h : WQ S u now D R B w') (g : Grw w u) : WQ S w now D R B w' := by
  obtain ⟨S', e, h1, h2, h3⟩ := h
  exact ⟨S', e, h1, (g.frm _).trans h2 (fun _ e => Or.inl e), fun q hq => (h3 q hq).imp id (fun c => Nat.le_trans (Below.size g) c)⟩
set_option maxHeartbeats 4000000 in
set_option maxRecDepth 100000 in
theorem store_in (S : Sh) (now : Nat) (D : DataW Unit) (R : Nat → List La) (B : List Du) (d : Du) (k : Nat) (w : World) (h : WG w S now D R B) (hk : VM.lvl now d.t = k) (hk6 : k < 6) (hn : now < 2 ^ 64) (ht : d.t < 2 ^ 64) (hf : (R k).length < 1000) (hno : hasId (R k) d.id = false) :
    Calls Tryd.prog 33 #[.pointer (some ⟨S.p, 0, none⟩), dv d] w fun e w' => e = .returned (.tuple #[]) ∧ WQ S w now D (updN R k (R k ++ [VM.la k d])) B w' := by
  obtain ⟨s, hs⟩ : ∃ s, VM.dg d.t k = s := ⟨_, rfl⟩
  have hs64 : s < 64 := by rw [← hs]; exact VM.dg_lt _ _
  have hpos : posS now d.t = (s : Int) := by unfold posS; rw [if_neg (by omega), hk, hs]
  have hla : VM.la k d = ⟨(s : Int), d⟩ := by unfold VM.la; rw [hs]
  rw [hla]
  obtain ⟨di, dt⟩ := d
  simp only at hk ht hpos hno
  have G := Lib.hid h
  have PO := Lib.hid (fun u (g : Grw w u) => position_is S.p now dt s k u (h.later g).cells.c0 hn ht hpos hk)
  have PA := Lib.hid (fun u => parts_any (s : Int) (k : Int) u (by omega) (by omega) (by omega) (by omega))
  have PU := fun u (g : Grw w u) => put_new (S.rb k) (S.A k) (R k) s ⟨di, dt⟩ u ((h.later g).ring k hk6) hf hs64 hno
  unfold dv at PU
  simp only at PU
  have PU := Lib.hid PU
  have hki : (k : Int) < 6 := by omega
  have PT := Lib.hid (fun u (g : Grw w u) => (h.later g).ptr hk6)
  have NF : Hid (¬ foot (S.rb k) (S.A k) w.heap.size ∧ ¬ foot (S.rb k) (S.A k) S.p) := (⟨fun e => by have := (h.ring k hk6).ring.foot_lt e; omega, fun e => by have := h.apart (k + 3) 0 S.p ⟨hk6, e⟩ rfl; omega⟩ : ¬ foot (S.rb k) (S.A k) w.heap.size ∧ ¬ foot (S.rb k) (S.A k) S.p)
  clear h hn ht hpos hk hs hla hf hno
  unfold dv
  simp only
  go_enter Tryd.func33, Tryd.ntmps33
  go_wp2_with fail
  refine (PO.out _ ((Grw.rfl' _).alloc _)).mono ?_
  rintro _ w1 ⟨rfl, hg1⟩
  have K := Kp.grown hg1
  have G1 := Lib.hid hg1.two
  have c0 := K.t.c0
  have c1 := K.t.c1
  have c2 := PT.out _ G1.out
  clear hg1 K
  go_wp2_with fail
  refine (PA.out _).mono ?_
  rintro _ w2 ⟨rfl, rfl⟩
  go_wp2_with fail
  go_region_held3 (fun u => u.cell? ⟨w.heap.size, 0, none⟩ = some (.int .i64 di) ∧ u.cell? ⟨w.heap.size, 1, none⟩ = some (.int .u64 dt) ∧ u.cell? ⟨S.p, 2 + k, none⟩ = some (.pointer (some ⟨S.rb k, 0, none⟩))) (first | go_keep | exact xa)
    (first | (go_at_call 52; refine (PU.out w1.drew G1.out.drew).mono ?_; rintro _ y1 ⟨rfl, hq1⟩; have xa : y1.cell? ⟨w.heap.size, 0, none⟩ = some (.int .i64 di) ∧ y1.cell? ⟨w.heap.size, 1, none⟩ = some (.int .u64 dt) ∧ y1.cell? ⟨S.p, 2 + k, none⟩ = some (.pointer (some ⟨S.rb k, 0, none⟩)) := ⟨hq1.frm.cell c0 NF.out.1, hq1.frm.cell c1 NF.out.1, hq1.frm.cell c2 NF.out.2⟩))
  have U := Lib.hid (WG.ringStep (G.out.later G1.out.drew) hk6 hq1)
  clear hq1 xa c0 c1 c2
  go_wp2_with fail
  exact bodyPost_ret (v := .tuple #[]) (by simp [results, Tryd.results33, go_sem]) rfl ⟨rfl, U.out.pre G1.out.drew⟩
end Go.Proofs.YtjkhgpdhhnfmlaaDoor
