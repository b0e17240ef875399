/- Both rings in memory, side by side. -/
import Derived.Test.YtlihcljjpalapaaDoorLa
import Derived.Test.YtlihcljjpalapaaDoorSf
import Derived.Test.YtlihcljjpalapaaDoorOa
namespace Go.Proofs.YtlihcljjpalapaaDoor
open Go.RowKit MK
open RG (Du La listR putB putR dropR dropO takeR hasId inSlot)
set_option linter.unusedSimpArgs false

/-- the program's ring and the document's, each in blocks of its own, made since w0, hold the same. -/
structure Both (w0 w : World) (b : Nat) (A : Array Value) (q : Nat) (v : Value) (R : List La) : Prop where
  ring : RingR w b A R
  ref : RefL w q v R
  m1 : Mine w0 b A
  m2 : ∀ g, rfoot q v g → w0.heap.size ≤ g
  dis : ∀ g, foot b A g → ¬ rfoot q v g
  grw : Grw w0 w
theorem Both.later {w0 w x : World} {b : Nat} {A : Array Value} {q : Nat} {v : Value} {R : List La} (h : Both w0 w b A q v R) (g : Grw w x) : Both w0 x b A q v R :=
  ⟨h.ring.later g, h.ref.later g, h.m1, h.m2, h.dis, h.grw.trans g⟩
theorem Both.ref1 {w0 w y : World} {b : Nat} {A : Array Value} {q : Nat} {v : Value} {R R' : List La} (h : Both w0 w b A q v R) (h1 : RQ b A w R' y) : RefL y q v R :=
  let ⟨_, _, f1, _⟩ := h1; h.ref.frm f1 (fun k hk c => h.dis k c hk)
theorem Both.step {w0 w y1 y2 : World} {b : Nat} {A : Array Value} {q : Nat} {v : Value} {R R' : List La} (h : Both w0 w b A q v R) (h1 : RQ b A w R' y1) (h2 : RefQ q v y1 R' y2) : ∃ A' v', Both w0 y2 b A' q v' R' := by
  obtain ⟨A', r1, f1, t1⟩ := h1
  obtain ⟨v', r2, f2, t2⟩ := h2
  have old : ∀ k, foot b A' k → ¬ rfoot q v k := fun k hk c => by
    rcases t1 k hk with e | e
    · exact h.dis k e c
    · have := h.ref.foot_lt c
      omega
  have g1 := f1.grw h.grw h.m1
  refine ⟨A', v', r1.frm f2 old, r2, fun k hk => ?_, fun k hk => ?_, fun k hk c => ?_, f2.grw g1 h.m2⟩
  · rcases t1 k hk with e | e
    · exact h.m1 k e
    · exact Nat.le_trans (Below.size h.grw) e
  · rcases t2 k hk with e | e
    · exact h.m2 k e
    · exact Nat.le_trans (Below.size g1) e
  · rcases t2 k c with e | e
    · exact old k hk e
    · have := r1.ring.foot_lt hk
      omega
/-- the four cells of an act that lies in a block of its own. -/
def X4 (u : World) (X : Nat) (a : Ac) : Prop := u.cell? ⟨X, 0, none⟩ = some (.int .i64 a.dd) ∧ u.cell? ⟨X, 1, none⟩ = some (.int .i64 a.s) ∧ u.cell? ⟨X, 2, none⟩ = some (.int .i64 a.d.id) ∧ u.cell? ⟨X, 3, none⟩ = some (.int .u64 (a.d.t : Nat))
theorem X4.frm {F : Nat → Prop} {u y : World} {X : Nat} {a : Ac} (h : X4 u X a) (g : Frm F u y) (hn : ¬ F X) : X4 y X a := ⟨g.cell h.1 hn, g.cell h.2.1 hn, g.cell h.2.2.1 hn, g.cell h.2.2.2 hn⟩
theorem X4.new (w : World) (a : Ac) : X4 (w.alloc (.cells #[.int .i64 a.dd, .int .i64 a.s, .int .i64 a.d.id, .int .u64 (a.d.t : Nat)] 33)) w.heap.size a := ⟨by simp [go_sem], by simp [go_sem], by simp [go_sem], by simp [go_sem]⟩
theorem RQ.x4 {w y : World} {b : Nat} {A : Array Value} {R' : List La} (h : RQ b A w R' y) {X : Nat} {a : Ac} (x : X4 w X a) (hn : ¬ foot b A X) : X4 y X a := let ⟨_, _, f, _⟩ := h; x.frm f hn
theorem RefQ.x4 {w y : World} {q : Nat} {v : Value} {R' : List La} (h : RefQ q v w R' y) {X : Nat} {a : Ac} (x : X4 w X a) (hn : ¬ rfoot q v X) : X4 y X a := let ⟨_, _, f, _⟩ := h; x.frm f hn
/-- Take, told with the block of what is given away. -/
def TakeQ2 (b : Nat) (A : Array Value) (w : World) (l : List Du) (R' : List La) (e : Ending) (w' : World) : Prop := ∃ v, e = .returned v ∧ RowD w' v l ∧ RQ b A w R' w' ∧ ∀ g, v.ownBlock = some g → foot b A g
set_option maxRecDepth 100000 in
theorem take_in2 (b : Nat) (A : Array Value) (R : List La) (s : Nat) (w : World) (h : RingR w b A R) (hs : s < 64) :
    Calls Tryd.prog 13 #[.pointer (some ⟨b, 0, none⟩), .int .i64 s] w (TakeQ2 b A w (listR R (s : Int)) (takeR R (s : Int))) := by
  obtain ⟨v, hv⟩ := h.ring.at hs
  have ho := h.ring.own s v hv
  obtain ⟨ao, cap, rfl, hl⟩ := ownsRow_lies ho
  have hc := h.ring.cells s _ hv
  have hf := h.ring.free s
  have FT : Hid (∀ g, (Value.slice ao (LR R s).length cap).ownBlock = some g → foot b A g) := (fun g e => Or.inr ⟨s, _, hv, e⟩ : ∀ g, (Value.slice ao (LR R s).length cap).ownBlock = some g → foot b A g)
  have U := Lib.hid (rq_of (R := takeR R (s : Int)) (ringQ_set h.ring (Grw.rfl' w) (v' := .slice none 0 0) (l := []) hv (Frm.rfl' _ w) (World.ownsRow_nil _ _ _ _) (Or.inr (Or.inl rfl))) (fun k _ => LR_take R s k) (h.good.takeR _) (Nat.le_trans (takeR_len _ _) h.few))
  have RD := Lib.hid (show RowD (w.setCell ⟨b, s, none⟩ (.slice none 0 0)) (.slice ao (LR R s).length cap) (LR R s) from ⟨ao, cap, rfl, hl.frm (frm_set (F := fun k => k = b) w ⟨b, s, none⟩ _ rfl) (fun a e c => h.ring.ne s _ hv (by rw [e]; exact congrArg some c))⟩)
  have H := Lib.hid (has_yes ⟨b, 0, none⟩ s w hs)
  obtain ⟨n, hn⟩ : ∃ n, (LR R s).length = n := ⟨_, rfl⟩
  rw [hn] at hc RD FT
  have hsi : (s : Int) < 64 := by omega
  clear h ho hl hv hn
  go_enter Tryd.func13, Tryd.ntmps13
  go_wp2_with fail
  refine H.out.mono ?_
  rintro _ w1 ⟨rfl, rfl⟩
  go_wp2_with fail
  go_ret
  exact ⟨_, rfl, RD.out, U.out, FT.out⟩
theorem take_out2 (b : Nat) (A : Array Value) (R : List La) (i : Int) (w : World) (h : RingR w b A R) (hs : ¬ (0 ≤ i ∧ i < 64)) :
    Calls Tryd.prog 13 #[.pointer (some ⟨b, 0, none⟩), .int .i64 i] w (TakeQ2 b A w (listR R i) (takeR R i)) := by
  rw [(listR_out h.good hs).1, (listR_out h.good hs).2]
  have R1 := Lib.hid (rq_of (ringQ_same h.ring (Grw.rfl' w)) (fun _ _ => rfl) h.good h.few)
  have H := Lib.hid (has_no ⟨b, 0, none⟩ i w hs)
  clear h hs
  go_enter Tryd.func13, Tryd.ntmps13
  go_wp2_with fail
  refine H.out.mono ?_
  rintro _ w1 ⟨rfl, rfl⟩
  go_wp2_with fail
  go_ret
  exact ⟨_, rfl, ⟨none, 0, rfl, Or.inl rfl⟩, R1.out, fun g e => by cases e⟩
theorem take_R2 (b : Nat) (A : Array Value) (R : List La) (i : Int) (w : World) (h : RingR w b A R) :
    Calls Tryd.prog 13 #[.pointer (some ⟨b, 0, none⟩), .int .i64 i] w (TakeQ2 b A w (listR R i) (takeR R i)) := by
  by_cases hs : 0 ≤ i ∧ i < 64
  · obtain ⟨s, rfl⟩ := Int.eq_ofNat_of_zero_le hs.1
    exact take_in2 b A R s w h (by omega)
  · exact take_out2 b A R i w h hs
theorem RefQ.row {w y : World} {q : Nat} {v : Value} {R' : List La} (h : RefQ q v w R' y) {u : Value} {l : List Du} (r : RowD w u l) (hn : ∀ g, u.ownBlock = some g → ¬ rfoot q v g) : RowD y u l := let ⟨_, _, f, _⟩ := h; r.frm f hn
end Go.Proofs.YtlihcljjpalapaaDoor
