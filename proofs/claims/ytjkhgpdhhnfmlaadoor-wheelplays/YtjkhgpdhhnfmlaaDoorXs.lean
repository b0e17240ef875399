/- A wheel of one's own beside blocks that are not its own. -/
import Derived.Test.YtjkhgpdhhnfmlaaDoorXr
namespace Go.Proofs.YtjkhgpdhhnfmlaaDoor
open Go.RowKit TM MK
open RG (Du La listR putB putR dropR dropO takeR hasId Srt)
open VM (RK BK lvl idsD)
set_option linter.unusedSimpArgs false

/-- a wheel at p, made since w0; the blocks that F names are none of its. -/
def MF (w0 w : World) (p now : Nat) (L : List Du) (F : Nat → Prop) : Prop := ∃ S, S.p = p ∧ WR w S now L ∧ (∀ g, wfoot S g → w0.heap.size ≤ g) ∧ Grw w0 w ∧ ∀ k, F k → k < w.heap.size ∧ ¬ wfoot S k
theorem MW.mf {w0 w : World} {p now : Nat} {L : List Du} (h : MW w0 w p now L) : MF w0 w p now L (fun _ => False) := let ⟨S, e, h1, h2, h3⟩ := h; ⟨S, e, h1, h2, h3, fun _ c => c.elim⟩
theorem MF.mw {w0 w : World} {p now : Nat} {L : List Du} {F : Nat → Prop} (h : MF w0 w p now L F) : MW w0 w p now L := let ⟨S, e, h1, h2, h3, _⟩ := h; ⟨S, e, h1, h2, h3⟩
theorem MF.grw {w0 w : World} {p now : Nat} {L : List Du} {F : Nat → Prop} (h : MF w0 w p now L F) : Grw w0 w := h.mw.grw
theorem MF.lt {w0 w : World} {p now : Nat} {L : List Du} {F : Nat → Prop} (h : MF w0 w p now L F) {k : Nat} (hk : F k) : k < w.heap.size := let ⟨_, _, _, _, _, h4⟩ := h; (h4 k hk).1
theorem MF.later {w0 w x : World} {p now : Nat} {L : List Du} {F : Nat → Prop} (h : MF w0 w p now L F) (g : Grw w x) : MF w0 x p now L F :=
  let ⟨S, e, h1, h2, h3, h4⟩ := h; ⟨S, e, h1.later g, h2, h3.trans g, fun k hk => ⟨Nat.lt_of_lt_of_le (h4 k hk).1 (Below.size g), (h4 k hk).2⟩⟩
theorem MF.mono {w0 w : World} {p now : Nat} {L : List Du} {F G : Nat → Prop} (h : MF w0 w p now L F) (e : ∀ k, G k → F k) : MF w0 w p now L G :=
  let ⟨S, e1, h1, h2, h3, h4⟩ := h; ⟨S, e1, h1, h2, h3, fun k hk => h4 k (e k hk)⟩
/-- new blocks are none of its. -/
theorem MF.add {w0 w x : World} {p now : Nat} {L : List Du} {F G : Nat → Prop} (h : MF w0 w p now L F) (g : Grw w x) (e : ∀ k, G k → F k ∨ (w.heap.size ≤ k ∧ k < x.heap.size)) : MF w0 x p now L G := by
  obtain ⟨S, e1, h1, h2, h3, h4⟩ := h
  refine ⟨S, e1, h1.later g, h2, h3.trans g, fun k hk => ?_⟩
  rcases e k hk with c | c
  · exact ⟨Nat.lt_of_lt_of_le (h4 k c).1 (Below.size g), (h4 k c).2⟩
  · exact ⟨c.2, fun q => by have := h1.lt q; omega⟩
/-- what writes those blocks leaves the wheel alone. -/
theorem MF.put {w0 w x : World} {p now : Nat} {L : List Du} {F G : Nat → Prop} (h : MF w0 w p now L F) (f : Frm G w x) (e : ∀ k, G k → F k ∧ w0.heap.size ≤ k) (h0 : 0 < w0.heap.size) : MF w0 x p now L F := by
  obtain ⟨S, e1, h1, h2, h3, h4⟩ := h
  refine ⟨S, e1, h1.frm f (fun k hk c => (h4 k (e k c).1).2 hk) (fun c => by have := (e 0 c).2; omega), h2, f.grw h3 (fun k hk => (e k hk).2), fun k hk => ⟨Nat.lt_of_lt_of_le (h4 k hk).1 f.size, (h4 k hk).2⟩⟩
theorem WRQ.mf {w0 w w' : World} {S : Sh} {now : Nat} {L : List Du} {F : Nat → Prop} (h : WRQ S w now L w') (m : ∀ g, wfoot S g → w0.heap.size ≤ g) (g : Grw w0 w) (hF : ∀ k, F k → k < w.heap.size ∧ ¬ wfoot S k) : MF w0 w' S.p now L F ∧ Frm (fun k => ¬ F k) w w' := by
  obtain ⟨S', e, h1, h2, h3⟩ := h
  refine ⟨⟨S', e, h1, fun q hq => ?_, h2.grw g m, fun k hk => ⟨Nat.lt_of_lt_of_le (hF k hk).1 h2.size, fun c => ?_⟩⟩, h2.mono (fun k hk c => (hF k c).2 hk)⟩
  · rcases h3 q hq with c | c
    · exact m q c
    · exact Nat.le_trans (Below.size g) c
  · rcases h3 k c with c | c
    · exact (hF k hk).2 c
    · have := (hF k hk).1; omega
theorem insert_F (w0 : World) (p now : Nat) (L L' : List Du) (F : Nat → Prop) (i : Int) (t : Nat) (r : Int) (w : World) (h : MF w0 w p now L F) (hi : Wi i) (ht : t < 2 ^ 64) (hf : L.length < 900) (h1 : insE now L i t = r) (h2 : insL now L i t = L') :
    Calls Tryd.prog 9 #[.pointer (some ⟨p, 0, none⟩), .int .i64 i, .int .u64 t] w fun e w' => e = .returned (.int .i64 r) ∧ MF w0 w' p now L' F ∧ Frm (fun k => ¬ F k) w w' := by
  obtain ⟨S, rfl, h3, h4, h5, h6⟩ := h
  subst h1 h2
  exact (insert_W S now L i t w h3 hi ht hf).mono fun _ _ ⟨he, hq⟩ => ⟨he, hq.mf h4 h5 h6⟩
theorem cancel_F (w0 : World) (p now : Nat) (L L' : List Du) (F : Nat → Prop) (i : Int) (c : Nat) (o : Bool) (w : World) (h : MF w0 w p now L F) (hi : Wi i) (h1 : (atO L i).getD 0 = c) (h2 : (atO L i).isSome = o) (h3 : VM.del i L = L') :
    Calls Tryd.prog 11 #[.pointer (some ⟨p, 0, none⟩), .int .i64 i] w fun e w' => e = .returned (.tuple #[.int .u64 (c : Nat), .bool o]) ∧ MF w0 w' p now L' F ∧ Frm (fun k => ¬ F k) w w' := by
  obtain ⟨S, rfl, h4, h5, h6, h7⟩ := h
  subst h1 h2 h3
  exact (cancel_W S now L i w h4 hi).mono fun _ _ ⟨he, hq⟩ => ⟨he, hq.mf h5 h6 h7⟩
theorem pop_F_hit (w0 : World) (p now to : Nat) (d : Du) (l : List Du) (F : Nat → Prop) (w : World) (h : MF w0 w p now (d :: l) F) (hle : d.t ≤ to) :
    Calls Tryd.prog 13 #[.pointer (some ⟨p, 0, none⟩), .int .u64 to] w fun e w' => e = .returned (.tuple #[.agg #[.int .i64 d.id, .int .u64 (d.t : Nat)], .bool true]) ∧ MF w0 w' p d.t l F ∧ Frm (fun k => ¬ F k) w w' := by
  obtain ⟨S, rfl, h4, h5, h6, h7⟩ := h
  exact (pop_hit S now d l to w h4 hle).mono fun _ _ ⟨he, hq⟩ => ⟨he, hq.mf h5 h6 h7⟩
theorem pop_F_miss (w0 : World) (p now to nw : Nat) (L : List Du) (F : Nat → Prop) (w : World) (h : MF w0 w p now L F) (hto : to < 2 ^ 64) (hL : ∀ d ∈ L, to < d.t) (hn : max now to = nw) :
    Calls Tryd.prog 13 #[.pointer (some ⟨p, 0, none⟩), .int .u64 to] w fun e w' => e = .returned (.tuple #[.agg #[.int .i64 0, .int .u64 0], .bool false]) ∧ MF w0 w' p nw L F ∧ Frm (fun k => ¬ F k) w w' := by
  obtain ⟨S, rfl, h4, h5, h6, h7⟩ := h
  subst hn
  exact (pop_miss S now L to w h4 hto hL).mono fun _ _ ⟨he, hq⟩ => ⟨he, hq.mf h5 h6 h7⟩
/-- Advance: the row that it hands over is none of the wheel's blocks. -/
def AdvF (w0 : World) (p now : Nat) (L l : List Du) (F : Nat → Prop) (w : World) (e : Ending) (w' : World) : Prop :=
  ∃ v, e = .returned (.tuple #[v, .int .i64 0]) ∧ RowD w' v l ∧ MF w0 w' p now L (fun k => F k ∨ v.ownBlock = some k) ∧ Frm (fun k => ¬ F k) w w' ∧ ∀ k, v.ownBlock = some k → w.heap.size ≤ k
theorem advance_F (w0 : World) (p now n to : Nat) (L L' l : List Du) (F : Nat → Prop) (w : World) (h : MF w0 w p now L F) (hs : to < 2 ^ 64) (ht : now + n = to) (h1 : L.dropWhile (dueP to) = L') (h2 : L.takeWhile (dueP to) = l) :
    Calls Tryd.prog 15 #[.pointer (some ⟨p, 0, none⟩), .int .u64 n] w (AdvF w0 p to L' l F w) := by
  obtain ⟨S, rfl, h4, h5, h6, h7⟩ := h
  subst ht h1 h2
  refine (advance_ok S now n L w h4 hs).mono ?_
  rintro e w' ⟨v, S', he, hr, hp, g1, g2, g3, g4⟩
  obtain ⟨⟨S2, e2, a1, a2, a3, a4⟩, b⟩ := WRQ.mf (F := F) ⟨S', hp, g1, g2, g3⟩ h5 h6 h7
  refine ⟨v, he, hr, ⟨S', hp, g1, fun q hq => ?_, a3, fun k hk => ?_⟩, b, fun k hk => (g4 k hk).1⟩
  · rcases g3 q hq with c | c
    · exact h5 q c
    · exact Nat.le_trans (Below.size h6) c
  · rcases hk with hk | hk
    · refine ⟨Nat.lt_of_lt_of_le (h7 k hk).1 g2.size, fun c => ?_⟩
      rcases g3 k c with c | c
      · exact (h7 k hk).2 c
      · have := (h7 k hk).1; omega
    · exact ⟨(g4 k hk).2.1, (g4 k hk).2.2⟩
theorem Kp.kept {F : Nat → Prop} {w x : World} {b : Nat} {c0 c1 : Value} (k : Kp w b c0 c1) (g : Frm (fun k => ¬ F k) w x) (hn : F b) : Kp x b c0 c1 := k.frm g (fun c => c hn)
end Go.Proofs.YtjkhgpdhhnfmlaaDoor
