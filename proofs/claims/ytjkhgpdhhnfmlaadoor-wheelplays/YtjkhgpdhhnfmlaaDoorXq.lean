/- A wheel of one's own; the contract of the laws' own wakes at this program. -/
import Derived.Test.YtjkhgpdhhnfmlaaDoorXp
namespace Go.Proofs.YtjkhgpdhhnfmlaaDoor
open Go.RowKit TM MK
open RG (Du La listR putB putR dropR dropO takeR hasId Srt)
open VM (RK BK lvl idsD)
set_option linter.unusedSimpArgs false

/-- a wheel at p, made since the world w0. -/
def MW (w0 w : World) (p now : Nat) (L : List Du) : Prop := ∃ S, S.p = p ∧ WR w S now L ∧ (∀ g, wfoot S g → w0.heap.size ≤ g) ∧ Grw w0 w
theorem MW.grw {w0 w : World} {p now : Nat} {L : List Du} (h : MW w0 w p now L) : Grw w0 w := let ⟨_, _, _, _, g⟩ := h; g
theorem MW.tab {w0 w : World} {p now : Nat} {L : List Du} (h : MW w0 w p now L) : Tab w := let ⟨_, _, g, _⟩ := h; g.tab
theorem MW.gl {w0 w : World} {p now : Nat} {L : List Du} (h : MW w0 w p now L) : GL now L := let ⟨_, _, g, _⟩ := h; g.gl
theorem MW.later {w0 w x : World} {p now : Nat} {L : List Du} (h : MW w0 w p now L) (g : Grw w x) : MW w0 x p now L :=
  let ⟨S, e, h1, h2, h3⟩ := h; ⟨S, e, h1.later g, h2, h3.trans g⟩
theorem WRQ.mw {w0 w w' : World} {S : Sh} {now : Nat} {L : List Du} (h : WRQ S w now L w') (m : ∀ g, wfoot S g → w0.heap.size ≤ g) (g : Grw w0 w) : MW w0 w' S.p now L := by
  obtain ⟨S', e, h1, h2, h3⟩ := h
  refine ⟨S', e, h1, fun q hq => ?_, h2.grw g m⟩
  rcases h3 q hq with c | c
  · exact m q c
  · exact Nat.le_trans (Below.size g) c
theorem new_M (now : Nat) (w : World) (t : Tab w) (hn : now < 2 ^ 64) : Calls Tryd.prog 6 #[.int .u64 now] w fun e w' => ∃ p, e = .returned (.pointer (some ⟨p, 0, none⟩)) ∧ MW w w' p now [] :=
  (new_W now w t hn).mono fun _ _ ⟨S, he, h1, h2, h3⟩ => ⟨S.p, he, S, rfl, h1, h3, h2⟩
theorem insert_M (w0 : World) (p now : Nat) (L L' : List Du) (i : Int) (t : Nat) (r : Int) (w : World) (h : MW w0 w p now L) (hi : Wi i) (ht : t < 2 ^ 64) (hf : L.length < 900) (h1 : insE now L i t = r) (h2 : insL now L i t = L') :
    Calls Tryd.prog 9 #[.pointer (some ⟨p, 0, none⟩), .int .i64 i, .int .u64 t] w fun e w' => e = .returned (.int .i64 r) ∧ MW w0 w' p now L' := by
  obtain ⟨S, rfl, h3, h4, h5⟩ := h
  subst h1 h2
  exact (insert_W S now L i t w h3 hi ht hf).mono fun _ _ ⟨he, hq⟩ => ⟨he, hq.mw h4 h5⟩
theorem cancel_M (w0 : World) (p now : Nat) (L L' : List Du) (i : Int) (c : Nat) (o : Bool) (w : World) (h : MW w0 w p now L) (hi : Wi i) (h1 : (atO L i).getD 0 = c) (h2 : (atO L i).isSome = o) (h3 : VM.del i L = L') :
    Calls Tryd.prog 11 #[.pointer (some ⟨p, 0, none⟩), .int .i64 i] w fun e w' => e = .returned (.tuple #[.int .u64 (c : Nat), .bool o]) ∧ MW w0 w' p now L' := by
  obtain ⟨S, rfl, h4, h5, h6⟩ := h
  subst h1 h2 h3
  exact (cancel_W S now L i w h4 hi).mono fun _ _ ⟨he, hq⟩ => ⟨he, hq.mw h5 h6⟩
theorem place_M (w0 : World) (p now : Nat) (L : List Du) (i : Int) (a b : Nat) (o : Bool) (w : World) (h : MW w0 w p now L) (hi : Wi i) (h1 : plS now (atO L i) = a) (h2 : plL now (atO L i) = b) (h3 : (atO L i).isSome = o) :
    Calls Tryd.prog 18 #[.pointer (some ⟨p, 0, none⟩), .int .i64 i] w fun e w' => e = .returned (.tuple #[.complex .f64 a b, .bool o]) ∧ Grw w w' := by
  obtain ⟨S, rfl, h4, _, _⟩ := h
  exact place_W S now L i a b o w h4 hi h1 h2 h3
theorem at_M (w0 : World) (p now : Nat) (L : List Du) (i : Int) (c : Nat) (o : Bool) (w : World) (h : MW w0 w p now L) (hi : Wi i) (h1 : (atO L i).getD 0 = c) (h2 : (atO L i).isSome = o) :
    Calls Tryd.prog 20 #[.pointer (some ⟨p, 0, none⟩), .int .i64 i] w fun e w' => e = .returned (.tuple #[.int .u64 (c : Nat), .bool o]) ∧ w = w' := by
  obtain ⟨S, rfl, h4, _, _⟩ := h
  exact at_W S now L i c o w h4 hi h1 h2
theorem now_M (w0 : World) (p now : Nat) (L : List Du) (w : World) (h : MW w0 w p now L) : Calls Tryd.prog 26 #[.pointer (some ⟨p, 0, none⟩)] w fun e w' => e = .returned (.int .u64 (now : Nat)) ∧ w = w' := by
  obtain ⟨S, rfl, h4, _, _⟩ := h
  exact now_W S now L w h4
theorem len_M (w0 : World) (p now : Nat) (L : List Du) (n : Nat) (w : World) (h : MW w0 w p now L) (hn : L.length = n) : Calls Tryd.prog 30 #[.pointer (some ⟨p, 0, none⟩)] w fun e w' => e = .returned (.int .i64 (n : Nat)) ∧ w = w' := by
  obtain ⟨S, rfl, h4, _, _⟩ := h
  exact len_W S now L n w h4 hn
theorem load_M (w0 : World) (p now : Nat) (L : List Du) (w : World) (h : MW w0 w p now L) : Calls Tryd.prog 43 #[.pointer (some ⟨p, 0, none⟩)] w (LoadQ now L w) := by
  obtain ⟨S, rfl, h4, _, _⟩ := h
  exact load_W S now L w h4
theorem first_M (w0 : World) (p now : Nat) (L : List Du) (w : World) (h : MW w0 w p now L) : Calls Tryd.prog 37 #[.pointer (some ⟨p, 0, none⟩)] w (FirstQ L w) := by
  obtain ⟨S, rfl, h4, _, _⟩ := h
  exact first_W S now L w h4
theorem advance_M (w0 : World) (p now n to : Nat) (L L' l : List Du) (w : World) (h : MW w0 w p now L) (hs : to < 2 ^ 64) (ht : now + n = to) (h1 : L.dropWhile (dueP to) = L') (h2 : L.takeWhile (dueP to) = l) :
    Calls Tryd.prog 15 #[.pointer (some ⟨p, 0, none⟩), .int .u64 n] w fun e w' => ∃ v, e = .returned (.tuple #[v, .int .i64 0]) ∧ RowD w' v l ∧ MW w0 w' p to L' := by
  obtain ⟨S, rfl, h4, h5, h6⟩ := h
  subst ht h1 h2
  refine (advance_ok S now n L w h4 hs).mono ?_
  rintro e w' ⟨v, S', he, hr, hp, g1, g2, g3, _⟩
  exact ⟨v, he, hr, WRQ.mw ⟨S', hp, g1, g2, g3⟩ h5 h6⟩
theorem advance_M_no (w0 : World) (p now n : Nat) (L : List Du) (w : World) (h : MW w0 w p now L) (hn : n < 2 ^ 64) (hs : ¬ now + n < 2 ^ 64) :
    Calls Tryd.prog 15 #[.pointer (some ⟨p, 0, none⟩), .int .u64 n] w fun e w' => e = .returned (.tuple #[.slice none 0 0, .int .i64 14]) ∧ w = w' := by
  obtain ⟨S, rfl, h4, h5, h6⟩ := h
  exact advance_no S now n L w h4 hn hs
theorem pop_M_hit (w0 : World) (p now to : Nat) (d : Du) (l : List Du) (w : World) (h : MW w0 w p now (d :: l)) (hle : d.t ≤ to) :
    Calls Tryd.prog 13 #[.pointer (some ⟨p, 0, none⟩), .int .u64 to] w fun e w' => e = .returned (.tuple #[.agg #[.int .i64 d.id, .int .u64 (d.t : Nat)], .bool true]) ∧ MW w0 w' p d.t l := by
  obtain ⟨S, rfl, h4, h5, h6⟩ := h
  exact (pop_hit S now d l to w h4 hle).mono fun _ _ ⟨he, hq⟩ => ⟨he, hq.mw h5 h6⟩
theorem pop_M_miss (w0 : World) (p now to nw : Nat) (L : List Du) (w : World) (h : MW w0 w p now L) (hto : to < 2 ^ 64) (hL : ∀ d ∈ L, to < d.t) (hn : max now to = nw) :
    Calls Tryd.prog 13 #[.pointer (some ⟨p, 0, none⟩), .int .u64 to] w fun e w' => e = .returned (.tuple #[.agg #[.int .i64 0, .int .u64 0], .bool false]) ∧ MW w0 w' p nw L := by
  obtain ⟨S, rfl, h4, h5, h6⟩ := h
  subst hn
  exact (pop_miss S now L to w h4 hto hL).mono fun _ _ ⟨he, hq⟩ => ⟨he, hq.mw h5 h6⟩
theorem wi_small (i : Int) (h : -1000 ≤ i ∧ i ≤ 1000) : Wi i := ⟨by omega, by omega⟩
theorem eqA : (FloatKind.f64.format.order 4617315517961601024 4617315517961601024 == some .eq) = true := by decide +kernel
theorem eqB : (FloatKind.f64.format.order 4607182418800017408 4607182418800017408 == some .eq) = true := by decide +kernel
theorem eqC : (FloatKind.f64.format.order 4618441417868443648 4618441417868443648 == some .eq) = true := by decide +kernel
theorem eqO : (FloatKind.f64.format.order 0 0 == some .eq) = true := by decide +kernel
set_option maxHeartbeats 4000000 in
set_option maxRecDepth 100000 in
theorem wakes_any (w : World) (t : Tab w) : Calls Tryd.prog 23 #[] w fun e w' => e = .returned (.bool true) ∧ Grw w w' := by
  have N := Lib.hid (new_M 0 w t (by decide))
  have I1 := Lib.hid (fun p u (h : MW w u p 0 []) => insert_M w p 0 [] [⟨1, 5⟩] 1 5 0 u h (wi_small 1 (by omega)) (by decide) (by decide) (by decide) (by decide))
  have I2 := Lib.hid (fun p u (h : MW w u p 0 [⟨1, 5⟩]) => insert_M w p 0 [⟨1, 5⟩] [⟨1, 5⟩, ⟨2, 70⟩] 2 70 0 u h (wi_small 2 (by omega)) (by decide) (by decide) (by decide) (by decide))
  have I3 := Lib.hid (fun p u (h : MW w u p 0 [⟨1, 5⟩, ⟨2, 70⟩]) => insert_M w p 0 [⟨1, 5⟩, ⟨2, 70⟩] [⟨1, 5⟩, ⟨2, 70⟩] 2 9 8 u h (wi_small 2 (by omega)) (by decide) (by decide) (by decide) (by decide))
  have I4 := Lib.hid (fun p u (h : MW w u p 0 [⟨1, 5⟩, ⟨2, 70⟩]) => insert_M w p 0 [⟨1, 5⟩, ⟨2, 70⟩] [⟨1, 5⟩, ⟨2, 70⟩] 3 0 9 u h (wi_small 3 (by omega)) (by decide) (by decide) (by decide) (by decide))
  have P1 := Lib.hid (fun p u (h : MW w u p 0 [⟨1, 5⟩, ⟨2, 70⟩]) => place_M w p 0 [⟨1, 5⟩, ⟨2, 70⟩] 1 4617315517961601024 0 true u h (wi_small 1 (by omega)) (by decide +kernel) (by decide +kernel) (by decide))
  have P2 := Lib.hid (fun p u (h : MW w u p 0 [⟨1, 5⟩, ⟨2, 70⟩]) => place_M w p 0 [⟨1, 5⟩, ⟨2, 70⟩] 2 4607182418800017408 4607182418800017408 true u h (wi_small 2 (by omega)) (by decide +kernel) (by decide +kernel) (by decide))
  have AD := Lib.hid (fun p u (h : MW w u p 0 [⟨1, 5⟩, ⟨2, 70⟩]) => advance_M w p 0 64 64 [⟨1, 5⟩, ⟨2, 70⟩] [⟨2, 70⟩] [⟨1, 5⟩] u h (by decide) rfl (by decide) (by decide))
  have P3 := Lib.hid (fun p u (h : MW w u p 64 [⟨2, 70⟩]) => place_M w p 64 [⟨2, 70⟩] 2 4618441417868443648 0 true u h (wi_small 2 (by omega)) (by decide +kernel) (by decide +kernel) (by decide))
  have NO := Lib.hid (fun p u (h : MW w u p 64 [⟨2, 70⟩]) => now_M w p 64 [⟨2, 70⟩] u h)
  have ea := eqA
  have eb := eqB
  have ec := eqC
  have eo := eqO
  clear t
  go_enter Tryd.func23, Tryd.ntmps23
  go_wp2_with fail
  refine N.out.mono ?_
  rintro _ w1 ⟨p, rfl, hm⟩
  have M1 := Lib.hid hm
  clear hm
  go_wp2_with fail
  refine (I1.out p _ M1.out).mono ?_
  rintro _ w2 ⟨rfl, hm⟩
  have M2 := Lib.hid hm
  clear hm
  go_wp2_with fail
  refine (I2.out p _ M2.out).mono ?_
  rintro _ w3 ⟨rfl, hm⟩
  have M3 := Lib.hid hm
  clear hm
  go_wp2_with fail
  refine (I3.out p _ M3.out).mono ?_
  rintro _ w4 ⟨rfl, hm⟩
  have M4 := Lib.hid hm
  clear hm
  go_wp2_with fail
  refine (I4.out p _ M4.out).mono ?_
  rintro _ w5 ⟨rfl, hm⟩
  have M5 := Lib.hid hm
  clear hm
  go_wp2_with fail
  refine (P1.out p _ M5.out).mono ?_
  rintro _ w6 ⟨rfl, hg⟩
  have M6 := Lib.hid (M5.out.later hg)
  clear hg
  go_wp2_with fail
  refine (P2.out p _ M6.out).mono ?_
  rintro _ w7 ⟨rfl, hg⟩
  have M7 := Lib.hid (M6.out.later hg)
  clear hg
  go_wp2_with fail
  refine (AD.out p _ M7.out).mono ?_
  rintro _ w8 ⟨v, rfl, hrow, hm⟩
  obtain ⟨ao, cap, rfl, hl⟩ := hrow
  have M8 := Lib.hid hm
  have LL := Lib.hid hl
  clear hm hl
  go_wp2_with fail
  refine (P3.out p _ M8.out).mono ?_
  rintro _ w9 ⟨rfl, hg⟩
  have M9 := Lib.hid (M8.out.later hg)
  obtain ⟨rb, off, rfl, c0, c1⟩ := lies_at (LL.out.later hg) (j := 0) (by decide)
  simp only [Nat.zero_mul, Nat.add_zero, List.getElem_cons_zero] at c0 c1
  have NX := Lib.hid (NO.out p _ M9.out)
  clear hg
  go_wp2_with fail
  refine NX.out.mono ?_
  rintro _ w10 ⟨rfl, rfl⟩
  go_wp2_with fail
  go_ret
  exact ⟨rfl, M9.out.grw⟩
end Go.Proofs.YtjkhgpdhhnfmlaaDoor
