/- The contracts of wheel.Cancel, At, Place, Len, Now, Pop at this program, told by the list of timers. -/
import Derived.Test.YtjkhgpdhhnfmlaaDoorXj
namespace Go.Proofs.YtjkhgpdhhnfmlaaDoor
open Go.RowKit TM MK
open RG (Du La listR putB putR dropR dropO takeR hasId Srt)
open VM (RK BK lvl idsD)
set_option linter.unusedSimpArgs false

theorem now_W (S : Sh) (now : Nat) (L : List Du) (w : World) (h : WR w S now L) : Calls Tryd.prog 26 #[.pointer (some ⟨S.p, 0, none⟩)] w fun e w' => e = .returned (.int .u64 (now : Nat)) ∧ w = w' :=
  let ⟨_, hwg, _⟩ := h.wg; now_any S.p now w hwg.cells.c0
theorem len_W (S : Sh) (now : Nat) (L : List Du) (n : Nat) (w : World) (h : WR w S now L) (hn : L.length = n) : Calls Tryd.prog 30 #[.pointer (some ⟨S.p, 0, none⟩)] w fun e w' => e = .returned (.int .i64 (n : Nat)) ∧ w = w' := by
  obtain ⟨D, hwg, hm⟩ := h.wg
  have := wlen_any S.p S.mb _ D w hwg.cells.c1 hwg.mp
  rw [hm.size, hn] at this
  exact this
theorem at_W (S : Sh) (now : Nat) (L : List Du) (i : Int) (c : Nat) (o : Bool) (w : World) (h : WR w S now L) (hi : Wi i) (h1 : (atO L i).getD 0 = c) (h2 : (atO L i).isSome = o) :
    Calls Tryd.prog 20 #[.pointer (some ⟨S.p, 0, none⟩), .int .i64 i] w fun e w' => e = .returned (.tuple #[.int .u64 (c : Nat), .bool o]) ∧ w = w' := by
  obtain ⟨D, hwg, hm⟩ := h.wg
  have hl := hm.look i
  rw [h1, h2] at hl
  exact wat_any S.p S.mb _ D i c o w hwg.cells.c1 hwg.mp hi hl.1 hl.2
/-- the position of a number. -/
def plS (now : Nat) (o : Option Nat) : Nat := match o with | none => 0 | some t => floatOfInt .f64 (posS now t)
def plL (now : Nat) (o : Option Nat) : Nat := match o with | none => 0 | some t => floatOfInt .f64 (lvl now t : Nat)
set_option maxRecDepth 100000 in
theorem place_W (S : Sh) (now : Nat) (L : List Du) (i : Int) (a b : Nat) (o : Bool) (w : World) (h : WR w S now L) (hi : Wi i) (h1 : plS now (atO L i) = a) (h2 : plL now (atO L i) = b) (h3 : (atO L i).isSome = o) :
    Calls Tryd.prog 18 #[.pointer (some ⟨S.p, 0, none⟩), .int .i64 i] w fun e w' => e = .returned (.tuple #[.complex .f64 a b, .bool o]) ∧ Grw w w' := by
  rcases e : atO L i with _ | t
  · rw [e] at h1 h2 h3
    have A := Lib.hid (at_W S now L i 0 false w h hi (by rw [e]; rfl) (by rw [e]; rfl))
    unfold plS at h1
    unfold plL at h2
    simp only at h1 h2
    subst h1 h2 h3
    clear h hi e
    go_enter Tryd.func18, Tryd.ntmps18
    go_wp2_with fail
    refine A.out.mono ?_
    rintro _ w1 ⟨rfl, rfl⟩
    go_wp2_with fail
    go_ret2
    exact ⟨rfl, Grw.rfl' _⟩
  · rw [e] at h1 h2 h3
    have A := Lib.hid (at_W S now L i t true w h hi (by rw [e]; rfl) (by rw [e]; rfl))
    obtain ⟨D, hwg, hm⟩ := h.wg
    have P := position_any S.p now t w hwg.cells.c0 h.gl.nw (h.gl.bd _ (atO_mem e)).2
    unfold plS at h1
    unfold plL at h2
    simp only at h1 h2
    rw [h1, h2] at P
    have P := Lib.hid P
    have h3' : o = true := h3.symm
    subst h3'
    clear h hwg hm hi e h1 h2 h3
    go_enter Tryd.func18, Tryd.ntmps18
    go_wp2_with fail
    refine A.out.mono ?_
    rintro _ w1 ⟨rfl, rfl⟩
    go_wp2_with fail
    refine P.out.mono ?_
    rintro _ w1 ⟨rfl, hg⟩
    have G := Lib.hid hg
    clear hg
    go_wp2_with fail
    go_ret2
    exact ⟨rfl, G.out⟩
set_option maxRecDepth 100000 in
theorem place_nil (i : Int) (w : World) : Calls Tryd.prog 18 #[.pointer none, .int .i64 i] w fun e w' => e = .returned (.tuple #[.complex .f64 0 0, .bool false]) ∧ Grw w w' := by
  have A := Lib.hid (wat_nil i w)
  go_enter Tryd.func18, Tryd.ntmps18
  go_wp2_with fail
  refine A.out.mono ?_
  rintro _ w1 ⟨rfl, rfl⟩
  go_wp2_with fail
  go_ret2
  exact ⟨rfl, Grw.rfl' _⟩
/-! ### Cancel -/
theorem GL.del {now : Nat} {L : List Du} (h : GL now L) (i : Int) : GL now (VM.del i L) :=
  ⟨RG.srt_filter h.srt _, h.ids.sublist ((List.filter_sublist).map _), fun x hx => h.bd x (List.mem_filter.1 hx).1, fun x hx => h.ge x (List.mem_filter.1 hx).1, Nat.le_trans (List.length_filter_le _ _) h.few, h.nw⟩
def CanQ (S : Sh) (w : World) (now : Nat) (c : Nat) (o : Bool) (L : List Du) (e : Ending) (w' : World) : Prop := e = .returned (.tuple #[.int .u64 (c : Nat), .bool o]) ∧ WRQ S w now L w'
set_option maxHeartbeats 4000000 in
set_option maxRecDepth 100000 in
theorem cancel_W (S : Sh) (now : Nat) (L : List Du) (i : Int) (w : World) (h : WR w S now L) (hi : Wi i) :
    Calls Tryd.prog 11 #[.pointer (some ⟨S.p, 0, none⟩), .int .i64 i] w (CanQ S w now ((atO L i).getD 0) (atO L i).isSome (VM.del i L)) := by
  rcases e : atO L i with _ | t
  · have A := Lib.hid (at_W S now L i 0 false w h hi (by rw [e]; rfl) (by rw [e]; rfl))
    rw [VM.del_no (atO_no e)]
    have H := Lib.hid h
    clear h hi e
    go_enter Tryd.func11, Tryd.ntmps11
    go_wp2_with fail
    refine A.out.mono ?_
    rintro _ w1 ⟨rfl, rfl⟩
    go_wp2_with fail
    go_ret2
    exact ⟨rfl, WRQ.same H.out (Grw.rfl' _)⟩
  · have A := Lib.hid (at_W S now L i t true w h hi (by rw [e]; rfl) (by rw [e]; rfl))
    obtain ⟨D, hwg, hm⟩ := h.wg
    have hd := atO_mem e
    have K := Lib.hid (Maps.keyOf_int_mk Tryd.underlying3 (wi_wf hi))
    have UN := Lib.hid (unstore_W S now D L ⟨i, t⟩ w hwg h.gl hd)
    have EN : Hid (∀ w1, WQ S w now D (RK now (VM.del i L)) (BK now (VM.del i L)) w1 → ∃ mb n, w1.cell? ⟨S.p, 1, none⟩ = some (.map (some mb)) ∧ w1.ownsMap Tryd.prog 3 (plainElem Tryd.prog 22) mb n D ∧ ∀ w2, w2.ownsMap Tryd.prog 3 (plainElem Tryd.prog 22) mb n (D.del (.int .i64 i)) → w1.mapTurned w2 mb → WRQ S w now (VM.del i L) w2) := (fun w1 hq => by
        obtain ⟨S', e1, h1, h2, h3⟩ := hq
        refine ⟨S'.mb, _, by rw [← e1]; exact h1.cells.c1, h1.mp, fun w2 hm2 ht2 => ?_⟩
        obtain ⟨g2, f2⟩ := h1.mapStep hm2 ht2
        exact WRQ.mk' h ⟨S', e1, g2, h2.trans f2 h3, h3⟩ (fun k _ => List.Perm.refl _) rfl (hm.del h.gl.ids hd) (h.gl.del i) : ∀ w1, WQ S w now D (RK now (VM.del i L)) (BK now (VM.del i L)) w1 → ∃ mb n, w1.cell? ⟨S.p, 1, none⟩ = some (.map (some mb)) ∧ w1.ownsMap Tryd.prog 3 (plainElem Tryd.prog 22) mb n D ∧ ∀ w2, w2.ownsMap Tryd.prog 3 (plainElem Tryd.prog 22) mb n (D.del (.int .i64 i)) → w1.mapTurned w2 mb → WRQ S w now (VM.del i L) w2)
    unfold dv at UN
    simp only at UN
    clear h hwg hm hi e hd
    go_enter Tryd.func11, Tryd.ntmps11
    go_wp2_with fail
    refine A.out.mono ?_
    rintro _ w1 ⟨rfl, rfl⟩
    go_wp2_with fail
    refine UN.out.mono ?_
    rintro _ w1 ⟨rfl, hq⟩
    obtain ⟨mb, n, c1, hown, hend⟩ := EN.out w1 hq
    have OW := Lib.hid hown
    have ED := Lib.hid hend
    clear hq hown hend
    go_wp2_with (at_delete; refine wpList_delete_own _ rfl _ _ 70 3 rfl 22 law3 Tryd.underlying70 _ mb n D rfl OW.out _ _ rfl K.out ?_; intro w2 hown2 hturn2)
    have HQ := Lib.hid (ED.out w2 hown2 hturn2)
    clear hown2 hturn2
    go_ret2
    exact ⟨rfl, HQ.out⟩
set_option maxRecDepth 100000 in
theorem cancel_nil (i : Int) (w : World) : Calls Tryd.prog 11 #[.pointer none, .int .i64 i] w fun e w' => e = .returned (.tuple #[.int .u64 0, .bool false]) ∧ Grw w w' := by
  have A := Lib.hid (wat_nil i w)
  go_enter Tryd.func11, Tryd.ntmps11
  go_wp2_with fail
  refine A.out.mono ?_
  rintro _ w1 ⟨rfl, rfl⟩
  go_wp2_with fail
  go_ret2
  exact ⟨rfl, Grw.rfl' _⟩
end Go.Proofs.YtjkhgpdhhnfmlaaDoor
