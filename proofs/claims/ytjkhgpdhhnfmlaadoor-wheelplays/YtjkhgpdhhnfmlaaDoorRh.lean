/- The contracts of ring.Take and ring.List at this program, and of all methods at a nil ring. -/
import Derived.Test.YtjkhgpdhhnfmlaaDoorRb
import Derived.Test.YtjkhgpdhhnfmlaaDoorRm
namespace Go.Proofs.YtjkhgpdhhnfmlaaDoor
open Go.RowKit MK
open RG (Du)
set_option linter.unusedSimpArgs false

def TakeQ (b : Nat) (A : Array Value) (w : World) (l : List Du) (M : Nat → List Du) (e : Ending) (w' : World) : Prop := ∃ v, e = .returned v ∧ RowD w' v l ∧ RingQ b A w M w'
set_option maxRecDepth 100000 in
theorem take_in (b : Nat) (A : Array Value) (L : Nat → List Du) (s : Nat) (w : World) (h : RingL w b A L) (hs : s < 64) :
    Calls Tryd.prog 82 #[.pointer (some ⟨b, 0, none⟩), .int .i64 s] w (TakeQ b A w (L s) (upd L s [])) := by
  obtain ⟨v, hv⟩ := h.at hs
  have ho := h.own s v hv
  obtain ⟨ao, cap, rfl, hl⟩ := ownsRow_lies ho
  have hc := h.cells s _ hv
  have hf := h.free s
  have U := Lib.hid (ringQ_set h (Grw.rfl' w) (v' := .slice none 0 0) (l := []) hv (Frm.rfl' _ w) (World.ownsRow_nil _ _ _ _) (Or.inr (Or.inl rfl)))
  have RD := Lib.hid (show RowD (w.setCell ⟨b, s, none⟩ (.slice none 0 0)) (.slice ao (L s).length cap) (L s) from ⟨ao, cap, rfl, hl.frm (frm_set (F := fun k => k = b) w ⟨b, s, none⟩ _ rfl) (fun a e c => h.ne s _ hv (by rw [e]; exact congrArg some c))⟩)
  have H := Lib.hid (has_yes ⟨b, 0, none⟩ s w hs)
  obtain ⟨n, hn⟩ : ∃ n, (L s).length = n := ⟨_, rfl⟩
  rw [hn] at hc RD
  have hsi : (s : Int) < 64 := by omega
  clear h ho hl hv hn
  go_enter Tryd.func82, Tryd.ntmps82
  go_wp2_with fail
  refine H.out.mono ?_
  rintro _ w1 ⟨rfl, rfl⟩
  go_wp2_with fail
  go_ret
  exact ⟨_, rfl, RD.out, U.out⟩
theorem take_out (b : Nat) (A : Array Value) (L : Nat → List Du) (i : Int) (w : World) (h : RingL w b A L) (hs : ¬ (0 ≤ i ∧ i < 64)) :
    Calls Tryd.prog 82 #[.pointer (some ⟨b, 0, none⟩), .int .i64 i] w (TakeQ b A w [] L) := by
  have R := Lib.hid (ringQ_same h (Grw.rfl' w))
  have H := Lib.hid (has_no ⟨b, 0, none⟩ i w hs)
  clear h hs
  go_enter Tryd.func82, Tryd.ntmps82
  go_wp2_with fail
  refine H.out.mono ?_
  rintro _ w1 ⟨rfl, rfl⟩
  go_wp2_with fail
  go_ret
  exact ⟨_, rfl, ⟨none, 0, rfl, Or.inl rfl⟩, R.out⟩
theorem take_nil (i : Int) (w : World) : Calls Tryd.prog 82 #[.pointer none, .int .i64 i] w fun e w' => e = .returned (.slice none 0 0) ∧ w = w' := by
  have H := Lib.hid (has_nil i w)
  go_enter Tryd.func82, Tryd.ntmps82
  go_wp2_with fail
  refine H.out.mono ?_
  rintro _ w1 ⟨rfl, rfl⟩
  go_wp2_with fail
  go_ret
  exact ⟨rfl, rfl⟩
theorem list_nil (i : Int) (w : World) : Calls Tryd.prog 59 #[.pointer none, .int .i64 i] w fun e w' => e = .returned (.slice none 0 0) ∧ w = w' := by
  have H := Lib.hid (has_nil i w)
  go_enter Tryd.func59, Tryd.ntmps59
  go_wp2_with fail
  refine H.out.mono ?_
  rintro _ w1 ⟨rfl, rfl⟩
  go_wp2_with fail
  go_ret
  exact ⟨rfl, rfl⟩
theorem list_out (b : Nat) (i : Int) (w : World) (hs : ¬ (0 ≤ i ∧ i < 64)) :
    Calls Tryd.prog 59 #[.pointer (some ⟨b, 0, none⟩), .int .i64 i] w (CloneQ [] w) := by
  have H := Lib.hid (has_no ⟨b, 0, none⟩ i w hs)
  clear hs
  go_enter Tryd.func59, Tryd.ntmps59
  go_wp2_with fail
  refine H.out.mono ?_
  rintro _ w1 ⟨rfl, rfl⟩
  go_wp2_with fail
  go_ret
  exact ⟨_, rfl, World.ownsRow_nil _ _ _ _, Grw.rfl' _⟩
set_option maxRecDepth 100000 in
theorem list_in (b : Nat) (A : Array Value) (L : Nat → List Du) (s : Nat) (w : World) (h : RingL w b A L) (hs : s < 64) (hb : (L s).length ≤ 1000000) :
    Calls Tryd.prog 59 #[.pointer (some ⟨b, 0, none⟩), .int .i64 s] w (CloneQ (L s) w) := by
  obtain ⟨v, hv⟩ := h.at hs
  have C := clone_any v (L s) w (h.own s v hv) hb
  obtain ⟨ao, cap, rfl, hl⟩ := ownsRow_lies (h.own s v hv)
  have hc := h.cells s _ hv
  have H := Lib.hid (has_yes ⟨b, 0, none⟩ s w hs)
  obtain ⟨m, hm⟩ : ∃ m, L s = m := ⟨_, rfl⟩
  rw [hm] at hc C hb ⊢
  obtain ⟨n, hn⟩ : ∃ n, m.length = n := ⟨_, rfl⟩
  rw [hn] at hc C
  have C := Lib.hid C
  have hsi : (s : Int) < 64 := by omega
  clear h hl hv hn hm hb
  go_enter Tryd.func59, Tryd.ntmps59
  go_wp2_with fail
  refine H.out.mono ?_
  rintro _ w1 ⟨rfl, rfl⟩
  go_wp2_with fail
  refine C.out.mono ?_
  rintro _ w1 ⟨v', rfl, h1, h2⟩
  have U := Lib.hid (And.intro h1 h2)
  clear h1 h2
  go_wp2_with fail
  go_ret
  exact ⟨_, rfl, U.out.1, U.out.2⟩
set_option maxRecDepth 100000 in
theorem find_nil (i : Int) (w : World) : Calls Tryd.prog 75 #[.pointer none, .int .i64 i] w fun e w' => e = .returned (.tuple #[.int .i64 0, .int .i64 0, .bool false]) ∧ w = w' := by
  go_enter Tryd.func75, Tryd.ntmps75
  go_wp2_with fail
  exact bodyPost_ret (v := .tuple #[.int .i64 0, .int .i64 0, .bool false]) (by simp [results, Tryd.results75, go_sem]) rfl ⟨rfl, rfl⟩
theorem drop_nil (i : Int) (w : World) : Calls Tryd.prog 56 #[.pointer none, .int .i64 i] w fun e w' => e = .returned (.tuple #[.int .i64 0, .bool false]) ∧ w = w' := by
  have H := Lib.hid (find_nil i w)
  go_enter Tryd.func56, Tryd.ntmps56
  go_wp2_with fail
  refine H.out.mono ?_
  rintro _ w1 ⟨rfl, rfl⟩
  go_wp2_with fail
  go_ret2
  exact ⟨rfl, rfl⟩
theorem put_nil (i : Int) (d : Du) (w : World) : Calls Tryd.prog 52 #[.pointer none, .int .i64 i, dv d] w fun e w' => e = .returned (.bool false) ∧ Grw w w' := by
  have H := Lib.hid (fun w => has_nil i w)
  unfold dv
  go_enter Tryd.func52, Tryd.ntmps52
  go_wp2_with fail
  refine (H.out _).mono ?_
  rintro _ w1 ⟨rfl, rfl⟩
  go_wp2_with fail
  go_ret
  exact ⟨rfl, (Grw.rfl' _).alloc _⟩
end Go.Proofs.YtjkhgpdhhnfmlaaDoor
