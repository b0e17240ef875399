/- The queue's place: slices.IndexFunc with the literal that looks for a number. -/
import Derived.Test.YtlopijcpnfkcgaaQQe
namespace Go.Proofs.Ytlopijcpnfkcgaa
namespace QQ
open Go.RowKit
set_option linter.unusedSimpArgs false

/-- where a number stands, or nowhere. -/
def At (l : List Wt) (id : Int) (r : Int) : Prop := (∃ k : Nat, k < l.length ∧ r = k ∧ (gt l k).id = id) ∨ (r = -1 ∧ ∀ k, k < l.length → (gt l k).id ≠ id)

set_option maxHeartbeats 1000000 in
set_option maxRecDepth 100000 in
theorem is_id (i c m id : Int) (q : Nat) (t : Bool) (w : World) (h : w.cell? ⟨q, 0, none⟩ = some (.int .i64 id)) (e : (i == id) = t) :
    Calls Try.prog 46 #[.agg #[.int .i64 i, .int .i64 c, .int .i64 m], .pointer (some ⟨q, 0, none⟩)] w fun e w' => e = .returned (.bool t) ∧ Grw w w' := by
  have hc : ∀ u, (w.alloc u).cell? ⟨q, 0, none⟩ = some (.int .i64 id) := fun u => ((Grw.rfl' w).alloc u).cell h
  have G := Lib.hid ((Grw.rfl' w).alloc (.cells #[.int .i64 i, .int .i64 c, .int .i64 m] 69))
  go_enter Try.func46, Try.ntmps46
  go_wp2_with fail
  go_ret
  exact ⟨rfl, G.out⟩
set_option maxHeartbeats 1000000 in
set_option maxRecDepth 100000 in
theorem index_is (ao : Option Addr) (cap : Nat) (l : List Wt) (n : Nat) (id : Int) (q : Nat) (w : World) (hl : Lies w ao (cw l)) (hn : l.length = n) (hb : n ≤ 1000000) (h : w.cell? ⟨q, 0, none⟩ = some (.int .i64 id)) :
    Calls Try.prog 45 #[.slice ao n cap, .func (.func 46) #[] #[.pointer (some ⟨q, 0, none⟩)]] w fun e w' => ∃ r, e = .returned (.int .i64 r) ∧ At l id r ∧ Grw w w' := by
  have LI := Lib.hid hl
  have HN := Lib.hid hn
  have HC := Lib.hid h
  clear hl hn h
  go_enter Try.func45, Try.ntmps45
  go_wp2_with fail
  go_loopw [8] (fun s8 wr => ∃ k : Nat, k ≤ n ∧ s8 = .int .i64 k ∧ Grw w wr ∧ ∀ j, j < k → (gt l j).id ≠ id) (fun s8 _ => n - (intOf s8).toNat)
  case atStart => exact ⟨0, Nat.zero_le _, rfl, Grw.rfl' _, fun j hj => by omega⟩
  case round =>
    obtain ⟨k, hk, rfl, hg, hno⟩ := hrel
    have G := Lib.hid hg
    have NO := Lib.hid hno
    clear hno
    by_cases hk' : k < n
    · have hki : (k : Int) < (n : Int) := by omega
      have hkl : k < l.length := by rw [HN.out]; exact hk'
      obtain ⟨b, off, rfl, c0, c1, c2⟩ := wlies_at (LI.out.later hg) hkl
      obtain ⟨x, hx⟩ : ∃ x, l[k] = x := ⟨_, rfl⟩
      have HX : Hid (gt l k = x) := (by rw [gt_at hkl]; exact hx : gt l k = x)
      rw [hx] at c0 c1 c2
      obtain ⟨xi, xc, xm⟩ := x
      simp only at c0 c1 c2
      have hq := hg.cell HC.out
      have q1 : IntKind.i64.wrap ((k : Int) + 1) = ((k + 1 : Nat) : Int) := by simp [IntKind.wrap_i64]; omega
      obtain ⟨t, ht⟩ : ∃ t, (xi == id) = t := ⟨_, rfl⟩
      have C := Lib.hid (is_id xi xc xm id q t wr hq ht)
      have HT := Lib.hid ht
      clear hx hg ht hq
      cases t with
      | true =>
        go_wp2_with fail
        refine C.out.mono ?_
        rintro _ w1 ⟨rfl, hw⟩
        have G1 := Lib.hid (G.out.trans hw)
        clear hw
        go_wp2_with fail
        go_ret
        exact ⟨k, rfl, Or.inl ⟨k, hkl, rfl, by rw [HX.out]; have := HT.out; simpa using this⟩, G1.out⟩
      | false =>
        go_wp2_with fail
        refine C.out.mono ?_
        rintro _ w1 ⟨rfl, hw⟩
        have G1 := Lib.hid (G.out.trans hw)
        clear hw
        go_wp2_with fail
        refine ⟨⟨k + 1, by omega, by first | rfl | go_num, G1.out, fun j hj => ?_⟩, by simp [intOf]; omega⟩
        by_cases c : j = k
        · subst c; rw [HX.out]; have := HT.out; simpa using this
        · exact NO.out j (by omega)
    · have hki : ¬ (k : Int) < (n : Int) := by omega
      obtain rfl : n = k := by omega
      clear hg
      go_wp2_with fail
      go_ret
      exact ⟨-1, rfl, Or.inr ⟨rfl, fun j hj => NO.out j (by rw [← HN.out]; exact hj)⟩, G.out⟩
set_option maxHeartbeats 1000000 in
set_option maxRecDepth 100000 in
theorem place_is (b o : Nat) (a : Int) (v : Value) (l : List Wt) (id : Int) (w : World) (h : LV b o a v w l) (hb : l.length ≤ 1000000) :
    Calls Try.prog 36 #[.pointer (some ⟨b, o, none⟩), .int .i64 id] w fun e w' => ∃ r, e = .returned (.int .i64 r) ∧ At l id r ∧ Grw w w' := by
  obtain ⟨ao, cap, hv, hl⟩ := ownsRow_lies h.row
  have c1 := h.c1
  rw [hv] at c1
  obtain ⟨n, hn⟩ : ∃ n, l.length = n := ⟨_, rfl⟩
  rw [hn] at c1
  have g0 : ∀ T, Grw w (w.alloc (.cells #[.int .i64 id] T)) := fun T => (Grw.rfl' w).alloc _
  have ca : ∀ u, (w.alloc u).cell? ⟨b, o + 1, none⟩ = some (.slice ao n cap) := fun u => ((Grw.rfl' w).alloc u).cell c1
  have C := Lib.hid (fun T => index_is ao cap l n id w.heap.size (w.alloc (.cells #[.int .i64 id] T)) (hl.later (g0 T)) hn (by omega) (by simp [go_sem]))
  have G0 := Lib.hid g0
  clear h hv hl hn g0
  go_enter Try.func36, Try.ntmps36
  go_wp2_with fail
  refine (C.out _).mono ?_
  rintro _ w1 ⟨r, rfl, ha, hw⟩
  have R := Lib.hid (And.intro ha ((G0.out _).trans hw))
  clear ha hw
  go_wp2_with fail
  go_ret
  exact ⟨r, rfl, R.out⟩
end QQ
end Go.Proofs.Ytlopijcpnfkcgaa
