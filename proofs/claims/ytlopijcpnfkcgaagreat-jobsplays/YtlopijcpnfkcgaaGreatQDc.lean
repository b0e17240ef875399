/- The document's queue: whether there may be one; the place of a number. -/
import Derived.Test.YtlopijcpnfkcgaaGreatQSk
namespace Go.Proofs.YtlopijcpnfkcgaaGreat
namespace QQ
open Go.RowKit
set_option linter.unusedSimpArgs false
variable {X : Nat → Value → Prop}

set_option maxHeartbeats 1000000 in
set_option maxRecDepth 100000 in
theorem rmay_yes (a room : Int) (w : World) (h1 : 1 ≤ a) (h2 : a ≤ 1000) (h3 : 0 ≤ room) (h4 : room ≤ 1000) :
    Calls Tryz.prog 26 #[.int .i64 a, .int .i64 room] w fun e w' => e = .returned (.bool true) ∧ w = w' := by
  have d1 : decide (1 ≤ a) = true := by simp [h1]
  have d2 : decide (a ≤ 1000) = true := by simp [h2]
  have d3 : decide (0 ≤ room) = true := by simp [h3]
  have d4 : decide (room ≤ 1000) = true := by simp [h4]
  go_enter Tryz.func26, Tryz.ntmps26
  go_wp2_with fail
  go_ret
  exact ⟨rfl, rfl⟩
set_option maxHeartbeats 1000000 in
set_option maxRecDepth 100000 in
theorem rmay_no (a room : Int) (w : World) (h : ¬ (1 ≤ a ∧ a ≤ 1000 ∧ 0 ≤ room ∧ room ≤ 1000)) :
    Calls Tryz.prog 26 #[.int .i64 a, .int .i64 room] w fun e w' => e = .returned (.bool false) ∧ w = w' := by
  rcases (show a < 1 ∨ (1 ≤ a ∧ 1000 < a) ∨ (1 ≤ a ∧ a ≤ 1000 ∧ room < 0) ∨ (1 ≤ a ∧ a ≤ 1000 ∧ 0 ≤ room ∧ 1000 < room) by omega) with c | c | c | c
  · have d1 : decide (1 ≤ a) = false := by simp; omega
    clear h c
    go_enter Tryz.func26, Tryz.ntmps26
    go_wp2_with fail
    go_ret
    exact ⟨rfl, rfl⟩
  · have d1 : decide (1 ≤ a) = true := by simp; omega
    have d2 : decide (a ≤ 1000) = false := by simp; omega
    clear h c
    go_enter Tryz.func26, Tryz.ntmps26
    go_wp2_with fail
    go_ret
    exact ⟨rfl, rfl⟩
  · have d1 : decide (1 ≤ a) = true := by simp; omega
    have d2 : decide (a ≤ 1000) = true := by simp; omega
    have d3 : decide (0 ≤ room) = false := by simp; omega
    clear h c
    go_enter Tryz.func26, Tryz.ntmps26
    go_wp2_with fail
    go_ret
    exact ⟨rfl, rfl⟩
  · have d1 : decide (1 ≤ a) = true := by simp; omega
    have d2 : decide (a ≤ 1000) = true := by simp; omega
    have d3 : decide (0 ≤ room) = true := by simp; omega
    have d4 : decide (room ≤ 1000) = false := by simp; omega
    clear h c
    go_enter Tryz.func26, Tryz.ntmps26
    go_wp2_with fail
    go_ret
    exact ⟨rfl, rfl⟩

/-- nothing rides along. -/
def X0 : Nat → Value → Prop := fun _ _ => False
structure RQ (X : Nat → Value → Prop) (w : World) (r : Nat) (a room count : Int) (v : Value) (L : List Wt) : Prop where
  c0 : w.cell? ⟨r, 0, none⟩ = some (.int .i64 a)
  c1 : w.cell? ⟨r, 1, none⟩ = some (.int .i64 room)
  c2 : w.cell? ⟨r, 2, none⟩ = some (.int .i64 count)
  c3 : w.cell? ⟨r, 3, none⟩ = some v
  f2 : w.frozen? ⟨r, 2, none⟩ = false
  f3 : w.frozen? ⟨r, 3, none⟩ = false
  row : w.ownsRow 0 77 3 v L.length (cw L)
  ne : v.ownBlock ≠ some r
  len : L.length ≤ 10000
  ex : ∀ j u, X j u → (j ≠ 2 ∧ j ≠ 3) ∧ w.cell? ⟨r, j, none⟩ = some u ∧ w.frozen? ⟨r, j, none⟩ = false
theorem RQ.keep {w x : World} {r : Nat} {a room count : Int} {v : Value} {L : List Wt} (h : RQ X w r a room count v L) {F : Nat → Prop} (f : Frm F w x) (hf : ∀ k, qf r v k → ¬ F k) : RQ X x r a room count v L :=
  ⟨f.cell h.c0 (hf r (Or.inl rfl)), f.cell h.c1 (hf r (Or.inl rfl)), f.cell h.c2 (hf r (Or.inl rfl)), f.cell h.c3 (hf r (Or.inl rfl)), frz_frm f h.c2 (hf r (Or.inl rfl)) h.f2, frz_frm f h.c3 (hf r (Or.inl rfl)) h.f3,
    ownsRow_frm h.row f (fun k hk => hf k (Or.inr hk)), h.ne, h.len, fun j u hx => ⟨(h.ex j u hx).1, f.cell (h.ex j u hx).2.1 (hf r (Or.inl rfl)), frz_frm f (h.ex j u hx).2.1 (hf r (Or.inl rfl)) (h.ex j u hx).2.2⟩⟩
theorem RQ.later {w x : World} {r : Nat} {a room count : Int} {v : Value} {L : List Wt} (h : RQ X w r a room count v L) (g : Grw w x) : RQ X x r a room count v L := h.keep (g.frm (fun _ => False)) (fun _ _ e => e)
set_option maxHeartbeats 1000000 in
set_option maxRecDepth 100000 in
theorem rfind_is {r : Nat} {a room count : Int} {v : Value} {L : List Wt} {w : World} (h : RQ X w r a room count v L) (id : Int) :
    Calls Tryz.prog 53 #[.pointer (some ⟨r, 0, none⟩), .int .i64 id] w fun e w' => ∃ k, e = .returned (.int .i64 k) ∧ At L id k ∧ Grw w w' := by
  obtain ⟨ao, cap, hv, hl⟩ := ownsRow_lies h.row
  subst hv
  have c3 := h.c3
  have LI := Lib.hid hl
  have hb := h.len
  obtain ⟨n, hn⟩ : ∃ n, L.length = n := ⟨_, rfl⟩
  have C3 : Hid (∀ u, Grw w u → u.cell? ⟨r, 3, none⟩ = some (.slice ao n cap)) := (fun u g => by rw [← hn]; exact g.cell c3 : ∀ u, Grw w u → u.cell? ⟨r, 3, none⟩ = some (.slice ao n cap))
  have HN := Lib.hid hn
  rw [hn] at hb
  clear h hl hn c3
  go_enter Tryz.func53, Tryz.ntmps53
  go_wp2_with fail
  go_loopw [5] (fun i wr => ∃ k : Nat, i = .int .i64 k ∧ k ≤ n ∧ Grw w wr ∧ ∀ j, j < k → (gt L j).id ≠ id) (fun i _ => n - (intOf i).toNat)
  case atStart => exact ⟨0, rfl, Nat.zero_le _, Grw.rfl' _, fun j hj => by omega⟩
  case round =>
    obtain ⟨k, rfl, hk, hg, hno⟩ := hrel
    have G := Lib.hid hg
    have NO := Lib.hid hno
    have c3 := C3.out _ hg
    clear hno
    by_cases ck : k < n
    · have d1 : decide (k < n) = true := by simp [ck]
      have d2 : (k : Int) < (n : Int) := by omega
      have hkl : k < L.length := by rw [HN.out]; exact ck
      obtain ⟨b, off, rfl, c0, _⟩ := wlies_at (LI.out.later hg) hkl
      obtain ⟨zi, hz⟩ : ∃ z, (L[k]'hkl).id = z := ⟨_, rfl⟩
      have HZ : Hid ((gt L k).id = zi) := (by rw [gt_at hkl]; exact hz : (gt L k).id = zi)
      rw [hz] at c0
      obtain ⟨t, ht⟩ : ∃ t, (zi == id) = t := ⟨_, rfl⟩
      have HT := Lib.hid ht
      clear hz hg
      cases t with
      | true =>
        go_wp2_with fail
        go_ret
        exact ⟨_, rfl, Or.inl ⟨k, by rw [HN.out]; exact ck, rfl, by rw [HZ.out]; have := HT.out; simpa using this⟩, G.out⟩
      | false =>
        have q7 : IntKind.i64.wrap ((k : Int) + 1) = ((k + 1 : Nat) : Int) := by simp [IntKind.wrap_i64]; omega
        go_wp2_with fail
        go_roundw
        case rel =>
          refine ⟨k + 1, by go_num, by omega, G.out, fun j hj => ?_⟩
          by_cases cjk : j = k
          · subst cjk; rw [HZ.out]; have := HT.out; simpa using this
          · exact NO.out j (by omega)
        case measure => simp [intOf]; omega
    · have d1 : decide (k < n) = false := by simp; omega
      have d2 : ¬ (k : Int) < (n : Int) := by omega
      have e : n = k := by omega
      have E := Lib.hid e
      clear hg e
      go_wp2_with fail
      go_ret
      exact ⟨_, rfl, Or.inr ⟨rfl, fun j hj => NO.out j (by have := HN.out; have := E.out; omega)⟩, G.out⟩
end QQ
end Go.Proofs.YtlopijcpnfkcgaaGreat

/- The document's queue: Put. -/
namespace Go.Proofs.YtlopijcpnfkcgaaGreat
namespace QQ
open Go.RowKit
set_option linter.unusedSimpArgs false
variable {X : Nat → Value → Prop}

set_option maxHeartbeats 1000000 in
set_option maxRecDepth 100000 in
theorem rput_bad {r : Nat} {w : World} (id cl : Int) (h : ¬ (0 ≤ cl ∧ cl < 8)) :
    Calls Tryz.prog 29 #[.pointer (some ⟨r, 0, none⟩), .int .i64 id, .int .i64 cl] w fun e w' => e = .returned (.int .i64 1) ∧ w = w' := by
  rcases (show cl < 0 ∨ 8 ≤ cl by omega) with c | c
  · have d1 : decide (cl < 0) = true := by simp; omega
    clear h c
    go_enter Tryz.func29, Tryz.ntmps29
    go_wp2_with fail
    go_ret
    exact ⟨rfl, rfl⟩
  · have d1 : decide (cl < 0) = false := by simp; omega
    have d2 : decide (8 ≤ cl) = true := by simp; omega
    clear h c
    go_enter Tryz.func29, Tryz.ntmps29
    go_wp2_with fail
    go_ret
    exact ⟨rfl, rfl⟩
set_option maxHeartbeats 1000000 in
set_option maxRecDepth 100000 in
theorem rput_twice {r : Nat} {a room count : Int} {v : Value} {L : List Wt} {w : World} (h : RQ X w r a room count v L) (id cl : Int) (h1 : 0 ≤ cl) (h2 : cl < 8) (ht : ∃ j, j < L.length ∧ (gt L j).id = id) :
    Calls Tryz.prog 29 #[.pointer (some ⟨r, 0, none⟩), .int .i64 id, .int .i64 cl] w fun e w' => e = .returned (.int .i64 8) ∧ Grw w w' := by
  have C := Lib.hid (rfind_is h id)
  have HT := Lib.hid ht
  have d1 : decide (cl < 0) = false := by simp; omega
  have d2 : decide (8 ≤ cl) = false := by simp; omega
  clear h ht h1 h2
  go_enter Tryz.func29, Tryz.ntmps29
  go_wp2_with fail
  refine C.out.mono ?_
  rintro _ w1 ⟨k, rfl, hat, hg⟩
  have hk : 0 ≤ k := by
    rcases hat with ⟨j, _, e, _⟩ | ⟨_, hn⟩
    · omega
    · obtain ⟨j, hj, e⟩ := HT.out
      exact absurd e (hn j hj)
  have d3 : decide (0 ≤ k) = true := by simp [hk]
  have G := Lib.hid hg
  clear hat hk hg
  go_wp2_with fail
  go_ret
  exact ⟨rfl, G.out⟩
set_option maxHeartbeats 1000000 in
set_option maxRecDepth 100000 in
theorem rput_full {r : Nat} {a room count : Int} {v : Value} {L : List Wt} {w : World} (h : RQ X w r a room count v L) (id cl : Int) (h1 : 0 ≤ cl) (h2 : cl < 8) (ht : ∀ j, j < L.length → (gt L j).id ≠ id) (hf : room ≤ L.length) :
    Calls Tryz.prog 29 #[.pointer (some ⟨r, 0, none⟩), .int .i64 id, .int .i64 cl] w fun e w' => e = .returned (.int .i64 10) ∧ Grw w w' := by
  have C := Lib.hid (rfind_is h id)
  obtain ⟨ao, cap, hv, _⟩ := ownsRow_lies h.row
  subst hv
  have HT := Lib.hid ht
  have d1 : decide (cl < 0) = false := by simp; omega
  have d2 : decide (8 ≤ cl) = false := by simp; omega
  have H := Lib.hid h
  obtain ⟨n, hn⟩ : ∃ n, L.length = n := ⟨_, rfl⟩
  have d4 : decide (room ≤ (n : Int)) = true := by simp; omega
  have HN := Lib.hid hn
  clear h ht h1 h2 hf hn
  go_enter Tryz.func29, Tryz.ntmps29
  go_wp2_with fail
  refine C.out.mono ?_
  rintro _ w1 ⟨k, rfl, hat, hg⟩
  have hk : k = -1 := by
    rcases hat with ⟨j, hj, e, e'⟩ | ⟨e, _⟩
    · exact absurd e' (HT.out j hj)
    · exact e
  subst hk
  have G := Lib.hid hg
  have c1 := gw_cell (H.out.later hg).c1
  have c3 := gw_cell (H.out.later hg).c3
  rw [HN.out] at c3
  clear hat hg
  go_wp2_with fail
  refine wp_region_grown (by kernel_rfl) (by kernel_rfl) ?_
  repeat (go_big_quiet_step (fail))
  refine wpQuiet_nil ?_
  rintro _ ⟨q, rfl⟩
  have GQ := Lib.hid (G.out.trans q.h)
  clear c1 c3
  go_wp2_with fail
  go_ret
  exact ⟨rfl, GQ.out⟩
end QQ
end Go.Proofs.YtlopijcpnfkcgaaGreat
