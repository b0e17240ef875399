/- A queue made since w0; the law's wakes. -/
import Derived.Test.YtlopijcpnfkcgaaGreatQQi
import Derived.Deep.CutRange
import Derived.Deep.DeepCutAuto
namespace Go.Proofs.YtlopijcpnfkcgaaGreat
namespace QQ
open Go.RowKit
set_option linter.unusedSimpArgs false

structure QM (w0 w : World) (p : Nat) (a room count : Int) (v : Value) (L : List Wt) : Prop where
  q : QU w p a room count v L
  g : Grw w0 w
  pn : w0.heap.size ≤ p
  vn : ∀ k, v.ownBlock = some k → w0.heap.size ≤ k
theorem QM.later {w0 w x : World} {p : Nat} {a room count : Int} {v : Value} {L : List Wt} (h : QM w0 w p a room count v L) (g : Grw w x) : QM w0 x p a room count v L :=
  ⟨h.q.later g, h.g.trans g, h.pn, h.vn⟩
theorem QM.step {w0 w x : World} {p : Nat} {a room count room' count' : Int} {v v' : Value} {L L' : List Wt} (h : QM w0 w p a room count v L) (q : QU x p a room' count' v' L') (f : Frm (qf p v) w x) (n : Near w v v') : QM w0 x p a room' count' v' L' := by
  refine ⟨q, f.grw h.g (fun k e => ?_), h.pn, fun k hk => ?_⟩
  · rcases e with e | e
    · rw [e]; exact h.pn
    · exact h.vn k e
  · rcases n with n | ⟨k', hk', hw⟩
    · exact h.vn k (n ▸ hk)
    · rw [hk] at hk'; injection hk' with hk'; rw [hk']; exact Nat.le_trans (Below.size h.g) hw
/-- what is in no block of the queue is left alone. -/
theorem QM.off {w0 w : World} {p : Nat} {a room count : Int} {v : Value} {L : List Wt} (h : QM w0 w p a room count v L) {k : Nat} (hk : k < w0.heap.size) : ¬ qf p v k := by
  rintro (e | e)
  · have := h.pn; omega
  · have := h.vn k e; omega
theorem m_new (a room : Int) (w0 w : World) (g : Grw w0 w) (h1 : 1 ≤ a) (h2 : a ≤ 1000) (h3 : 0 ≤ room) (h4 : room ≤ 1000) :
    Calls Tryz.prog 24 #[.int .i64 a, .int .i64 room] w fun e w' => ∃ p, e = .returned (.pointer (some ⟨p, 0, none⟩)) ∧ QM w0 w' p a room 0 (.slice none 0 0) [] ∧ w.heap.size ≤ p :=
  (new_yes a room w h1 h2 h3 h4).mono fun _ _ ⟨he, hq, hg⟩ => ⟨_, he, ⟨hq, g.trans hg, Below.size g, fun k e => by cases e⟩, Nat.le_refl _⟩
theorem m_put {w0 w : World} {p : Nat} {a room count : Int} {v : Value} {L : List Wt} (h : QM w0 w p a room count v L) (id cl : Int) (h1 : 0 ≤ cl) (h2 : cl < 8) (ht : ∀ j, j < L.length → (gt L j).id ≠ id) (hf : (L.length : Int) < room) (hb : L.length < 10000) :
    Calls Tryz.prog 28 #[.pointer (some ⟨p, 0, none⟩), .int .i64 id, .int .i64 cl] w fun e w' => e = .returned (.int .i64 0) ∧ ∃ v', QM w0 w' p a room count v' (L ++ [⟨id, cl, count⟩]) ∧ Frm (qf p v) w w' ∧ Near w v v' :=
  (put_yes h.q id cl h1 h2 ht hf hb).mono fun _ _ ⟨he, v', hq, hf, hn⟩ => ⟨he, v', h.step hq hf hn, hf, hn⟩
theorem m_take {w0 w : World} {p : Nat} {a room count : Int} {v : Value} {L : List Wt} (h : QM w0 w p a room count v L) {k : Nat} (hf : Fst a L k) (h0 : 0 ≤ count) (h1 : count ≤ 4611686018427387904) :
    Calls Tryz.prog 30 #[.pointer (some ⟨p, 0, none⟩)] w fun e w' => e = .returned (.tuple #[wv (gt L k), .int .i64 0]) ∧ ∃ v', QM w0 w' p a room (count + 1) v' (rem L k) ∧ Frm (qf p v) w w' ∧ Near w v v' :=
  (take_some h.q hf h0 h1).mono fun _ _ ⟨he, v', hq, hf, hn⟩ => ⟨he, v', h.step hq hf (Or.inl hn), hf, Or.inl hn⟩
theorem m_drop {w0 w : World} {p : Nat} {a room count : Int} {v : Value} {L : List Wt} (h : QM w0 w p a room count v L) (id : Int) {j : Nat} (hj : j < L.length) (he : (gt L j).id = id) :
    Calls Tryz.prog 41 #[.pointer (some ⟨p, 0, none⟩), .int .i64 id] w fun e w' => e = .returned (.bool true) ∧ ∃ v', QM w0 w' p a room count v' (rem L j) ∧ Frm (qf p v) w w' ∧ Near w v v' :=
  (drop_yes h.q id hj he).mono fun _ _ ⟨he, v', hq, hf, hn⟩ => ⟨he, v', h.step hq hf (Or.inl hn), hf, Or.inl hn⟩

theorem wakes_fst : Fst 2 [⟨1, 7, 0⟩, ⟨2, 0, 0⟩] 1 := by
  refine ⟨by decide, fun i hi => ?_, fun i hi hij => ?_⟩
  · match i, hi with
    | 0, _ => exact (by decide : les 2 ⟨1, 7, 0⟩ ⟨2, 0, 0⟩ = false)
    | 1, _ => exact (by decide : les 2 ⟨2, 0, 0⟩ ⟨2, 0, 0⟩ = false)
  · match i, hi with
    | 0, _ => exact (by decide : les 2 ⟨2, 0, 0⟩ ⟨1, 7, 0⟩ = true)
    | 1, _ => omega
theorem one_no : ∀ j, j < [(⟨1, 7, 0⟩ : Wt)].length → (gt [⟨1, 7, 0⟩] j).id ≠ 2 := fun j hj => by
  match j, hj with
  | 0, _ => exact (by decide : (1 : Int) ≠ 2)
end QQ
end Go.Proofs.YtlopijcpnfkcgaaGreat

/- The queue's List where nobody waits; the law QueueNone, walked. -/
namespace Go.Proofs.YtlopijcpnfkcgaaGreat
namespace QQ
open Go.RowKit
set_option linter.unusedSimpArgs false

set_option maxHeartbeats 1000000 in
set_option maxRecDepth 100000 in
theorem list_nil (w : World) : Calls Tryz.prog 63 #[.pointer none] w fun e w' => e = .returned (.slice none 0 0) ∧ w = w' := by
  go_enter Tryz.func63, Tryz.ntmps63
  go_wp2_with fail
  go_ret
  exact ⟨rfl, rfl⟩
set_option maxHeartbeats 1000000 in
set_option maxRecDepth 100000 in
theorem clone_nil (w : World) : Calls Tryz.prog 71 #[.slice none 0 0] w fun e w' => e = .returned (.slice none 0 0) ∧ w = w' := by
  have e : ∀ w, Sem.run Tryz.prog (binOp .eql 62 (.slice none 0 0) (.slice none 0 0)) w = .ok (.bool true) w := fun _ => by kernel_rfl
  go_enter Tryz.func71, Tryz.ntmps71
  go_wp2_with fail
  go_ret
  exact ⟨rfl, rfl⟩
set_option maxHeartbeats 1000000 in
set_option maxRecDepth 100000 in
theorem sort_none (b o : Nat) (ao : Option Addr) (n cap : Nat) (w : World) (h : w.cell? ⟨b, o + 1, none⟩ = some (.slice ao n cap)) (hn : n ≤ 1) :
    Calls Tryz.prog 72 #[.iface 109 (.pointer (some ⟨b, o, none⟩))] w fun e w' => e = .returned (.tuple #[]) ∧ w = w' := by
  have mN := meth_len b o
  have C := Lib.hid (line_len b o ao n cap w h)
  have d1 : decide ((n : Int) ≤ 1) = true := by simp; omega
  have d2 : decide (n ≤ 1) = true := by simp [hn]
  clear h
  go_enter Tryz.func72, Tryz.ntmps72
  go_wp2_with fail
  refine C.out.mono ?_
  rintro _ _ ⟨rfl, rfl⟩
  go_wp2_with fail
  exact bodyPost_ret (results_none rfl _ _ _) rfl ⟨rfl, rfl⟩
set_option maxHeartbeats 1000000 in
set_option maxRecDepth 100000 in
theorem list_empty {p : Nat} {a room count : Int} {w : World} (h : QU w p a room count (.slice none 0 0) []) :
    Calls Tryz.prog 63 #[.pointer (some ⟨p, 0, none⟩)] w fun e w' => e = .returned (.slice none 0 0) ∧ Grw w w' := by
  obtain ⟨l, hl, _, _⟩ := h.line
  have c2 := hl.c0
  have c3 := hl.c1
  have SS : Hid (∀ u, Grw w u → (u.cell? ⟨p, 2, none⟩ = some (.int .i64 a) ∧ u.cell? ⟨p, 3, none⟩ = some (.slice none 0 0))) :=
    (fun u g => ⟨g.cell c2, g.cell c3⟩ : ∀ u, Grw w u → (u.cell? ⟨p, 2, none⟩ = some (.int .i64 a) ∧ u.cell? ⟨p, 3, none⟩ = some (.slice none 0 0)))
  have CN := Lib.hid clone_nil
  clear h hl
  go_enter Tryz.func63, Tryz.ntmps63
  go_upto_region 3 with fail
  go_cut [3] from 6 to 18 (fun s3 wx => ∃ b, s3 = .pointer (some ⟨b, 0, none⟩) ∧ wx.cell? ⟨b, 1, none⟩ = some (.slice none 0 0) ∧ Grw w wx)
  case first =>
    go_region_held3 (fun u => u.cell? ⟨p, 2, none⟩ = some (.int .i64 a) ∧ u.cell? ⟨p, 3, none⟩ = some (.slice none 0 0))
      ((refine SS.out _ ?_; repeat (first | with_reducible exact Grw.rfl' _ | with_reducible refine Grw.drew ?_ | with_reducible refine Grw.alloc ?_ _))) (first | (go_at_call 71; refine (CN.out _).mono ?_; rintro _ _ ⟨rfl, rfl⟩))
    all_goals
      go_wp2_with fail
      go_meet
      case rel => exact ⟨_, rfl, by simp [go_sem], (by repeat (first | with_reducible exact Grw.rfl' _ | with_reducible refine Grw.drew ?_ | with_reducible refine Grw.alloc ?_ _))⟩
  case rest =>
    obtain ⟨b, rfl, hc, hg⟩ := hcut
    have G := Lib.hid hg
    have C := Lib.hid (sort_none b 0 none 0 0 wc hc (by decide))
    clear hg
    go_wp2_with fail
    refine C.out.mono ?_
    rintro _ _ ⟨rfl, rfl⟩
    go_wp2_with fail
    go_ret
    exact ⟨rfl, G.out⟩
set_option maxHeartbeats 1000000 in
set_option maxRecDepth 100000 in
theorem len_nil (w : World) : Calls Tryz.prog 110 #[.pointer none] w fun e w' => e = .returned (.int .i64 0) ∧ w = w' := by
  go_enter Tryz.func110, Tryz.ntmps110
  go_wp2_with fail
  go_ret
  exact ⟨rfl, rfl⟩
set_option maxHeartbeats 1000000 in
set_option maxRecDepth 100000 in
theorem count_nil (w : World) : Calls Tryz.prog 62 #[.pointer none] w fun e w' => e = .returned (.int .i64 0) ∧ w = w' := by
  go_enter Tryz.func62, Tryz.ntmps62
  go_wp2_with fail
  go_ret
  exact ⟨rfl, rfl⟩
end QQ
end Go.Proofs.YtlopijcpnfkcgaaGreat
