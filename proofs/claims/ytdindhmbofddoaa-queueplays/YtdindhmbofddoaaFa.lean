/- The law QueueFair's feed. -/
import Derived.Test.YtdindhmbofddoaaQj
import Derived.Test.YtdindhmbofddoaaFm
import Derived.Deep.LoopGhost
import Derived.Deep.CutRange
import Derived.Deep.DeepCutAuto
namespace Go.Proofs.Ytdindhmbofddoaa
open Go.RowKit
set_option linter.unusedSimpArgs false

set_option maxRecDepth 100000 in
theorem mod_any (n : Int) (m : Nat) (w : World) (h0 : 0 < m) (hm : m ≤ 64) :
    Calls Try.prog 11 #[.int .i64 n, .int .i64 (m : Int)] w fun e w' => e = .returned (.int .i64 (n % (m : Int))) ∧ w = w' := by
  have hr : n.tmod (m : Int) = n % (m : Int) ∨ (n.tmod (m : Int) < 0 ∧ n.tmod (m : Int) + m = n % (m : Int)) := by
    have ha : ∀ k : Nat, 0 < k → ∀ z : Int, z.tmod (k : Int) = z % (k : Int) ∨ (z.tmod (k : Int) < 0 ∧ z.tmod (k : Int) + k = z % (k : Int)) := by
      intro k hk z
      by_cases hz : 0 ≤ z
      · left; exact Int.tmod_eq_emod_of_nonneg hz
      · rw [Int.tmod_eq_emod]
        have hkz : (k : Int) ≠ 0 := by omega
        have h3 := Int.emod_nonneg z hkz
        have h4 := Int.emod_lt_of_pos z (by omega : (0 : Int) < k)
        by_cases hd : (k : Int) ∣ z
        · left
          rw [if_pos (Or.inr hd)]; omega
        · right
          rw [if_neg (by intro h; rcases h with h | h; exact hz h; exact hd h)]
          have : (k : Int).natAbs = k := by simp
          omega
    exact ha m h0 n
  have h3 := Int.emod_nonneg n (show (m : Int) ≠ 0 by omega)
  have h4 := Int.emod_lt_of_pos n (show (0 : Int) < m by omega)
  have hne : ¬ (m : Int) = 0 := by omega
  have hn1 : ¬ (m : Int) = -1 := by omega
  obtain ⟨r, hre⟩ : ∃ r, n.tmod (m : Int) = r := ⟨_, rfl⟩
  obtain ⟨q, hq⟩ : ∃ q, n % (m : Int) = q := ⟨_, rfl⟩
  rw [hq] at hr h3 h4 ⊢
  rw [hre] at hr
  have HQ := Lib.hid hq
  clear hq
  rcases hr with rfl | ⟨hr1, hr2⟩
  · have hlt : decide (r < 0) = false := by simp; omega
    have hge : ¬ r < 0 := by omega
    go_enter Try.func11, Try.ntmps11
    go_wp2_with fail
    go_ret
    exact ⟨rfl, rfl⟩
  · have HR := Lib.hid hr2
    clear h4
    have hw : wrap64 (r + (m : Int)) = r + (m : Int) := by unfold wrap64; omega
    go_enter Try.func11, Try.ntmps11
    go_wp2_with fail
    go_ret
    exact ⟨by rw [← HR.out]; rfl, rfl⟩
/-- the feed at block fb. -/
structure FD (w : World) (fb p : Nat) (ao : Option Addr) (n cap k id room : Nat) : Prop where
  c0 : w.cell? ⟨fb, 0, none⟩ = some (.pointer (some ⟨p, 0, none⟩))
  c1 : w.cell? ⟨fb, 1, none⟩ = some (.slice ao n cap)
  c2 : w.cell? ⟨fb, 2, none⟩ = some (.int .i64 k)
  c3 : w.cell? ⟨fb, 3, none⟩ = some (.int .i64 id)
  c4 : w.cell? ⟨fb, 4, none⟩ = some (.int .i64 room)
  f2 : w.frozen? ⟨fb, 2, none⟩ = false
  f3 : w.frozen? ⟨fb, 3, none⟩ = false
theorem FD.keep {w x : World} {fb p : Nat} {ao : Option Addr} {n cap k id room : Nat} (h : FD w fb p ao n cap k id room) {F : Nat → Prop} (f : Frm F w x) (hn : ¬ F fb) : FD x fb p ao n cap k id room :=
  ⟨f.cell h.c0 hn, f.cell h.c1 hn, f.cell h.c2 hn, f.cell h.c3 hn, f.cell h.c4 hn, frz_frm f h.c2 hn h.f2, frz_frm f h.c3 hn h.f3⟩
theorem FD.later {w x : World} {fb p : Nat} {ao : Option Addr} {n cap k id room : Nat} (h : FD w fb p ao n cap k id room) (g : Grw w x) : FD x fb p ao n cap k id room := h.keep (g.frm (fun _ => False)) (fun e => e)
theorem FD.setk {w : World} {fb p : Nat} {ao : Option Addr} {n cap k id room : Nat} (h : FD w fb p ao n cap k id room) (k' : Nat) : FD (w.setCell ⟨fb, 2, none⟩ (.int .i64 k')) fb p ao n cap k' id room := by
  have r := Rest.set fb 2 w (.int .i64 k')
  exact ⟨(r 0 (by decide)).1.trans h.c0, (r 1 (by decide)).1.trans h.c1, World.cell?_setCell_same (u := _) _ _ _ h.c2, (r 3 (by decide)).1.trans h.c3, (r 4 (by decide)).1.trans h.c4, by simp [h.f2], by simp [h.f3]⟩
theorem FD.seti {w : World} {fb p : Nat} {ao : Option Addr} {n cap k id room : Nat} (h : FD w fb p ao n cap k id room) (i' : Nat) : FD (w.setCell ⟨fb, 3, none⟩ (.int .i64 i')) fb p ao n cap k i' room := by
  have r := Rest.set fb 3 w (.int .i64 i')
  exact ⟨(r 0 (by decide)).1.trans h.c0, (r 1 (by decide)).1.trans h.c1, (r 2 (by decide)).1.trans h.c2, World.cell?_setCell_same (u := _) _ _ _ h.c3, (r 4 (by decide)).1.trans h.c4, by simp [h.f2], by simp [h.f3]⟩

/-- all that holds between the feed's steps. -/
structure FQ (w0 w : World) (fb p : Nat) (ao : Option Addr) (n cap k id room : Nat) (a count : Int) (v : Value) (L : List Wt) : Prop where
  m : QM w0 w p a room count v L
  f : FD w fb p ao n cap k id room
  fn : w0.heap.size ≤ fb
  ne : ¬ qf p v fb
theorem FQ.later {w0 w x : World} {fb p : Nat} {ao : Option Addr} {n cap k id room : Nat} {a count : Int} {v : Value} {L : List Wt} (h : FQ w0 w fb p ao n cap k id room a count v L) (g : Grw w x) : FQ w0 x fb p ao n cap k id room a count v L :=
  ⟨h.m.later g, h.f.later g, h.fn, h.ne⟩
theorem FQ.step {w0 w x : World} {fb p : Nat} {ao : Option Addr} {n cap k id room : Nat} {a count count' : Int} {v v' : Value} {L L' : List Wt} (h : FQ w0 w fb p ao n cap k id room a count v L) (m : QM w0 x p a room count' v' L') (f : Frm (qf p v) w x) (hn : Near w v v') : FQ w0 x fb p ao n cap k id room a count' v' L' :=
  ⟨m, h.f.keep f h.ne, h.fn, by
    rintro (e | e)
    · exact h.ne (Or.inl e)
    · rcases hn with hn | ⟨k', hk, hw⟩
      · exact h.ne (Or.inr (hn ▸ e))
      · rw [e] at hk
        injection hk with hk
        have := World.block_lt_of_cell? _ _ h.f.c0
        simp only at this
        omega⟩
theorem QM.put {w0 w : World} {p : Nat} {a room count : Int} {v : Value} {L : List Wt} (h : QM w0 w p a room count v L) (fb j : Nat) (u : Value) (hn : ¬ qf p v fb) (hf : w0.heap.size ≤ fb) : QM w0 (w.setCell ⟨fb, j, none⟩ u) p a room count v L :=
  ⟨h.q.keep (frm_set (F := fun k => k = fb) w ⟨fb, j, none⟩ u rfl) (fun _ hk e => hn (e ▸ hk)), h.g.set hf u, h.pn, h.vn⟩
theorem FQ.setk {w0 w : World} {fb p : Nat} {ao : Option Addr} {n cap k id room : Nat} {a count : Int} {v : Value} {L : List Wt} (h : FQ w0 w fb p ao n cap k id room a count v L) (k' : Nat) : FQ w0 (w.setCell ⟨fb, 2, none⟩ (.int .i64 k')) fb p ao n cap k' id room a count v L :=
  ⟨h.m.put fb 2 _ h.ne h.fn, h.f.setk k', h.fn, h.ne⟩
theorem FQ.seti {w0 w : World} {fb p : Nat} {ao : Option Addr} {n cap k id room : Nat} {a count : Int} {v : Value} {L : List Wt} (h : FQ w0 w fb p ao n cap k id room a count v L) (i' : Nat) : FQ w0 (w.setCell ⟨fb, 3, none⟩ (.int .i64 i')) fb p ao n cap k i' room a count v L :=
  ⟨h.m.put fb 3 _ h.ne h.fn, h.f.seti i', h.fn, h.ne⟩
theorem FQ.len {w0 w : World} {fb p : Nat} {ao : Option Addr} {n cap k id room : Nat} {a count : Int} {v : Value} {L : List Wt} (h : FQ w0 w fb p ao n cap k id room a count v L) {m : Nat} (hm : L.length = m) (q : GW w) :
    Calls Try.prog 18 #[.pointer (some ⟨p, 0, none⟩)] q.x fun e w' => e = .returned (.int .i64 m) ∧ q.x = w' := len_is (h.m.q.later q.h) hm

set_option maxHeartbeats 2000000 in
set_option maxRecDepth 100000 in
theorem on_is (w0 w : World) (fb p : Nat) (ao : Option Addr) (n cap k id room : Nat) (a count : Int) (v : Value) (L : List Wt) (acts : List Wt) (ha : Lies w0 ao (cw acts)) (hn : acts.length = n)
    (h : FQ w0 w fb p ao n cap k id room a count v L) (hk : k ≤ n) (hl : L.length ≤ room) (hr : room ≤ 1000) (hi : 1 ≤ id) (hi2 : id ≤ 1000000000) (hj : J id L) (hnn : n ≤ 9223372036854775807) :
    Calls Try.prog 24 #[.pointer (some ⟨fb, 0, none⟩)] w fun e w' => e = .returned (.bool true) ∧ ∃ k' id' v' L', FQ w0 w' fb p ao n cap k' id' room a count v' L' ∧ k' ≤ n ∧ Fed L L' count room id id' := by
  have A := Lib.hid ha
  have HA := Lib.hid hn
  have H := Lib.hid (And.intro h (Fed.none (count := count) hl hj hi))
  have HI := Lib.hid hi2
  clear ha hn h hj hl hi hi2
  go_enter Try.func24, Try.ntmps24
  go_wp2_with fail
  go_loopg [] room (fun g wr => ∃ k' id' v' L', FQ w0 wr fb p ao n cap k' id' room a count v' L' ∧ k' ≤ n ∧ Fed L L' count room id id' ∧ room - L'.length ≤ g)
  case atStart => exact ⟨k, id, v, L, H.out.1, hk, H.out.2, by omega⟩
  case round =>
    obtain ⟨k1, i1, v1, L1, hf, hk1, hd, hg⟩ := hrel
    have F := Lib.hid hf
    have D := Lib.hid hd
    obtain ⟨m, hm⟩ : ∃ m, L1.length = m := ⟨_, rfl⟩
    have HM := Lib.hid hm
    have CL := Lib.hid (hf.len hm)
    rw [hm] at hg
    have m0 := gw_cell hf.f.c0
    have m4 := gw_cell hf.f.c4
    clear hf hd hm
    by_cases c : m < room
    · have d1 : decide (m < room) = true := by simp [c]
      have hi1 : i1 ≤ 2000000000 := by have := D.out.ids; have := D.out.len; have := HI.out; omega
      go_wp2_with fail
      refine wp_region_grown (by kernel_rfl) (by kernel_rfl) ?_
      repeat (go_big_quiet_step (first | (go_at_call 18; with_reducible exact calls_grown_same (CL.out _))))
      refine wpQuiet_nil ?_
      rintro _ ⟨q, rfl⟩
      obtain ⟨w2, hw2⟩ : ∃ w2, q.x = w2 := ⟨_, rfl⟩
      have F1 := Lib.hid (F.out.later q.h)
      rw [hw2] at F1 ⊢
      clear m0 m4 hw2
      have m1 := gw_cell F1.out.f.c1
      have m2 := gw_cell F1.out.f.c2
      by_cases ck : k1 < n
      · have d2 : decide (k1 < n) = true := by simp [ck]
        go_wp2_with fail
        refine wp_region_grown (by kernel_rfl) (by kernel_rfl) ?_
        repeat (go_big_quiet_step (fail))
        refine wpQuiet_nil ?_
        rintro _ ⟨q, rfl⟩
        obtain ⟨w3, hw3⟩ : ∃ w3, q.x = w3 := ⟨_, rfl⟩
        have F2 := Lib.hid (F1.out.later q.h)
        rw [hw3] at F2 ⊢
        clear m1 m2 hw3
        obtain ⟨ab, off, rfl, e0, e1, e2⟩ := wlies_at (A.out.later F2.out.m.g) (show k1 < acts.length by rw [HA.out]; exact ck)
        obtain ⟨act, hact⟩ : ∃ x, acts[k1]'(by rw [HA.out]; exact ck) = x := ⟨_, rfl⟩
        rw [hact] at e0 e1 e2
        obtain ⟨ax, ay, az⟩ := act
        simp only at e0 e1 e2
        clear hact
        have c0 := F2.out.f.c0
        have c1 := F2.out.f.c1
        have c2 := F2.out.f.c2
        have c3 := F2.out.f.c3
        have c4 := F2.out.f.c4
        have f2 := F2.out.f.f2
        have f3 := F2.out.f.f3
        have d3 : k1 < n := ck
        go_wp2_with fail
        have SS : Hid (∀ u, Grw w3 u → (u.cell? ⟨fb, 1, none⟩ = some (.slice (some ⟨ab, off, none⟩) n cap) ∧ u.cell? ⟨fb, 2, none⟩ = some (.int .i64 (k1 : Nat)) ∧ u.cell? ⟨ab, off + k1 * 3, none⟩ = some (.int .i64 ax) ∧ u.cell? ⟨ab, off + k1 * 3 + 1, none⟩ = some (.int .i64 ay) ∧ u.cell? ⟨ab, off + k1 * 3 + 2, none⟩ = some (.int .i64 az))) :=
          (fun u g => ⟨g.cell c1, g.cell c2, g.cell e0, g.cell e1, g.cell e2⟩ : ∀ u, Grw w3 u → (u.cell? ⟨fb, 1, none⟩ = some (.slice (some ⟨ab, off, none⟩) n cap) ∧ u.cell? ⟨fb, 2, none⟩ = some (.int .i64 (k1 : Nat)) ∧ u.cell? ⟨ab, off + k1 * 3, none⟩ = some (.int .i64 ax) ∧ u.cell? ⟨ab, off + k1 * 3 + 1, none⟩ = some (.int .i64 ay) ∧ u.cell? ⟨ab, off + k1 * 3 + 2, none⟩ = some (.int .i64 az)))
        go_cut [4] from 26 to 36 (fun s4 wx => ∃ xb, s4 = .pointer (some ⟨xb, 0, none⟩) ∧ w3.heap.size ≤ xb ∧ Bx wx xb (.int .i64 ax) (.int .i64 ay) (.int .i64 az) ∧ Grw w3 wx)
        case first =>
          go_region_held3 (fun u => u.cell? ⟨fb, 1, none⟩ = some (.slice (some ⟨ab, off, none⟩) n cap) ∧ u.cell? ⟨fb, 2, none⟩ = some (.int .i64 (k1 : Nat)) ∧ u.cell? ⟨ab, off + k1 * 3, none⟩ = some (.int .i64 ax) ∧ u.cell? ⟨ab, off + k1 * 3 + 1, none⟩ = some (.int .i64 ay) ∧ u.cell? ⟨ab, off + k1 * 3 + 2, none⟩ = some (.int .i64 az))
            ((refine SS.out _ ?_; repeat (first | with_reducible exact Grw.rfl' _ | with_reducible refine Grw.drew ?_ | with_reducible refine Grw.alloc ?_ _))) (fail)
          all_goals
            go_wp2_with fail
            go_meet
            case rel => exact ⟨_, rfl, Nat.le_refl _, ⟨by simp [go_sem], by simp [go_sem], by simp [go_sem]⟩, (by repeat (first | with_reducible exact Grw.rfl' _ | with_reducible refine Grw.drew ?_ | with_reducible refine Grw.alloc ?_ _))⟩
        case rest =>
          obtain ⟨xb, rfl, hxb, hbx, hg⟩ := hcut
          have F3 := Lib.hid (F2.out.later hg)
          have hfb := World.block_lt_of_cell? _ _ c2
          simp only at hfb
          clear c0 c1 c2 c3 c4 f2 f3 e0 e1 e2
          have c0 := F3.out.f.c0
          have c1 := F3.out.f.c1
          have c2 := F3.out.f.c2
          have c3 := F3.out.f.c3
          have c4 := F3.out.f.c4
          have f2 := F3.out.f.f2
          have f3 := F3.out.f.f3
          have q6 : IntKind.i64.wrap ((k1 : Int) + 1) = ((k1 + 1 : Nat) : Int) := by simp [IntKind.wrap_i64]; omega
          obtain ⟨k2, hk2⟩ : ∃ k2, k1 + 1 = k2 := ⟨_, rfl⟩
          rw [hk2] at q6
          have F4 := Lib.hid (F3.out.setk k2)
          have hne : ¬ xb = fb := by omega
          have ff : Frm (fun k => k = fb) wc (wc.setCell ⟨fb, 2, none⟩ (.int .i64 (k2 : Nat))) := frm_set wc ⟨fb, 2, none⟩ _ rfl
          have x0 := ff.cell hbx.c0 hne
          have x2 := ff.cell hbx.c2 hne
          have hk2n : k2 ≤ n := by omega
          have q8 : (0 : Int) ≤ az % 8 ∧ az % 8 < 8 := ⟨Int.emod_nonneg _ (by decide), Int.emod_lt_of_pos _ (by decide)⟩
          have MO := Lib.hid (fun w => mod_any az 8 w (by decide) (by decide))
          obtain ⟨cl, hcl⟩ : ∃ cl, az % (8 : Int) = cl := ⟨_, rfl⟩
          rw [hcl] at q8
          have MO2 : Hid (∀ w, Calls Try.prog 11 #[.int .i64 az, .int .i64 8] w fun e w' => e = .returned (.int .i64 cl) ∧ w = w') := (fun w => by have := MO.out w; rw [← hcl]; exact this : ∀ w, Calls Try.prog 11 #[.int .i64 az, .int .i64 8] w fun e w' => e = .returned (.int .i64 cl) ∧ w = w')
          have Q8 := Lib.hid q8
          clear hbx hg hk2 ff hcl q8 hfb
          obtain ⟨t5, ht5⟩ : ∃ t, (ax.tmod 5 == 0) = t := ⟨_, rfl⟩
          cases t5 with
          | true =>
            go_wp2_with fail
            go_ret
            exact ⟨rfl, k2, i1, v1, L1, F4.out, hk2n, D.out⟩
          | false =>
            go_wp2_with fail
            refine (MO2.out _).mono ?_
            rintro _ _ ⟨rfl, rfl⟩
            clear x0 x2 c0 c1 c2 c3 c4 f2 f3
            have c0 := F4.out.f.c0
            have c1 := F4.out.f.c1
            have c2 := F4.out.f.c2
            have c3 := F4.out.f.c3
            have c4 := F4.out.f.c4
            have f2 := F4.out.f.f2
            have f3 := F4.out.f.f3
            have q3 : IntKind.i64.wrap ((i1 : Int) + 1) = ((i1 + 1 : Nat) : Int) := by simp [IntKind.wrap_i64]; omega
            obtain ⟨i2, hi2⟩ : ∃ i2, i1 + 1 = i2 := ⟨_, rfl⟩
            rw [hi2] at q3
            have hcs : (((wc.setCell ⟨fb, 2, none⟩ (.int .i64 (k2 : Nat)))).setCell ⟨fb, 3, none⟩ (.int .i64 (i2 : Nat))).cell? ⟨fb, 3, none⟩ = some (.int .i64 (i2 : Nat)) := World.cell?_setCell_same (u := _) _ _ _ c3
            have hc0s : (((wc.setCell ⟨fb, 2, none⟩ (.int .i64 (k2 : Nat)))).setCell ⟨fb, 3, none⟩ (.int .i64 (i2 : Nat))).cell? ⟨fb, 0, none⟩ = some (.pointer (some ⟨p, 0, none⟩)) := ((Rest.set fb 3 _ _) 0 (by decide)).1.trans c0
            have F5 := Lib.hid (F4.out.seti i2)
            have HI2 := Lib.hid hi2
            have q4 : IntKind.i64.wrap (-(i2 : Int)) = -(i2 : Int) := by simp [IntKind.wrap_i64]; omega
            have PU := Lib.hid (fun (who : Int) (hw : who.natAbs = i1 + 1) => m_put F5.out.m who cl Q8.out.1 Q8.out.2 (D.out.jj.new D.out.one hw) (by have := HM.out; omega) (by have := HM.out; omega))
            clear c1 c2 c4 f2 hi2
            by_cases c3m : i2 % 3 = 0
            · have d5 : ((i2 : Int).tmod 3 == 0) = true := by rw [Int.tmod_eq_emod_of_nonneg (by omega)]; simp; omega
              go_wp2_with fail
              refine (PU.out (-(i2 : Int)) (by have := HI2.out; omega)).mono ?_
              rintro _ w6 ⟨rfl, v6, m6, f6, n6⟩
              have F6 := Lib.hid (F5.out.step m6 f6 n6)
              have D6 := Lib.hid (D.out.add (by have := HM.out; omega) (show (-(i2 : Int)).natAbs = i1 + 1 by have := HI2.out; omega) Q8.out.1 Q8.out.2)
              clear m6 f6 n6 hcs hc0s f3
              go_wp2_with fail
              go_roundg (room - (L1.length + 1))
              case rel => exact ⟨k2, i2, v6, _, F6.out, by omega, by have := D6.out; rwa [HI2.out] at this, by simp⟩
              case measure => have := HM.out; omega
            · have d5 : ((i2 : Int).tmod 3 == 0) = false := by rw [Int.tmod_eq_emod_of_nonneg (by omega)]; simp; omega
              go_wp2_with fail
              refine (PU.out (i2 : Int) (by have := HI2.out; omega)).mono ?_
              rintro _ w6 ⟨rfl, v6, m6, f6, n6⟩
              have F6 := Lib.hid (F5.out.step m6 f6 n6)
              have D6 := Lib.hid (D.out.add (by have := HM.out; omega) (show (i2 : Int).natAbs = i1 + 1 by have := HI2.out; omega) Q8.out.1 Q8.out.2)
              clear m6 f6 n6 hcs hc0s f3
              go_wp2_with fail
              go_roundg (room - (L1.length + 1))
              case rel => exact ⟨k2, i2, v6, _, F6.out, by omega, by have := D6.out; rwa [HI2.out] at this, by simp⟩
              case measure => have := HM.out; omega
      · have d2 : decide (k1 < n) = false := by simp; omega
        go_wp2_with fail
        refine wp_region_grown (by kernel_rfl) (by kernel_rfl) ?_
        repeat (go_big_quiet_step (fail))
        refine wpQuiet_nil ?_
        rintro _ ⟨q, rfl⟩
        obtain ⟨w3, hw3⟩ : ∃ w3, q.x = w3 := ⟨_, rfl⟩
        have F2 := Lib.hid (F1.out.later q.h)
        rw [hw3] at F2 ⊢
        clear m1 m2 hw3
        have c0 := F2.out.f.c0
        have c1 := F2.out.f.c1
        have c2 := F2.out.f.c2
        have c3 := F2.out.f.c3
        have c4 := F2.out.f.c4
        have f2 := F2.out.f.f2
        have f3 := F2.out.f.f3
        have q3 : IntKind.i64.wrap ((i1 : Int) + 1) = ((i1 + 1 : Nat) : Int) := by simp [IntKind.wrap_i64]; omega
        obtain ⟨i2, hi2⟩ : ∃ i2, i1 + 1 = i2 := ⟨_, rfl⟩
        rw [hi2] at q3
        have hcs : ((w3).setCell ⟨fb, 3, none⟩ (.int .i64 (i2 : Nat))).cell? ⟨fb, 3, none⟩ = some (.int .i64 (i2 : Nat)) := World.cell?_setCell_same (u := _) _ _ _ c3
        have hc0s : ((w3).setCell ⟨fb, 3, none⟩ (.int .i64 (i2 : Nat))).cell? ⟨fb, 0, none⟩ = some (.pointer (some ⟨p, 0, none⟩)) := ((Rest.set fb 3 _ _) 0 (by decide)).1.trans c0
        have F5 := Lib.hid (F2.out.seti i2)
        have HI2 := Lib.hid hi2
        have q4 : IntKind.i64.wrap (-(i2 : Int)) = -(i2 : Int) := by simp [IntKind.wrap_i64]; omega
        have PU := Lib.hid (fun (who : Int) (hw : who.natAbs = i1 + 1) => m_put F5.out.m who 0 (show (0 : Int) ≤ 0 ∧ (0 : Int) < 8 by decide).1 (show (0 : Int) ≤ 0 ∧ (0 : Int) < 8 by decide).2 (D.out.jj.new D.out.one hw) (by have := HM.out; omega) (by have := HM.out; omega))
        clear c1 c2 c4 f2 hi2
        by_cases c3m : i2 % 3 = 0
        · have d5 : ((i2 : Int).tmod 3 == 0) = true := by rw [Int.tmod_eq_emod_of_nonneg (by omega)]; simp; omega
          go_wp2_with fail
          refine (PU.out (-(i2 : Int)) (by have := HI2.out; omega)).mono ?_
          rintro _ w6 ⟨rfl, v6, m6, f6, n6⟩
          have F6 := Lib.hid (F5.out.step m6 f6 n6)
          have D6 := Lib.hid (D.out.add (by have := HM.out; omega) (show (-(i2 : Int)).natAbs = i1 + 1 by have := HI2.out; omega) (show (0 : Int) ≤ 0 ∧ (0 : Int) < 8 by decide).1 (show (0 : Int) ≤ 0 ∧ (0 : Int) < 8 by decide).2)
          clear m6 f6 n6 hcs hc0s f3
          go_wp2_with fail
          go_roundg (room - (L1.length + 1))
          case rel => exact ⟨k1, i2, v6, _, F6.out, by omega, by have := D6.out; rwa [HI2.out] at this, by simp⟩
          case measure => have := HM.out; omega
        · have d5 : ((i2 : Int).tmod 3 == 0) = false := by rw [Int.tmod_eq_emod_of_nonneg (by omega)]; simp; omega
          go_wp2_with fail
          refine (PU.out (i2 : Int) (by have := HI2.out; omega)).mono ?_
          rintro _ w6 ⟨rfl, v6, m6, f6, n6⟩
          have F6 := Lib.hid (F5.out.step m6 f6 n6)
          have D6 := Lib.hid (D.out.add (by have := HM.out; omega) (show (i2 : Int).natAbs = i1 + 1 by have := HI2.out; omega) (show (0 : Int) ≤ 0 ∧ (0 : Int) < 8 by decide).1 (show (0 : Int) ≤ 0 ∧ (0 : Int) < 8 by decide).2)
          clear m6 f6 n6 hcs hc0s f3
          go_wp2_with fail
          go_roundg (room - (L1.length + 1))
          case rel => exact ⟨k1, i2, v6, _, F6.out, by omega, by have := D6.out; rwa [HI2.out] at this, by simp⟩
          case measure => have := HM.out; omega
    · have d1 : decide (m < room) = false := by simp; omega
      go_wp2_with fail
      refine wp_region_grown (by kernel_rfl) (by kernel_rfl) ?_
      repeat (go_big_quiet_step (first | (go_at_call 18; with_reducible exact calls_grown_same (CL.out _))))
      refine wpQuiet_nil ?_
      rintro _ ⟨q, rfl⟩
      have F1 := Lib.hid (F.out.later q.h)
      clear m0 m4
      go_wp2_with fail
      go_ret
      exact ⟨rfl, k1, i1, v1, L1, F1.out, hk1, D.out⟩
end Go.Proofs.Ytdindhmbofddoaa
