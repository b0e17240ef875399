/- The document's Good and find. -/
import Derived.Test.YtjkhgpdhhnfmlaaNj
import Derived.Test.YtjkhgpdhhnfmlaaSb
namespace Go.Proofs.Ytjkhgpdhhnfmlaa
open Go.RowKit
open RG (Du)
open PM
set_option linter.unusedSimpArgs false

theorem getD_gt {l : List Du} {k : Nat} (h : k < l.length) (d : Du) : l.getD k d = l[k] := by simp [h]
theorem gd_no_less {l : List Du} {j : Nat} (h : j + 1 < l.length) (e : RG.less (l[j]'(by omega)) l[j + 1] = false) : gdB l = false :=
  gdB_f (fun g => by have := (gd_strict.1 g).1 j h; rw [e] at this; cases this)
theorem gd_no_once {l : List Du} {k i : Nat} (hk : k < i) (hi : i < l.length) (e : (l[k]'(by omega)).id = l[i].id) : gdB l = false :=
  gdB_f (fun g => by have := nodup_at g.2 (by omega) hi e; omega)
theorem gd_all {l : List Du} (h1 : ∀ j (h : j + 1 < l.length), RG.less (l[j]'(by omega)) l[j + 1] = true) (h2 : (ids l).Nodup) : gdB l = true := gdB_t (gd_strict.2 ⟨h1, h2⟩)
theorem lies_all {w : World} {ao : Option Addr} {l : List Du} (h : Lies w ao (cd l)) (h0 : 0 < l.length) : ∃ b off, ao = some ⟨b, off, none⟩ ∧ ∀ x, Grw w x → ∀ j (hj : j < l.length), x.cell? ⟨b, off + j * 2, none⟩ = some (.int .i64 l[j].id) ∧ x.cell? ⟨b, off + j * 2 + 1, none⟩ = some (.int .u64 (l[j].t : Nat)) := by
  obtain ⟨b, off, e, _⟩ := lies_at h h0
  refine ⟨b, off, e, fun _ g j hj => ?_⟩
  obtain ⟨b2, off2, e2, c0, c1⟩ := lies_at (h.later g) hj
  rw [e] at e2
  injection e2 with e2
  injection e2 with e3 e4
  subst e3 e4
  exact ⟨c0, c1⟩
set_option maxHeartbeats 2000000 in
set_option maxRecDepth 100000 in
theorem rgood_is (ao : Option Addr) (cap : Nat) (l : List Du) (n : Nat) (w : World) (hl : Lies w ao (cd l)) (hb : l.length ≤ 1000000) (hn : l.length = n) :
    Calls Try.prog 15 #[.slice ao n cap] w fun e w' => e = .returned (.bool (gdB l)) ∧ Grw w w' := by
  have LI := Lib.hid hl
  have HN := Lib.hid hn
  rw [hn] at hb
  clear hl hn
  go_enter Try.func15, Try.ntmps15
  go_wp2_with fail
  go_loopw [3] (fun s3 wr => ∃ i : Nat, s3 = .int .i64 i ∧ i ≤ n ∧ Grw w wr ∧ (∀ j (h : j + 1 < l.length), j + 1 < i → RG.less (l[j]'(by omega)) l[j + 1] = true) ∧ (ids (l.take i)).Nodup) (fun s3 _ => n - (intOf s3).toNat)
  case atStart => exact ⟨0, rfl, Nat.zero_le _, Grw.rfl' _, fun j h hj => by omega, by simp [ids]⟩
  case round =>
    obtain ⟨i, rfl, hi, hg, h1, h2⟩ := hrel
    have G := Lib.hid hg
    have H := Lib.hid (And.intro h1 h2)
    clear h1 h2
    by_cases ci : i < n
    · have d1 : decide (i < n) = true := by simp [ci]
      have hil : i < l.length := by rw [HN.out]; exact ci
      have q5 : IntKind.i64.wrap ((i : Int) + 1) = ((i + 1 : Nat) : Int) := by simp [IntKind.wrap_i64]; omega
      obtain ⟨b, off, rfl, hc⟩ := lies_all LI.out (by omega)
      have CC := Lib.hid hc
      clear hc
      by_cases c0i : i = 0
      · subst c0i
        have d2 : decide ((0 : Nat) < 0) = false := by simp
        go_wp2_with fail
        refine wp_region_grown (by kernel_rfl) (by kernel_rfl) ?_
        repeat (go_big_quiet_step (fail))
        refine wpQuiet_nil ?_
        rintro _ ⟨q, rfl⟩
        have G1 := Lib.hid (G.out.trans q.h)
        clear hg
        go_wp2_with fail
        refine wp_loop_rounds 1 ?_
        rw [rounds_succ]
        go_wp2_with fail
        go_roundw
        case rel => exact ⟨1, by first | rfl | go_num, by omega, G1.out, fun j h hj => by omega, nodup_step hil (by simp [ids]) (by simp [ids])⟩
        case measure => simp [intOf]; omega
      · obtain ⟨m, rfl⟩ : ∃ m, i = m + 1 := ⟨i - 1, by omega⟩
        have d2 : decide (0 < m + 1) = true := by simp
        obtain ⟨c0, c1⟩ := CC.out _ hg m (by omega)
        obtain ⟨e0, e1⟩ := CC.out _ hg (m + 1) hil
        obtain ⟨x, hx⟩ : ∃ x, l[m] = x := ⟨_, rfl⟩
        obtain ⟨y, hy⟩ : ∃ y, l[m + 1] = y := ⟨_, rfl⟩
        have q6 : IntKind.i64.wrap (((m + 1 : Nat) : Int) - 1) = (m : Int) := by simp [IntKind.wrap_i64]; omega
        rw [hx] at c0 c1
        rw [hy] at e0 e1
        obtain ⟨xi, xt⟩ := x
        obtain ⟨yi, yt⟩ := y
        simp only at c0 c1 e0 e1
        obtain ⟨r, hr⟩ : ∃ r, RG.less ⟨xi, xt⟩ ⟨yi, yt⟩ = r := ⟨_, rfl⟩
        have LE := Lib.hid (fun w => less_is ⟨xi, xt⟩ ⟨yi, yt⟩ r hr w)
        simp only [dv] at LE
        have IL := Lib.hid hil
        have HR : Hid (RG.less (l[m]'(by have := IL.out; omega)) (l[m + 1]'IL.out) = r) := (by rw [hx, hy]; exact hr : RG.less (l[m]'(by have := IL.out; omega)) (l[m + 1]'IL.out) = r)
        have d4 : decide (m < n) = true := by simp; omega
        clear hx hy hr hg
        have u0 := gw_cell c0
        have u1 := gw_cell c1
        have u2 := gw_cell e0
        have u3 := gw_cell e1
        clear c0 c1 e0 e1
        cases r with
        | false =>
          go_wp2_with fail
          refine wp_region_grown (by kernel_rfl) (by kernel_rfl) ?_
          repeat (go_big_quiet_step (first | (go_at_call 19; with_reducible exact calls_grown (LE.out _))))
          refine wpQuiet_nil ?_
          rintro _ ⟨q, rfl⟩
          have G1 := Lib.hid (G.out.trans q.h)
          clear u0 u1 u2 u3
          go_wp2_with fail
          go_ret
          exact ⟨by rw [gd_no_less IL.out HR.out]; rfl, G1.out⟩
        | true =>
          go_wp2_with fail
          refine wp_region_grown (by kernel_rfl) (by kernel_rfl) ?_
          repeat (go_big_quiet_step (first | (go_at_call 19; with_reducible exact calls_grown (LE.out _))))
          refine wpQuiet_nil ?_
          rintro _ ⟨q, rfl⟩
          have G1 := Lib.hid (G.out.trans q.h)
          clear u0 u1 u2 u3
          go_wp2_with fail
          go_loopw [4] (fun s4 wi => ∃ k : Nat, s4 = .int .i64 k ∧ k ≤ m + 1 ∧ Grw w wi ∧ ∀ j (h : j < l.length), j < k → l[j].id ≠ (l[m + 1]'IL.out).id) (fun s4 _ => m + 1 - (intOf s4).toNat)
          case atStart => exact ⟨0, rfl, Nat.zero_le _, G1.out, fun j h hj => by omega⟩
          case round =>
            obtain ⟨k, rfl, hk, hgi, hno⟩ := hrel
            have GI := Lib.hid hgi
            have NO := Lib.hid hno
            clear hno
            by_cases ck : k < m + 1
            · have d5 : decide (k < m + 1) = true := by simp [ck]
              have d6 : ((k : Int) < (m : Int) + 1) := by omega
              have d7 : decide (k < n) = true := by simp; omega
              have hkl : k < l.length := by have := IL.out; omega
              obtain ⟨c0, _⟩ := CC.out _ hgi k hkl
              obtain ⟨e0, _⟩ := CC.out _ hgi (m + 1) IL.out
              obtain ⟨zi, hz⟩ : ∃ z, (l[k]'hkl).id = z := ⟨_, rfl⟩
              obtain ⟨vi, hv⟩ : ∃ v, (l[m + 1]'IL.out).id = v := ⟨_, rfl⟩
              have HZ := Lib.hid (And.intro hz hv)
              rw [hz] at c0
              rw [hv] at e0
              have q7 : IntKind.i64.wrap ((k : Int) + 1) = ((k + 1 : Nat) : Int) := by simp [IntKind.wrap_i64]; omega
              have u0 := gw_cell c0
              have u2 := gw_cell e0
              obtain ⟨t, ht⟩ : ∃ t, (zi == vi) = t := ⟨_, rfl⟩
              have HT := Lib.hid ht
              clear hz hv c0 e0 hgi
              cases t with
              | true =>
                go_wp2_with fail
                refine wp_region_grown (by kernel_rfl) (by kernel_rfl) ?_
                repeat (go_big_quiet_step (fail))
                refine wpQuiet_nil ?_
                rintro _ ⟨q, rfl⟩
                have G2 := Lib.hid (GI.out.trans q.h)
                clear u0 u2
                go_wp2_with fail
                go_ret
                have e : (l[k]'hkl).id = (l[m + 1]'IL.out).id := by rw [HZ.out.1, HZ.out.2]; have := HT.out; simpa using this
                exact ⟨by rw [gd_no_once ck IL.out e]; rfl, G2.out⟩
              | false =>
                go_wp2_with fail
                refine wp_region_grown (by kernel_rfl) (by kernel_rfl) ?_
                repeat (go_big_quiet_step (fail))
                refine wpQuiet_nil ?_
                rintro _ ⟨q, rfl⟩
                have G2 := Lib.hid (GI.out.trans q.h)
                clear u0 u2
                go_wp2_with fail
                refine ⟨⟨k + 1, by first | rfl | go_num, by omega, G2.out, fun j h hj => ?_⟩, by simp [intOf]; omega⟩
                by_cases cjk : j = k
                · subst cjk; rw [HZ.out.1, HZ.out.2]; have := HT.out; simpa using this
                · exact NO.out j h (by omega)
            · have d5 : decide (k < m + 1) = false := by simp; omega
              obtain rfl : k = m + 1 := by omega
              clear hgi
              go_wp2_with fail
              go_roundw
              case rel =>
                refine ⟨m + 1 + 1, by first | rfl | go_num, by omega, GI.out, fun j h hj => ?_, nodup_step IL.out H.out.2 (fun hm => ?_)⟩
                · by_cases cjm : j = m
                  · subst cjm; exact HR.out
                  · exact H.out.1 j h (by omega)
                · obtain ⟨d, hd, e⟩ := mem_ids.1 hm
                  obtain ⟨j, hj, rfl⟩ := List.mem_iff_getElem.1 hd
                  rw [List.length_take] at hj
                  rw [List.getElem_take] at e
                  exact NO.out j (by omega) (by omega) e
              case measure => simp [intOf]; omega
    · have d1 : decide (i < n) = false := by simp; omega
      obtain rfl : n = i := by omega
      have e : l.take n = l := List.take_of_length_le (by rw [HN.out]; exact Nat.le_refl _)
      have R : Hid (gdB l = true) := (gd_all (fun j h => H.out.1 j h (by have := HN.out; omega)) (by have := H.out.2; rwa [e] at this) : gdB l = true)
      clear hg e
      go_wp2_with fail
      go_ret
      exact ⟨by rw [R.out]; rfl, G.out⟩
end Go.Proofs.Ytjkhgpdhhnfmlaa
