/- A wheel and a plan of the same timers, side by side. -/
import Derived.Test.YtjkhgpdhhnfmlaaDoorPe
import Derived.Test.YtjkhgpdhhnfmlaaDoorXt
import Derived.Test.YtjkhgpdhhnfmlaaDoorXy
import Derived.Deep.RegionHeld3
namespace Go.Proofs.YtjkhgpdhhnfmlaaDoor
namespace PL
open Go.RowKit
open RG (Du)
open PM
set_option linter.unusedSimpArgs false

theorem gl_gd {now : Nat} {L : List Du} (h : GL now L) : Gd L := ⟨h.srt, h.ids⟩
theorem gl_wis {now : Nat} {L : List Du} (h : GL now L) : Wis L := fun d hd => (h.bd d hd).1
theorem at_some {L : List Du} {i : Int} : (atO L i).isSome = true ↔ i ∈ ids L := by
  constructor
  · intro h
    obtain ⟨t, ht⟩ := Option.isSome_iff_exists.1 h
    exact mem_ids.2 ⟨_, atO_mem ht, rfl⟩
  · intro h
    rcases e : atO L i with _ | t
    · obtain ⟨d, hd, he⟩ := mem_ids.1 h
      exact absurd he (atO_no e d hd)
    · rfl
theorem at_none {L : List Du} {i : Int} (h : i ∉ ids L) : atO L i = none := atO_none (fun d hd e => h (mem_ids.2 ⟨d, hd, e⟩))
theorem del_vm (i : Int) (L : List Du) : VM.del i L = del i L := rfl
theorem del_out {L : List Du} {i : Int} (h : i ∉ ids L) : VM.del i L = L := VM.del_no (fun d hd e => h (mem_ids.2 ⟨d, hd, e⟩))
theorem del_head {d : Du} {l : List Du} (h : (ids (d :: l)).Nodup) : del d.id (d :: l) = l := by
  have := cut_del h (k := 0) (by simp) (i := d.id) rfl
  rw [← this]; simp
theorem ins_yes {now : Nat} {L : List Du} {i : Int} {t : Nat} (h : insE now L i t = 0) : i ∉ ids L ∧ insL now L i t = RG.put ⟨i, t⟩ L := by
  unfold insE at h
  unfold insL
  split at h
  · cases h
  · rename_i h1
    split at h
    · cases h
    · rename_i h2
      refine ⟨fun c => h1 (at_some.2 c), ?_⟩
      rw [if_neg h1, if_neg h2]
theorem ins_no {now : Nat} {L : List Du} {i : Int} {t : Nat} (h : ¬ insE now L i t = 0) : insL now L i t = L := by
  unfold insE at h
  unfold insL
  split
  · rfl
  · rename_i h1
    rw [if_neg h1] at h
    split
    · rfl
    · rename_i h2
      rw [if_neg h2] at h
      exact absurd rfl h
theorem take_upto {L : List Du} (h : RG.Srt L) (t : Nat) : L.takeWhile (dueP t) = upto t L ∧ L.dropWhile (dueP t) = past t L := by
  induction L with
  | nil => exact ⟨rfl, rfl⟩
  | cons d l ih =>
    have hs := List.pairwise_cons.1 h
    have ih := ih hs.2
    by_cases g : d.t ≤ t
    · have e : dueP t d = true := by unfold dueP; simpa using g
      unfold upto past at *
      rw [List.takeWhile_cons, List.dropWhile_cons, if_pos e, if_pos e]
      simp [g, ih]
    · have e : ¬ dueP t d = true := by unfold dueP; simpa using g
      have e1 : upto t (d :: l) = [] := by
        unfold upto
        rw [List.filter_eq_nil_iff]
        intro z hz
        rcases List.mem_cons.1 hz with rfl | hz
        · simpa using g
        · have := (RG.le_iff _ _).1 (hs.1 z hz)
          simp; omega
      have e2 : past t (d :: l) = d :: l := by
        have := upto_app h t
        rw [e1, List.nil_append] at this
        exact this
      rw [List.takeWhile_cons, List.dropWhile_cons, if_neg e, if_neg e, e1, e2]
      exact ⟨rfl, rfl⟩
/-- what Pop finds: the first one is due, or none is. -/
theorem pop_cases {L : List Du} (h : RG.Srt L) (t : Nat) : (∃ d l, L = d :: l ∧ d.t ≤ t ∧ ∃ k, upto t L = d :: k) ∨ ((∀ d ∈ L, t < d.t) ∧ upto t L = []) := by
  cases L with
  | nil => exact Or.inr ⟨fun d hd => (by cases hd), rfl⟩
  | cons d l =>
    by_cases g : d.t ≤ t
    · exact Or.inl ⟨d, l, rfl, g, upto t l, by unfold upto; simp [g]⟩
    · have hs := List.pairwise_cons.1 h
      have hall : ∀ z ∈ d :: l, t < z.t := fun z hz => by
        rcases List.mem_cons.1 hz with rfl | hz
        · omega
        · have := (RG.le_iff _ _).1 (hs.1 z hz)
          omega
      refine Or.inr ⟨hall, ?_⟩
      unfold upto
      rw [List.filter_eq_nil_iff]
      intro z hz
      have := hall z hz
      simp; omega

/-- the wheel at p and the plan v, of the same timers. -/
structure Jn (w0 w : World) (p now : Nat) (L : List Du) (v : Value) : Prop where
  m : MF w0 w p now L (fun k => v.ownBlock = some k)
  r : NewD w0 w v L
theorem Jn.gl {w0 w : World} {p now : Nat} {L : List Du} {v : Value} (h : Jn w0 w p now L v) : GL now L := h.m.mw.gl
theorem Jn.grw {w0 w : World} {p now : Nat} {L : List Du} {v : Value} (h : Jn w0 w p now L v) : Grw w0 w := h.m.grw
theorem NewD.later {w0 w x : World} {v : Value} {L : List Du} (h : NewD w0 w v L) (g : Grw w x) : NewD w0 x v L := ownsRow_frm h (g.frm (fun _ => False)) (fun _ _ e => e)
theorem NewD.kept {w0 w x : World} {v : Value} {L : List Du} (h : NewD w0 w v L) (g : Frm (fun k => ¬ v.ownBlock = some k) w x) : NewD w0 x v L := ownsRow_frm h g (fun _ hk c => c hk)
theorem Jn.later {w0 w x : World} {p now : Nat} {L : List Du} {v : Value} (h : Jn w0 w p now L v) (g : Grw w x) : Jn w0 x p now L v := ⟨h.m.later g, NewD.later h.r g⟩
/-- the plan's part is made anew, the wheel is left alone. -/
theorem Jn.plan {w0 w x y : World} {p now : Nat} {L : List Du} {F : Nat → Prop} {v : Value} (m : MF w0 w p now L F) (g : Grw w x) (n : NewD x y v L) (g2 : Grw x y) : Jn w0 y p now L v := by
  refine ⟨m.add (g.trans g2) (fun k hk => Or.inr ⟨Nat.le_trans (Below.size g) (NewD.ge n hk).1, (NewD.ge n hk).2⟩), ?_⟩
  exact base_up (base_down n) (fun k hk => Nat.le_trans (Below.size (m.grw.trans g)) (NewD.ge n hk).1)
theorem Jn.start {w0 w : World} {p now : Nat} (h : MW w0 w p now []) : Jn w0 w p now [] (.slice none 0 0) := ⟨h.mf.mono (fun k hk => by cases hk), NewD.nil _ _⟩
theorem len_F (w0 : World) (p now : Nat) (L : List Du) (F : Nat → Prop) (n : Nat) (w : World) (h : MF w0 w p now L F) (hn : L.length = n) : Calls Tryd.prog 30 #[.pointer (some ⟨p, 0, none⟩)] w fun e w' => e = .returned (.int .i64 (n : Nat)) ∧ w = w' := len_M w0 p now L n w h.mw hn
end PL
end Go.Proofs.YtjkhgpdhhnfmlaaDoor

/- PlanWheel: the walk of the law at this program. -/
namespace Go.Proofs.YtjkhgpdhhnfmlaaDoor
namespace PL
open Go.RowKit
open RG (Du)
open PM
set_option linter.unusedSimpArgs false
set_option linter.unusedVariables false

theorem del_len (i : Int) (L : List Du) : (del i L).length ≤ L.length := List.length_filter_le _ _
theorem put_len (d : Du) (L : List Du) : (RG.put d L).length = L.length + 1 := by rw [(RG.put_perm d L).length_eq]; rfl
set_option maxHeartbeats 16000000 in
set_option maxRecDepth 100000 in
theorem planwheel_walk (ao : Option Addr) (cap m : Nat) (l : List Du) (bo : Option Addr) (bcap n : Nat) (f : Nat → Nat) (now : Nat) (w : World) (t : Tab w) (hn : now < 2 ^ 64)
    (hl : Lies w ao (cd l)) (hw : Wis l) (ht : ∀ d ∈ l, d.t < 2 ^ 64) (hml : l.length = m) (hm : m ≤ 9223372036854775807) (hr : RowU w bo n f) (hf : ∀ j, j < n → f j < 2 ^ 64) (hnl : n ≤ 9223372036854775807) :
    Calls Tryd.prog 5 #[.int .u64 now, .slice ao m cap, .slice bo n bcap] w fun e w' => e = .returned (.bool true) ∧ Grw w w' := by
  have NX := Lib.hid (new_M now w t hn)
  have LI := Lib.hid (And.intro hl (And.intro hw ht))
  have RU := Lib.hid (And.intro hr hf)
  have HM := Lib.hid hml
  have WK := Lib.hid (fun u => wakes_any u)
  clear t hn hl hw ht hml hr hf
  go_enter Tryd.func5, Tryd.ntmps5
  go_wp2_with fail
  refine NX.out.mono ?_
  rintro _ w1 ⟨p, rfl, hm1⟩
  have J0 := Lib.hid (Jn.start hm1)
  clear hm1 NX
  go_wp2_with fail
  go_loopw [8, 9, 10] (fun u8 u9 u10 wr => ∃ (nw k i nL : Nat) (L : List Du) (ao' : Option Addr) (cap' : Nat), i ≤ 40 ∧ k ≤ 3 * i ∧ k ≤ m ∧ nL ≤ k ∧ L.length = nL ∧ u8 = .slice ao' nL cap' ∧ u9 = .int .i64 k ∧ u10 = .int .i64 i ∧ Jn w wr p nw L (.slice ao' nL cap')) (fun _ _ u10 _ => 40 - (intOf u10).toNat)
  case atStart => exact ⟨now, 0, 0, 0, [], none, 0, by omega, by omega, by omega, by omega, rfl, rfl, rfl, rfl, J0.out⟩
  case round =>
    clear J0
    obtain ⟨nw, k0, i, nL0, L0, ao0, cap0, hi40, hk3, hkm, hLk, hLn, rfl, rfl, rfl, hJ⟩ := hrel
    have J := Lib.hid hJ
    have HL := Lib.hid hLn
    clear hJ hLn
    by_cases hin : i < n ∧ i < 40
    · obtain ⟨hin, hi4⟩ := hin
      have hii : (i : Int) < (n : Int) := by omega
      have hi4i : (i : Int) < 40 := by omega
      go_wp2_with fail
      go_loopw [8, 9, 11] (fun u8 u9 u11 wr => ∃ (k c nL : Nat) (L : List Du) (ao' : Option Addr) (cap' : Nat), c ≤ 3 ∧ k ≤ 3 * i + c ∧ k ≤ m ∧ nL ≤ k ∧ L.length = nL ∧ u8 = .slice ao' nL cap' ∧ u9 = .int .i64 k ∧ u11 = .int .i64 c ∧ Jn w wr p nw L (.slice ao' nL cap')) (fun _ _ u11 _ => 3 - (intOf u11).toNat)
      case atStart => exact ⟨k0, 0, nL0, L0, ao0, cap0, by omega, by omega, hkm, hLk, HL.out, rfl, rfl, rfl, J.out⟩
      case round =>
        clear J HL hLk hk3 hkm
        obtain ⟨k, c, nL, L, ao', cap', hc3, hkc, hkm, hLk, hLn, rfl, rfl, rfl, hJ⟩ := hrel
        have J := Lib.hid hJ
        have HL := Lib.hid hLn
        by_cases hgo : c < 3 ∧ k < m
        · obtain ⟨hc, hk⟩ := hgo
          have hci : (c : Int) < 3 := by omega
          have hki : (k : Int) < (m : Int) := by omega
          have hkl : k < l.length := by rw [HM.out]; exact hk
          have hwx := LI.out.2.1 l[k] (List.getElem_mem hkl)
          have htx := LI.out.2.2 l[k] (List.getElem_mem hkl)
          obtain ⟨b, off, rfl, _⟩ := lies_at (LI.out.1.later hJ.grw) hkl
          obtain ⟨x, hx⟩ : ∃ x, l[k] = x := ⟨_, rfl⟩
          have CE : Hid (∀ u, Grw w u → u.cell? ⟨b, off + k * 2, none⟩ = some (.int .i64 x.id) ∧ u.cell? ⟨b, off + k * 2 + 1, none⟩ = some (.int .u64 (x.t : Nat))) := (fun u g => by
            obtain ⟨b', off', e', z0, z1⟩ := lies_at (LI.out.1.later g) hkl
            injection e' with e'
            injection e' with e1 e2
            subst e1 e2
            rw [hx] at z0 z1
            exact ⟨z0, z1⟩ : ∀ u, Grw w u → u.cell? ⟨b, off + k * 2, none⟩ = some (.int .i64 x.id) ∧ u.cell? ⟨b, off + k * 2 + 1, none⟩ = some (.int .u64 (x.t : Nat)))
          rw [hx] at hwx htx
          obtain ⟨xi, xt⟩ := x
          simp only at CE hwx htx
          have c0 := (CE.out wr hJ.grw).1
          have c1 := (CE.out wr hJ.grw).2
          have hfew : L.length < 900 := by rw [hLn]; omega
          obtain ⟨r, hE⟩ : ∃ r, insE nw L xi xt = r := ⟨_, rfl⟩
          by_cases hr0 : r = 0
          · subst hr0
            have IN := Lib.hid (insert_F w p nw L (RG.put ⟨xi, xt⟩ L) _ xi xt 0 wr.drew (hJ.m.later ((Grw.rfl' wr).drew)) hwx htx hfew hE (ins_yes hE).2)
            have NI := Lib.hid (ins_yes hE).1
            clear hJ hLn hwx htx hx hE hfew
            go_wp2_with fail
            go_region_held3 (fun u => u.cell? ⟨b, off + k * 2, none⟩ = some (.int .i64 xi) ∧ u.cell? ⟨b, off + k * 2 + 1, none⟩ = some (.int .u64 (xt : Nat))) (first | exact CE.out _ J.out.grw.drew | exact CE.out _ hm2.grw | go_keep)
              (first | (go_at_call 9; refine IN.out.mono ?_; rintro _ w2 ⟨rfl, hm2, hf2⟩))
            have r2 := NewD.later J.out.r ((Grw.rfl' wr).drew)
            have r2 := NewD.kept r2 hf2
            have o2 := NewD.out r2
            rw [HL.out] at o2
            obtain ⟨ao2, cap2, e2, l2, hc2, hz2⟩ := o2
            injection e2 with e5 _ e6
            subst e5 e6
            have PI := insert_yes _ _ L ⟨xi, xt⟩ nL w2 l2 (by rw [HL.out]; omega) (gl_wis J.out.gl) HL.out hc2 hz2 (gl_gd J.out.gl) NI.out
            unfold dv PlanQ at PI
            simp only at PI
            have PI := Lib.hid PI
            have M2 := Lib.hid hm2
            clear c0 c1
            have c0 := (CE.out w2 hm2.grw).1
            have c1 := (CE.out w2 hm2.grw).2
            clear hm2 hf2 r2 l2 hc2 hz2 IN
            go_wp2_with fail
            refine PI.out.mono ?_
            rintro _ w3 ⟨v3, rfl, hnew, hg3⟩
            have J3 := Lib.hid (Jn.plan M2.out (Grw.rfl' w2) hnew hg3)
            obtain ⟨ao3, cap3, rfl, _⟩ := NewD.out hnew
            obtain ⟨L3, hL3⟩ : ∃ L3, RG.put ⟨xi, xt⟩ L = L3 := ⟨_, rfl⟩
            have e3 := put_len ⟨xi, xt⟩ L
            rw [hL3, HL.out] at e3
            rw [hL3, e3] at J3
            rw [hL3, e3]
            have H3 := Lib.hid e3
            obtain ⟨n3, hn3⟩ : ∃ n3, nL + 1 = n3 := ⟨_, rfl⟩
            have hb3 : n3 ≤ k + 1 := by omega
            rw [hn3] at J3 H3 ⊢
            clear hnew hg3 hL3 e3 hn3 c0 c1 PI M2
            as_aux_lemma =>
              by_cases h4 : k % 4 = 3
              · obtain ⟨k', hk'⟩ : ∃ k', k = k' + 1 := ⟨k - 1, by omega⟩
                have hkl' : k' < l.length := by rw [HM.out]; omega
                have hwy := LI.out.2.1 l[k'] (List.getElem_mem hkl')
                obtain ⟨y, hy⟩ : ∃ y, l[k'] = y := ⟨_, rfl⟩
                have CY : Hid (∀ u, Grw w u → u.cell? ⟨b, off + k' * 2, none⟩ = some (.int .i64 y.id)) := (fun u g => by
                  obtain ⟨b', off', e', z0, _⟩ := lies_at (LI.out.1.later g) hkl'
                  injection e' with e'
                  injection e' with e1 e2
                  subst e1 e2
                  rw [hy] at z0
                  exact z0 : ∀ u, Grw w u → u.cell? ⟨b, off + k' * 2, none⟩ = some (.int .i64 y.id))
                rw [hy] at hwy
                obtain ⟨yi, yt⟩ := y
                simp only at CY hwy
                have z0 := CY.out w3 J3.out.grw
                have k1 : (k : Int) - 1 = (k' : Int) := by omega
                have k2 : IntKind.i64.wrap ((k : Int) - 1) = (k' : Int) := by rw [IntKind.wrap_i64]; omega
                have k3 : (k' : Int) < (m : Int) := by omega
                have t3 : (k : Int).tmod 4 = 3 := by rw [Int.tmod_eq_emod_of_nonneg (by omega)]; omega
                have t4 : ((k : Int).tmod 4 == 3) = true := by rw [t3]; rfl
                obtain ⟨ct, hct⟩ : ∃ ct, (atO L3 yi).getD 0 = ct := ⟨_, rfl⟩
                by_cases hmem : yi ∈ ids L3
                · have CW := Lib.hid (cancel_F w p nw L3 (VM.del yi L3) _ yi ct true w3 J3.out.m hwy hct (at_some.2 hmem) rfl)
                  have MM := Lib.hid hmem
                  clear hy hwy hct hmem hk'
                  go_wp2_with fail
                  refine CW.out.mono ?_
                  rintro _ w4 ⟨rfl, hm4, hf4⟩
                  have r4 := NewD.kept J3.out.r hf4
                  have o4 := NewD.out r4
                  rw [H3.out] at o4
                  obtain ⟨ao4, cap4, e4, l4, hc4, hz4⟩ := o4
                  injection e4 with e5 _ e6
                  subst e5 e6
                  have CP := Lib.hid (cancel_yes _ _ L3 n3 yi w4 l4 (by rw [H3.out]; omega) (gl_wis J3.out.gl) H3.out hc4 hz4 MM.out (gl_gd J3.out.gl))
                  have M4 := Lib.hid hm4
                  clear z0
                  have z0 := CY.out w4 hm4.grw
                  clear hm4 hf4 r4 l4 hc4 hz4 CW
                  go_wp2_with fail
                  refine CP.out.mono ?_
                  rintro _ w5 ⟨v5, rfl, hnew, hg5⟩
                  have J5 := Lib.hid (Jn.plan M4.out (Grw.rfl' w4) hnew hg5)
                  obtain ⟨ao5, cap5, rfl, _⟩ := NewD.out hnew
                  have LE := Lib.hid (del_len yi L3)
                  clear hnew hg5 z0 CP
                  go_wp2_with fail
                  go_roundw
                  case rel => exact ⟨k + 1, c + 1, (del yi L3).length, del yi L3, ao5, cap5, by omega, by omega, by omega, by have := LE.out; rw [H3.out] at this; omega, rfl, rfl, by go_num, by go_num, J5.out⟩
                  case measure => simp [intOf]; omega
                · have CW := Lib.hid (cancel_F w p nw L3 L3 _ yi ct false w3 J3.out.m hwy hct (by rw [at_none hmem]; rfl) (del_out hmem))
                  have MM := Lib.hid hmem
                  clear hy hwy hct hmem hk'
                  go_wp2_with fail
                  refine CW.out.mono ?_
                  rintro _ w4 ⟨rfl, hm4, hf4⟩
                  have r4 := NewD.kept J3.out.r hf4
                  have o4 := NewD.out r4
                  rw [H3.out] at o4
                  obtain ⟨ao4, cap4, e4, l4, hc4, hz4⟩ := o4
                  injection e4 with e5 _ e6
                  subst e5 e6
                  have CP := Lib.hid (cancel_none _ cap3 L3 n3 yi w4 l4 (by rw [H3.out]; omega) H3.out MM.out)
                  have J4 : Hid (Jn w w4 p nw L3 _) := (⟨hm4, r4⟩ : Jn w w4 p nw L3 _)
                  clear z0
                  have z0 := CY.out w4 hm4.grw
                  clear hm4 hf4 r4 l4 hc4 hz4 CW
                  go_wp2_with fail
                  refine CP.out.mono ?_
                  rintro _ w5 ⟨v5, rfl, hnew, hg5⟩
                  have J5 := Lib.hid (J4.out.later hg5)
                  clear hnew hg5 z0 CP
                  go_wp2_with fail
                  go_roundw
                  case rel => exact ⟨k + 1, c + 1, n3, L3, _, _, by omega, by omega, by omega, by omega, H3.out, rfl, by go_num, by go_num, J5.out⟩
                  case measure => simp [intOf]; omega
              · have t3 : ¬ (k : Int).tmod 4 = 3 := by rw [Int.tmod_eq_emod_of_nonneg (by omega)]; omega
                have t4 : ((k : Int).tmod 4 == 3) = false := by simp [t3]
                go_wp2_with fail
                go_roundw
                case rel => exact ⟨k + 1, c + 1, n3, L3, _, _, by omega, by omega, by omega, by omega, H3.out, rfl, by go_num, by go_num, J3.out⟩
                case measure => simp [intOf]; omega
          · have IN := Lib.hid (insert_F w p nw L L _ xi xt r wr.drew (hJ.m.later ((Grw.rfl' wr).drew)) hwx htx hfew hE (ins_no (by rw [hE]; exact hr0)))
            have hr1 : (r == 0) = false := by simp [hr0]
            clear hJ hLn hwx htx hx hE hfew
            go_wp2_with fail
            go_region_held3 (fun u => u.cell? ⟨b, off + k * 2, none⟩ = some (.int .i64 xi) ∧ u.cell? ⟨b, off + k * 2 + 1, none⟩ = some (.int .u64 (xt : Nat))) (first | exact CE.out _ J.out.grw.drew | exact CE.out _ hm2.grw | go_keep)
              (first | (go_at_call 9; refine IN.out.mono ?_; rintro _ w2 ⟨rfl, hm2, hf2⟩))
            have r2 := NewD.later J.out.r ((Grw.rfl' wr).drew)
            have r2 := NewD.kept r2 hf2
            have J2 : Hid (Jn w w2 p nw L (.slice ao' nL cap')) := (⟨hm2, r2⟩ : Jn w w2 p nw L (.slice ao' nL cap'))
            clear hm2 hf2 r2 IN c0 c1
            as_aux_lemma =>
              by_cases h4 : k % 4 = 3
              · obtain ⟨k', hk'⟩ : ∃ k', k = k' + 1 := ⟨k - 1, by omega⟩
                have hkl' : k' < l.length := by rw [HM.out]; omega
                have hwy := LI.out.2.1 l[k'] (List.getElem_mem hkl')
                obtain ⟨y, hy⟩ : ∃ y, l[k'] = y := ⟨_, rfl⟩
                have CY : Hid (∀ u, Grw w u → u.cell? ⟨b, off + k' * 2, none⟩ = some (.int .i64 y.id)) := (fun u g => by
                  obtain ⟨b', off', e', z0, _⟩ := lies_at (LI.out.1.later g) hkl'
                  injection e' with e'
                  injection e' with e1 e2
                  subst e1 e2
                  rw [hy] at z0
                  exact z0 : ∀ u, Grw w u → u.cell? ⟨b, off + k' * 2, none⟩ = some (.int .i64 y.id))
                rw [hy] at hwy
                obtain ⟨yi, yt⟩ := y
                simp only at CY hwy
                have z0 := CY.out w2 J2.out.grw
                have k1 : (k : Int) - 1 = (k' : Int) := by omega
                have k2 : IntKind.i64.wrap ((k : Int) - 1) = (k' : Int) := by rw [IntKind.wrap_i64]; omega
                have k3 : (k' : Int) < (m : Int) := by omega
                have t3 : (k : Int).tmod 4 = 3 := by rw [Int.tmod_eq_emod_of_nonneg (by omega)]; omega
                have t4 : ((k : Int).tmod 4 == 3) = true := by rw [t3]; rfl
                obtain ⟨ct, hct⟩ : ∃ ct, (atO L yi).getD 0 = ct := ⟨_, rfl⟩
                by_cases hmem : yi ∈ ids L
                · have CW := Lib.hid (cancel_F w p nw L (VM.del yi L) _ yi ct true w2 J2.out.m hwy hct (at_some.2 hmem) rfl)
                  have MM := Lib.hid hmem
                  clear hy hwy hct hmem hk'
                  go_wp2_with fail
                  refine CW.out.mono ?_
                  rintro _ w4 ⟨rfl, hm4, hf4⟩
                  have r4 := NewD.kept J2.out.r hf4
                  have o4 := NewD.out r4
                  rw [HL.out] at o4
                  obtain ⟨ao4, cap4, e4, l4, hc4, hz4⟩ := o4
                  injection e4 with e5 _ e6
                  subst e5 e6
                  have CP := Lib.hid (cancel_yes _ _ L nL yi w4 l4 (by rw [HL.out]; omega) (gl_wis J2.out.gl) HL.out hc4 hz4 MM.out (gl_gd J2.out.gl))
                  have M4 := Lib.hid hm4
                  clear z0
                  have z0 := CY.out w4 hm4.grw
                  clear hm4 hf4 r4 l4 hc4 hz4 CW
                  go_wp2_with fail
                  refine CP.out.mono ?_
                  rintro _ w5 ⟨v5, rfl, hnew, hg5⟩
                  have J5 := Lib.hid (Jn.plan M4.out (Grw.rfl' w4) hnew hg5)
                  obtain ⟨ao5, cap5, rfl, _⟩ := NewD.out hnew
                  have LE := Lib.hid (del_len yi L)
                  clear hnew hg5 z0 CP
                  go_wp2_with fail
                  go_roundw
                  case rel => exact ⟨k + 1, c + 1, (del yi L).length, del yi L, ao5, cap5, by omega, by omega, by omega, by have := LE.out; rw [HL.out] at this; omega, rfl, rfl, by go_num, by go_num, J5.out⟩
                  case measure => simp [intOf]; omega
                · have CW := Lib.hid (cancel_F w p nw L L _ yi ct false w2 J2.out.m hwy hct (by rw [at_none hmem]; rfl) (del_out hmem))
                  have MM := Lib.hid hmem
                  clear hy hwy hct hmem hk'
                  go_wp2_with fail
                  refine CW.out.mono ?_
                  rintro _ w4 ⟨rfl, hm4, hf4⟩
                  have r4 := NewD.kept J2.out.r hf4
                  have o4 := NewD.out r4
                  rw [HL.out] at o4
                  obtain ⟨ao4, cap4, e4, l4, hc4, hz4⟩ := o4
                  injection e4 with e5 _ e6
                  subst e5 e6
                  have CP := Lib.hid (cancel_none _ cap' L nL yi w4 l4 (by rw [HL.out]; omega) HL.out MM.out)
                  have J4 : Hid (Jn w w4 p nw L _) := (⟨hm4, r4⟩ : Jn w w4 p nw L _)
                  clear z0
                  have z0 := CY.out w4 hm4.grw
                  clear hm4 hf4 r4 l4 hc4 hz4 CW
                  go_wp2_with fail
                  refine CP.out.mono ?_
                  rintro _ w5 ⟨v5, rfl, hnew, hg5⟩
                  have J5 := Lib.hid (J4.out.later hg5)
                  clear hnew hg5 z0 CP
                  go_wp2_with fail
                  go_roundw
                  case rel => exact ⟨k + 1, c + 1, nL, L, _, _, by omega, by omega, by omega, by omega, HL.out, rfl, by go_num, by go_num, J5.out⟩
                  case measure => simp [intOf]; omega
              · have t3 : ¬ (k : Int).tmod 4 = 3 := by rw [Int.tmod_eq_emod_of_nonneg (by omega)]; omega
                have t4 : ((k : Int).tmod 4 == 3) = false := by simp [t3]
                go_wp2_with fail
                go_roundw
                case rel => exact ⟨k + 1, c + 1, nL, L, _, _, by omega, by omega, by omega, by omega, HL.out, rfl, by go_num, by go_num, J2.out⟩
                case measure => simp [intOf]; omega
        · have RW := RU.out.1.later hJ.grw
          obtain ⟨bb, boff, rfl, _⟩ := RW.at (by omega : 0 < n)
          obtain ⟨s, hs⟩ : ∃ s, f i = s := ⟨_, rfl⟩
          have hs64 := RU.out.2 i hin
          rw [hs] at hs64
          have CS : Hid (∀ u, Grw w u → u.cell? ⟨bb, boff + i, none⟩ = some (.int .u64 (s : Nat))) := (fun u g => by
            obtain ⟨b', off', e', hc⟩ := (RU.out.1.later g).at (by omega : 0 < n)
            injection e' with e'
            injection e' with e1 e2
            subst e1 e2
            have := hc i hin
            rwa [hs] at this : ∀ u, Grw w u → u.cell? ⟨bb, boff + i, none⟩ = some (.int .u64 (s : Nat)))
          clear RW
          have cs := CS.out wr hJ.grw
          by_cases hc' : c < 3
          · have hci : (c : Int) < 3 := by omega
            have hki : ¬ (k : Int) < (m : Int) := by omega
            by_cases h3 : i % 3 = 2
            · have t3 : (i : Int).tmod 3 = 2 := by rw [Int.tmod_eq_emod_of_nonneg (by omega)]; omega
              have t4 : ((i : Int).tmod 3 == 2) = true := by rw [t3]; rfl
              rcases pop_cases hJ.gl.srt s with ⟨d, l', rfl, hle, kk, hk⟩ | ⟨hall, hup⟩
              · as_aux_lemma =>
                  have PH := Lib.hid (pop_F_hit w p nw s d l' _ wr hJ.m hle)
                  have GD := Lib.hid (And.intro (gl_gd hJ.gl) (gl_wis hJ.gl))
                  have HK := Lib.hid hk
                  obtain ⟨di, dt⟩ := d
                  simp only at PH
                  clear hJ hLn hle hk
                  go_wp2_with fail
                  refine PH.out.mono ?_
                  rintro _ w2 ⟨rfl, hm2, hf2⟩
                  have r2 := NewD.kept J.out.r hf2
                  clear cs
                  have cs := CS.out w2 hm2.grw
                  have o2 := NewD.out r2
                  rw [HL.out] at o2
                  obtain ⟨ao2, cap2, e2, l2, hc2, hz2⟩ := o2
                  injection e2 with e5 _ e6
                  subst e5 e6
                  have gX := (Grw.rfl' w2).alloc (.cells #[.int .i64 di, .int .u64 (dt : Nat)] 42)
                  have SP := split_any ao' cap' s (⟨di, dt⟩ :: l') _ (l2.later gX) (by rw [HL.out]; omega)
                  unfold SplitQ at SP
                  rw [HK.out, HL.out] at SP
                  have SP := Lib.hid SP
                  have CP := Lib.hid (fun u (g : Grw w2 u) => cancel_yes ao' cap' (⟨di, dt⟩ :: l') nL di u (l2.later g) (by rw [HL.out]; omega) GD.out.2 HL.out hc2 hz2 (mem_ids.2 ⟨⟨di, dt⟩, List.mem_cons_self, rfl⟩) GD.out.1)
                  unfold PlanQ at CP
                  rw [del_head GD.out.1.2] at CP
                  have M2 := Lib.hid hm2
                  have hnl2 : l'.length + 1 = nL := HL.out
                  obtain ⟨n6, hn6⟩ : ∃ n6, l'.length = n6 := ⟨_, rfl⟩
                  rw [hn6] at hnl2
                  have H6 := Lib.hid hn6
                  have NL := Lib.hid (fun u (h : MF w u p dt l' (fun _ => False)) => len_F w p dt l' _ n6 u h H6.out)
                  clear PH hm2 hf2 r2 l2 hc2 hz2 hn6 gX
                  have cs2 : ∀ o : Obj, (w2.alloc o).cell? ⟨bb, boff + i, none⟩ = some (.int .u64 (s : Nat)) := fun o => ((Grw.rfl' w2).alloc o).cell cs
                  go_wp2_with fail
                  refine SP.out.mono ?_
                  rintro _ w3 ⟨u, v, rfl, hu, hv, hg⟩
                  obtain ⟨a5, c5, rfl, l5⟩ := NewD.row hu
                  obtain ⟨bz, oz, rfl, z0, z1⟩ := lies_at (l := (⟨di, dt⟩ : Du) :: kk) (j := 0) l5 (Nat.succ_pos _)
                  have z0 : w3.cell? ⟨bz, oz, none⟩ = some (.int .i64 di) := by simpa using z0
                  have z1 : w3.cell? ⟨bz, oz + 1, none⟩ = some (.int .u64 (dt : Nat)) := by simpa using z1
                  have K3 := Kp.grown hg
                  have y0 := K3.t.c0
                  have y1 := K3.t.c1
                  have G3 := Lib.hid hg.two
                  have yq : ∀ q, (w3.drewN q).cell? ⟨w2.heap.size, 0, none⟩ = some (.int .i64 di) := fun q => ((Grw.rfl' w3).drewN q).cell y0
                  obtain ⟨nd, hnd⟩ : ∃ nd, (⟨di, dt⟩ :: kk : List Du).length = nd := ⟨_, rfl⟩
                  rw [hnd]
                  have hnd2 : kk.length + 1 = nd := hnd
                  have d1 : (0 : Int) < (nd : Int) := by omega
                  have d2 : decide ((0 : Int) < (nd : Int)) = true := decide_eq_true d1
                  have d3 : decide (0 < nd) = true := by simp; omega
                  have d4 : 0 < nd := by omega
                  clear hu hv hg l5 K3 hnd hnd2 SP cs cs2
                  go_wp2_with fail
                  go_big_quiet (fail)
                  go_wp2_with fail
                  refine (CP.out _ (G3.out.drewN _)).mono ?_
                  rintro _ w6 ⟨v6, rfl, hnew, hg6⟩
                  have J6 := Lib.hid (Jn.plan M2.out (G3.out.drewN _) hnew hg6)
                  obtain ⟨ao6, cap6, rfl, _⟩ := NewD.out hnew
                  rw [H6.out]
                  rw [H6.out] at J6
                  clear hnew hg6 z0 z1 y0 y1 yq CP
                  go_wp2_with fail
                  refine (NL.out _ (J6.out.m.mono (fun _ c => c.elim))).mono ?_
                  rintro _ w9 ⟨rfl, rfl⟩
                  go_wp2_with fail
                  go_roundw
                  case rel => exact ⟨dt, k, i + 1, n6, l', ao6, cap6, by omega, by omega, hkm, by omega, H6.out, rfl, rfl, by go_num, J6.out⟩
                  case measure => simp [intOf]; omega
              · as_aux_lemma =>
                  obtain ⟨nw', hnw'⟩ : ∃ nw', max nw s = nw' := ⟨_, rfl⟩
                  have PH := Lib.hid (pop_F_miss w p nw s nw' L _ wr hJ.m hs64 hall hnw')
                  have HK := Lib.hid hup
                  clear hJ hLn hall hup hnw'
                  go_wp2_with fail
                  refine PH.out.mono ?_
                  rintro _ w2 ⟨rfl, hm2, hf2⟩
                  have r2 := NewD.kept J.out.r hf2
                  clear cs
                  have cs := CS.out w2 hm2.grw
                  have o2 := NewD.out r2
                  rw [HL.out] at o2
                  obtain ⟨ao2, cap2, e2, l2, hc2, hz2⟩ := o2
                  injection e2 with e5 _ e6
                  subst e5 e6
                  have gX := (Grw.rfl' w2).alloc (.cells #[.int .i64 0, .int .u64 0] 42)
                  have SP := split_any ao' cap' s L _ (l2.later gX) (by rw [HL.out]; omega)
                  unfold SplitQ at SP
                  rw [HK.out, HL.out] at SP
                  have SP := Lib.hid SP
                  have J2 : Hid (Jn w w2 p nw' L (.slice ao' nL cap')) := (⟨hm2, r2⟩ : Jn w w2 p nw' L (.slice ao' nL cap'))
                  have NL := Lib.hid (fun u (h : Jn w u p nw' L (.slice ao' nL cap')) => len_F w p nw' L _ nL u h.m HL.out)
                  clear PH hm2 hf2 r2 l2 hc2 hz2 gX
                  have cs2 : ∀ o : Obj, (w2.alloc o).cell? ⟨bb, boff + i, none⟩ = some (.int .u64 (s : Nat)) := fun o => ((Grw.rfl' w2).alloc o).cell cs
                  go_wp2_with fail
                  refine SP.out.mono ?_
                  rintro _ w3 ⟨u, v, rfl, hu, hv, hg⟩
                  obtain ⟨a5, c5, rfl, l5⟩ := NewD.row hu
                  have e0 : ([] : List Du).length = 0 := rfl
                  rw [e0]
                  have J3 := Lib.hid (J2.out.later hg.two)
                  clear hu hv hg l5 SP cs cs2 e0
                  go_wp2_with fail
                  go_big_quiet (fail)
                  go_wp2_with fail
                  refine (NL.out _ (J3.out.later ((Grw.rfl' w3).drewN _))).mono ?_
                  rintro _ w9 ⟨rfl, rfl⟩
                  go_wp2_with fail
                  go_roundw
                  case rel => exact ⟨nw', k, i + 1, nL, L, ao', cap', by omega, by omega, hkm, by omega, HL.out, rfl, rfl, by go_num, J3.out.later ((Grw.rfl' w3).drewN _)⟩
                  case measure => simp [intOf]; omega
            · have t3 : ¬ (i : Int).tmod 3 = 2 := by rw [Int.tmod_eq_emod_of_nonneg (by omega)]; omega
              have t4 : ((i : Int).tmod 3 == 2) = false := by simp [t3]
              by_cases hfit : nw + s < 2 ^ 64
              · as_aux_lemma =>
                  obtain ⟨to, hto⟩ : ∃ to, nw + s = to := ⟨_, rfl⟩
                  rw [hto] at hfit
                  have TU := take_upto hJ.gl.srt to
                  have AV := Lib.hid (advance_F w p nw s to L (past to L) (upto to L) _ wr hJ.m hfit hto TU.2 TU.1)
                  unfold AdvF at AV
                  have UL := Lib.hid (upto_len to L)
                  obtain ⟨lu, hlu⟩ : ∃ lu, upto to L = lu := ⟨_, rfl⟩
                  obtain ⟨lp, hlp⟩ : ∃ lp, past to L = lp := ⟨_, rfl⟩
                  have HU := Lib.hid (And.intro hlu hlp)
                  rw [hlu, hlp] at AV UL
                  clear hJ hLn hto hfit TU hlu hlp
                  go_wp2_with fail
                  refine AV.out.mono ?_
                  rintro _ w2 ⟨v1, rfl, hrow, hm2, hf2, hge⟩
                  have r2 := NewD.kept J.out.r hf2
                  have NX2 := Lib.hid (now_F w p to lp _ w2 hm2)
                  have o2 := NewD.out r2
                  rw [HL.out] at o2
                  obtain ⟨ao2, cap2, e2, l2, hc2, hz2⟩ := o2
                  injection e2 with e5 _ e6
                  subst e5 e6
                  have SP := split_any ao' cap' to L w2 l2 (by rw [HL.out]; omega)
                  unfold SplitQ at SP
                  rw [HU.out.1, HU.out.2, HL.out] at SP
                  have SP := Lib.hid SP
                  have M2 := Lib.hid hm2
                  have RW2 := Lib.hid hrow
                  clear cs hm2 hf2 r2 l2 hc2 hz2 hrow hge AV
                  go_wp2_with fail
                  refine NX2.out.mono ?_
                  rintro _ w3 ⟨rfl, rfl⟩
                  go_wp2_with fail
                  refine SP.out.mono ?_
                  rintro _ w3 ⟨u, v, rfl, hu, hv, hg⟩
                  have J3 := Lib.hid (Jn.plan M2.out (Grw.rfl' _) hv hg)
                  have DS := Lib.hid (dues_same v1 u lu w3 (by have := UL.out; rw [HL.out] at this; omega) (RW2.out.later hg) (NewD.row hu))
                  obtain ⟨ao6, cap6, rfl, _⟩ := NewD.out hv
                  obtain ⟨n6, hn6⟩ : ∃ n6, lp.length = n6 := ⟨_, rfl⟩
                  rw [hn6]
                  rw [hn6] at J3
                  have hb6 : n6 ≤ nL := by have := UL.out; rw [HL.out] at this; omega
                  have H6 := Lib.hid hn6
                  have NL := Lib.hid (fun u (h : Jn w u p to lp (.slice ao6 n6 cap6)) => len_F w p to lp _ n6 u h.m H6.out)
                  clear hu hv hg SP hn6
                  go_wp2_with fail
                  refine DS.out.mono ?_
                  rintro _ w4 ⟨rfl, hg⟩
                  have J4 := Lib.hid (J3.out.later hg)
                  clear hg
                  go_wp2_with fail
                  refine (NL.out _ J4.out).mono ?_
                  rintro _ w9 ⟨rfl, rfl⟩
                  go_wp2_with fail
                  go_roundw
                  case rel => exact ⟨to, k, i + 1, n6, lp, ao6, cap6, by omega, by omega, hkm, by omega, H6.out, rfl, rfl, by go_num, J4.out⟩
                  case measure => simp [intOf]; omega
              · as_aux_lemma =>
                  have AV := Lib.hid (advance_F_no w p nw s L _ wr hJ.m hs64 hfit)
                  have NL := Lib.hid (len_F w p nw L _ nL wr hJ.m HL.out)
                  clear hJ hLn hfit
                  go_wp2_with fail
                  refine AV.out.mono ?_
                  rintro _ w2 ⟨rfl, rfl⟩
                  go_wp2_with fail
                  refine NL.out.mono ?_
                  rintro _ w9 ⟨rfl, rfl⟩
                  go_wp2_with fail
                  go_roundw
                  case rel => exact ⟨nw, k, i + 1, nL, L, ao', cap', by omega, by omega, hkm, by omega, HL.out, rfl, rfl, by go_num, J.out⟩
                  case measure => simp [intOf]; omega
          · have hci : ¬ (c : Int) < 3 := by omega
            by_cases h3 : i % 3 = 2
            · have t3 : (i : Int).tmod 3 = 2 := by rw [Int.tmod_eq_emod_of_nonneg (by omega)]; omega
              have t4 : ((i : Int).tmod 3 == 2) = true := by rw [t3]; rfl
              rcases pop_cases hJ.gl.srt s with ⟨d, l', rfl, hle, kk, hk⟩ | ⟨hall, hup⟩
              · as_aux_lemma =>
                  have PH := Lib.hid (pop_F_hit w p nw s d l' _ wr hJ.m hle)
                  have GD := Lib.hid (And.intro (gl_gd hJ.gl) (gl_wis hJ.gl))
                  have HK := Lib.hid hk
                  obtain ⟨di, dt⟩ := d
                  simp only at PH
                  clear hJ hLn hle hk
                  go_wp2_with fail
                  refine PH.out.mono ?_
                  rintro _ w2 ⟨rfl, hm2, hf2⟩
                  have r2 := NewD.kept J.out.r hf2
                  clear cs
                  have cs := CS.out w2 hm2.grw
                  have o2 := NewD.out r2
                  rw [HL.out] at o2
                  obtain ⟨ao2, cap2, e2, l2, hc2, hz2⟩ := o2
                  injection e2 with e5 _ e6
                  subst e5 e6
                  have gX := (Grw.rfl' w2).alloc (.cells #[.int .i64 di, .int .u64 (dt : Nat)] 42)
                  have SP := split_any ao' cap' s (⟨di, dt⟩ :: l') _ (l2.later gX) (by rw [HL.out]; omega)
                  unfold SplitQ at SP
                  rw [HK.out, HL.out] at SP
                  have SP := Lib.hid SP
                  have CP := Lib.hid (fun u (g : Grw w2 u) => cancel_yes ao' cap' (⟨di, dt⟩ :: l') nL di u (l2.later g) (by rw [HL.out]; omega) GD.out.2 HL.out hc2 hz2 (mem_ids.2 ⟨⟨di, dt⟩, List.mem_cons_self, rfl⟩) GD.out.1)
                  unfold PlanQ at CP
                  rw [del_head GD.out.1.2] at CP
                  have M2 := Lib.hid hm2
                  have hnl2 : l'.length + 1 = nL := HL.out
                  obtain ⟨n6, hn6⟩ : ∃ n6, l'.length = n6 := ⟨_, rfl⟩
                  rw [hn6] at hnl2
                  have H6 := Lib.hid hn6
                  have NL := Lib.hid (fun u (h : MF w u p dt l' (fun _ => False)) => len_F w p dt l' _ n6 u h H6.out)
                  clear PH hm2 hf2 r2 l2 hc2 hz2 hn6 gX
                  have cs2 : ∀ o : Obj, (w2.alloc o).cell? ⟨bb, boff + i, none⟩ = some (.int .u64 (s : Nat)) := fun o => ((Grw.rfl' w2).alloc o).cell cs
                  go_wp2_with fail
                  refine SP.out.mono ?_
                  rintro _ w3 ⟨u, v, rfl, hu, hv, hg⟩
                  obtain ⟨a5, c5, rfl, l5⟩ := NewD.row hu
                  obtain ⟨bz, oz, rfl, z0, z1⟩ := lies_at (l := (⟨di, dt⟩ : Du) :: kk) (j := 0) l5 (Nat.succ_pos _)
                  have z0 : w3.cell? ⟨bz, oz, none⟩ = some (.int .i64 di) := by simpa using z0
                  have z1 : w3.cell? ⟨bz, oz + 1, none⟩ = some (.int .u64 (dt : Nat)) := by simpa using z1
                  have K3 := Kp.grown hg
                  have y0 := K3.t.c0
                  have y1 := K3.t.c1
                  have G3 := Lib.hid hg.two
                  have yq : ∀ q, (w3.drewN q).cell? ⟨w2.heap.size, 0, none⟩ = some (.int .i64 di) := fun q => ((Grw.rfl' w3).drewN q).cell y0
                  obtain ⟨nd, hnd⟩ : ∃ nd, (⟨di, dt⟩ :: kk : List Du).length = nd := ⟨_, rfl⟩
                  rw [hnd]
                  have hnd2 : kk.length + 1 = nd := hnd
                  have d1 : (0 : Int) < (nd : Int) := by omega
                  have d2 : decide ((0 : Int) < (nd : Int)) = true := decide_eq_true d1
                  have d3 : decide (0 < nd) = true := by simp; omega
                  have d4 : 0 < nd := by omega
                  clear hu hv hg l5 K3 hnd hnd2 SP cs cs2
                  go_wp2_with fail
                  go_big_quiet (fail)
                  go_wp2_with fail
                  refine (CP.out _ (G3.out.drewN _)).mono ?_
                  rintro _ w6 ⟨v6, rfl, hnew, hg6⟩
                  have J6 := Lib.hid (Jn.plan M2.out (G3.out.drewN _) hnew hg6)
                  obtain ⟨ao6, cap6, rfl, _⟩ := NewD.out hnew
                  rw [H6.out]
                  rw [H6.out] at J6
                  clear hnew hg6 z0 z1 y0 y1 yq CP
                  go_wp2_with fail
                  refine (NL.out _ (J6.out.m.mono (fun _ c => c.elim))).mono ?_
                  rintro _ w9 ⟨rfl, rfl⟩
                  go_wp2_with fail
                  go_roundw
                  case rel => exact ⟨dt, k, i + 1, n6, l', ao6, cap6, by omega, by omega, hkm, by omega, H6.out, rfl, rfl, by go_num, J6.out⟩
                  case measure => simp [intOf]; omega
              · as_aux_lemma =>
                  obtain ⟨nw', hnw'⟩ : ∃ nw', max nw s = nw' := ⟨_, rfl⟩
                  have PH := Lib.hid (pop_F_miss w p nw s nw' L _ wr hJ.m hs64 hall hnw')
                  have HK := Lib.hid hup
                  clear hJ hLn hall hup hnw'
                  go_wp2_with fail
                  refine PH.out.mono ?_
                  rintro _ w2 ⟨rfl, hm2, hf2⟩
                  have r2 := NewD.kept J.out.r hf2
                  clear cs
                  have cs := CS.out w2 hm2.grw
                  have o2 := NewD.out r2
                  rw [HL.out] at o2
                  obtain ⟨ao2, cap2, e2, l2, hc2, hz2⟩ := o2
                  injection e2 with e5 _ e6
                  subst e5 e6
                  have gX := (Grw.rfl' w2).alloc (.cells #[.int .i64 0, .int .u64 0] 42)
                  have SP := split_any ao' cap' s L _ (l2.later gX) (by rw [HL.out]; omega)
                  unfold SplitQ at SP
                  rw [HK.out, HL.out] at SP
                  have SP := Lib.hid SP
                  have J2 : Hid (Jn w w2 p nw' L (.slice ao' nL cap')) := (⟨hm2, r2⟩ : Jn w w2 p nw' L (.slice ao' nL cap'))
                  have NL := Lib.hid (fun u (h : Jn w u p nw' L (.slice ao' nL cap')) => len_F w p nw' L _ nL u h.m HL.out)
                  clear PH hm2 hf2 r2 l2 hc2 hz2 gX
                  have cs2 : ∀ o : Obj, (w2.alloc o).cell? ⟨bb, boff + i, none⟩ = some (.int .u64 (s : Nat)) := fun o => ((Grw.rfl' w2).alloc o).cell cs
                  go_wp2_with fail
                  refine SP.out.mono ?_
                  rintro _ w3 ⟨u, v, rfl, hu, hv, hg⟩
                  obtain ⟨a5, c5, rfl, l5⟩ := NewD.row hu
                  have e0 : ([] : List Du).length = 0 := rfl
                  rw [e0]
                  have J3 := Lib.hid (J2.out.later hg.two)
                  clear hu hv hg l5 SP cs cs2 e0
                  go_wp2_with fail
                  go_big_quiet (fail)
                  go_wp2_with fail
                  refine (NL.out _ (J3.out.later ((Grw.rfl' w3).drewN _))).mono ?_
                  rintro _ w9 ⟨rfl, rfl⟩
                  go_wp2_with fail
                  go_roundw
                  case rel => exact ⟨nw', k, i + 1, nL, L, ao', cap', by omega, by omega, hkm, by omega, HL.out, rfl, rfl, by go_num, J3.out.later ((Grw.rfl' w3).drewN _)⟩
                  case measure => simp [intOf]; omega
            · have t3 : ¬ (i : Int).tmod 3 = 2 := by rw [Int.tmod_eq_emod_of_nonneg (by omega)]; omega
              have t4 : ((i : Int).tmod 3 == 2) = false := by simp [t3]
              by_cases hfit : nw + s < 2 ^ 64
              · as_aux_lemma =>
                  obtain ⟨to, hto⟩ : ∃ to, nw + s = to := ⟨_, rfl⟩
                  rw [hto] at hfit
                  have TU := take_upto hJ.gl.srt to
                  have AV := Lib.hid (advance_F w p nw s to L (past to L) (upto to L) _ wr hJ.m hfit hto TU.2 TU.1)
                  unfold AdvF at AV
                  have UL := Lib.hid (upto_len to L)
                  obtain ⟨lu, hlu⟩ : ∃ lu, upto to L = lu := ⟨_, rfl⟩
                  obtain ⟨lp, hlp⟩ : ∃ lp, past to L = lp := ⟨_, rfl⟩
                  have HU := Lib.hid (And.intro hlu hlp)
                  rw [hlu, hlp] at AV UL
                  clear hJ hLn hto hfit TU hlu hlp
                  go_wp2_with fail
                  refine AV.out.mono ?_
                  rintro _ w2 ⟨v1, rfl, hrow, hm2, hf2, hge⟩
                  have r2 := NewD.kept J.out.r hf2
                  have NX2 := Lib.hid (now_F w p to lp _ w2 hm2)
                  have o2 := NewD.out r2
                  rw [HL.out] at o2
                  obtain ⟨ao2, cap2, e2, l2, hc2, hz2⟩ := o2
                  injection e2 with e5 _ e6
                  subst e5 e6
                  have SP := split_any ao' cap' to L w2 l2 (by rw [HL.out]; omega)
                  unfold SplitQ at SP
                  rw [HU.out.1, HU.out.2, HL.out] at SP
                  have SP := Lib.hid SP
                  have M2 := Lib.hid hm2
                  have RW2 := Lib.hid hrow
                  clear cs hm2 hf2 r2 l2 hc2 hz2 hrow hge AV
                  go_wp2_with fail
                  refine NX2.out.mono ?_
                  rintro _ w3 ⟨rfl, rfl⟩
                  go_wp2_with fail
                  refine SP.out.mono ?_
                  rintro _ w3 ⟨u, v, rfl, hu, hv, hg⟩
                  have J3 := Lib.hid (Jn.plan M2.out (Grw.rfl' _) hv hg)
                  have DS := Lib.hid (dues_same v1 u lu w3 (by have := UL.out; rw [HL.out] at this; omega) (RW2.out.later hg) (NewD.row hu))
                  obtain ⟨ao6, cap6, rfl, _⟩ := NewD.out hv
                  obtain ⟨n6, hn6⟩ : ∃ n6, lp.length = n6 := ⟨_, rfl⟩
                  rw [hn6]
                  rw [hn6] at J3
                  have hb6 : n6 ≤ nL := by have := UL.out; rw [HL.out] at this; omega
                  have H6 := Lib.hid hn6
                  have NL := Lib.hid (fun u (h : Jn w u p to lp (.slice ao6 n6 cap6)) => len_F w p to lp _ n6 u h.m H6.out)
                  clear hu hv hg SP hn6
                  go_wp2_with fail
                  refine DS.out.mono ?_
                  rintro _ w4 ⟨rfl, hg⟩
                  have J4 := Lib.hid (J3.out.later hg)
                  clear hg
                  go_wp2_with fail
                  refine (NL.out _ J4.out).mono ?_
                  rintro _ w9 ⟨rfl, rfl⟩
                  go_wp2_with fail
                  go_roundw
                  case rel => exact ⟨to, k, i + 1, n6, lp, ao6, cap6, by omega, by omega, hkm, by omega, H6.out, rfl, rfl, by go_num, J4.out⟩
                  case measure => simp [intOf]; omega
              · as_aux_lemma =>
                  have AV := Lib.hid (advance_F_no w p nw s L _ wr hJ.m hs64 hfit)
                  have NL := Lib.hid (len_F w p nw L _ nL wr hJ.m HL.out)
                  clear hJ hLn hfit
                  go_wp2_with fail
                  refine AV.out.mono ?_
                  rintro _ w2 ⟨rfl, rfl⟩
                  go_wp2_with fail
                  refine NL.out.mono ?_
                  rintro _ w9 ⟨rfl, rfl⟩
                  go_wp2_with fail
                  go_roundw
                  case rel => exact ⟨nw, k, i + 1, nL, L, ao', cap', by omega, by omega, hkm, by omega, HL.out, rfl, rfl, by go_num, J.out⟩
                  case measure => simp [intOf]; omega
    · have e1 : ((i : Int) < (n : Int) ∧ (i : Int) < 40) = False := by simp; omega
      by_cases hin2 : i < n
      · have hii : (i : Int) < (n : Int) := by omega
        have hi4i : ¬ (i : Int) < 40 := by omega
        clear e1
        have WE := Lib.hid (And.intro (WK.out wr) J.out.grw)
        go_wp2_with fail
        refine WE.out.1.mono ?_
        rintro _ w2 ⟨rfl, hg⟩
        have G := Lib.hid (WE.out.2.trans hg)
        clear hg
        go_wp2_with fail
        go_ret
        exact ⟨rfl, G.out⟩
      · have hii : ¬ (i : Int) < (n : Int) := by omega
        clear e1
        have WE := Lib.hid (And.intro (WK.out wr) J.out.grw)
        go_wp2_with fail
        refine WE.out.1.mono ?_
        rintro _ w2 ⟨rfl, hg⟩
        have G := Lib.hid (WE.out.2.trans hg)
        clear hg
        go_wp2_with fail
        go_ret
        exact ⟨rfl, G.out⟩
end PL
end Go.Proofs.YtjkhgpdhhnfmlaaDoor
