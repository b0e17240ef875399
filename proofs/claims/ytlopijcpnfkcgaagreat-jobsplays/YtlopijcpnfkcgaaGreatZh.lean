/- Each call of the law, answered by both books in the same way. -/
import Derived.Test.YtlopijcpnfkcgaaGreatZg
namespace Go.Proofs.YtlopijcpnfkcgaaGreat
open Go.RowKit
set_option linter.unusedSimpArgs false
set_option maxRecDepth 100000 in
theorem mod_any (n : Int) (m : Nat) (w : World) (h0 : 0 < m) (hm : m ≤ 1000) :
    Calls Tryz.prog 8 #[.int .i64 n, .int .i64 (m : Int)] w fun e w' => e = .returned (.int .i64 (n % (m : Int))) ∧ w = w' := by
  have hr : n.tmod (m : Int) = n % (m : Int) ∨ (n.tmod (m : Int) < 0 ∧ n.tmod (m : Int) + m = n % (m : Int)) := by
    have ha : ∀ k : Nat, 0 < k → ∀ z : Int, z.tmod (k : Int) = z % (k : Int) ∨ (z.tmod (k : Int) < 0 ∧ z.tmod (k : Int) + k = z % (k : Int)) := by
      intro k hk z
      by_cases hz : 0 ≤ z
      · left; exact Int.tmod_eq_emod_of_nonneg hz
      · rw [Int.tmod_eq_emod]
        have hkz : (k : Int) ≠ 0 := by omega
        have h3 := Int.emod_nonneg z hkz
        have h4 := Int.emod_lt_of_pos z (by omega : (0 : Int) < k)
        by_cases hd : (k : Int) ∣ z
        · left
          rw [if_pos (Or.inr hd)]; omega
        · right
          rw [if_neg (by intro h; rcases h with h | h; exact hz h; exact hd h)]
          have : (k : Int).natAbs = k := by simp
          omega
    exact ha m h0 n
  have h3 := Int.emod_nonneg n (show (m : Int) ≠ 0 by omega)
  have h4 := Int.emod_lt_of_pos n (show (0 : Int) < m by omega)
  have hne : ¬ (m : Int) = 0 := by omega
  have hn1 : ¬ (m : Int) = -1 := by omega
  obtain ⟨r, hre⟩ : ∃ r, n.tmod (m : Int) = r := ⟨_, rfl⟩
  obtain ⟨q, hq⟩ : ∃ q, n % (m : Int) = q := ⟨_, rfl⟩
  rw [hq] at hr h3 h4 ⊢
  rw [hre] at hr
  have HQ := Lib.hid hq
  clear hq
  rcases hr with rfl | ⟨hr1, hr2⟩
  · have hlt : decide (r < 0) = false := by simp; omega
    have hge : ¬ r < 0 := by omega
    go_enter Tryz.func8, Tryz.ntmps8
    go_wp2_with fail
    go_ret
    exact ⟨rfl, rfl⟩
  · have HR := Lib.hid hr2
    clear h4
    have hw : wrap64 (r + (m : Int)) = r + (m : Int) := by unfold wrap64; omega
    go_enter Tryz.func8, Tryz.ntmps8
    go_wp2_with fail
    go_ret
    exact ⟨by rw [← HR.out]; rfl, rfl⟩
set_option maxHeartbeats 1000000 in
set_option maxRecDepth 100000 in
theorem new_none (a room n : Int) (w : World) (h : ¬ (1 ≤ a ∧ a ≤ 1000 ∧ 0 ≤ room ∧ room ≤ 1000 ∧ 0 ≤ n ∧ n ≤ 9)) :
    Calls Tryz.prog 4 #[.int .i64 a, .int .i64 room, .int .i64 n] w fun e w' => e = .returned (.pointer none) ∧ Grw w w' := by
  by_cases hq : 1 ≤ a ∧ a ≤ 1000 ∧ 0 ≤ room ∧ room ≤ 1000
  · have C := Lib.hid (QQ.m_new a room w w (Grw.rfl' w) hq.1 hq.2.1 hq.2.2.1 hq.2.2.2)
    by_cases c : n < 0
    · have d1 : decide (n < 0) = true := by simp [c]
      clear h hq c
      go_enter Tryz.func4, Tryz.ntmps4
      go_wp2_with fail
      refine C.out.mono ?_
      rintro _ w1 ⟨q, rfl, m1, _⟩
      have G1 := Lib.hid m1.g
      clear m1
      go_wp2_with fail
      go_ret
      exact ⟨rfl, G1.out⟩
    · have d1 : decide (n < 0) = false := by simp; omega
      have d2 : decide (9 < n) = true := by simp; omega
      clear h hq c
      go_enter Tryz.func4, Tryz.ntmps4
      go_wp2_with fail
      refine C.out.mono ?_
      rintro _ w1 ⟨q, rfl, m1, _⟩
      have G1 := Lib.hid m1.g
      clear m1
      go_wp2_with fail
      go_ret
      exact ⟨rfl, G1.out⟩
  · have C := Lib.hid (QQ.new_no a room w hq)
    clear h hq
    go_enter Tryz.func4, Tryz.ntmps4
    go_wp2_with fail
    refine C.out.mono ?_
    rintro _ _ ⟨rfl, rfl⟩
    go_wp2_with fail
    go_ret
    exact ⟨rfl, Grw.rfl' _⟩
/-- how the books stand. -/
structure Sta where
  c : Int
  m : Nat
  L : List QQ.Wt
  G : List LE.Gr
  J : List Jb
def PS (w0 w : World) (B : BB) (a room n : Int) (v : Value) (k : Nat) (S : Sta) : Prop := BS w0 w B a room n S.c v S.m k S.L S.G S.J
def ZS (w : World) (r : Nat) (a room n : Int) (V : ZV) (S : Sta) : Prop := ZB w r a room n S.c V S.m S.L S.G S.J
def PCall (w0 : World) (B : BB) (a room n : Int) (f : Nat) (args : Array Value) (res : Value) (k : Nat) (S S' : Sta) : Prop :=
  ∀ w v, PS w0 w B a room n v k S → Calls Tryz.prog f args w fun e w' => e = .returned res ∧ ∃ v', PS w0 w' B a room n v' (k + 1) S' ∧ Stp B v v' w w'
def ZCall (r : Nat) (a room n : Int) (f : Nat) (args : Array Value) (res : Value) (S S' : Sta) : Prop :=
  ∀ w V, ZS w r a room n V S → Calls Tryz.prog f args w fun e w' => e = .returned res ∧ ∃ V', ZS w' r a room n V' S' ∧ Zs r V V' w w'
theorem BS.up {w0 w : World} {B : BB} {a room n count : Int} {v : Value} {last k : Nat} {L : List QQ.Wt} {G : List LE.Gr} {J : List Jb} (h : BS w0 w B a room n count v last k L G J) : BS w0 w B a room n count v last (k + 1) L G J := by
  obtain ⟨sz, hz, m⟩ := h.m
  exact ⟨⟨sz, by omega, m⟩, h.bi, h.nn, h.rr, ⟨h.cc.1, by have := h.cc.2; omega⟩, by have := h.ll; omega⟩
variable {w0 w : World} {B : BB} {a room n : Int} {v : Value} {k : Nat} {S : Sta}
theorem stay_p {f : Nat} {args : Array Value} {res : Value} (h : ∀ w v, PS w0 w B a room n v k S → Calls Tryz.prog f args w fun e w' => e = .returned res ∧ Grw w w') : PCall w0 B a room n f args res k S S :=
  fun w v p => (h w v p).mono fun _ _ ⟨he, g⟩ => ⟨he, v, BS.up (BS.later p g), Stp.of B v g⟩
theorem stay_z {r : Nat} {f : Nat} {args : Array Value} {res : Value} (h : ∀ w V, ZS w r a room n V S → Calls Tryz.prog f args w fun e w' => e = .returned res ∧ Grw w w') : ZCall r a room n f args res S S :=
  fun w V p => (h w V p).mono fun _ _ ⟨he, g⟩ => ⟨he, V, ZB.later p g, Zs.of r V g⟩
theorem off_dr {last : Nat} {G : List LE.Gr} (h : LE.Ok last G) {x : Int} {g : LE.Gr} (hg : LE.byN G x = some g) : LE.off [g] G = LE.dr x G := by
  obtain ⟨h1, h2⟩ := LE.byN_some hg
  rw [LE.off_n h h1, h2]
  rfl
theorem at_of {J : List Jb} {i : Int} {y : Jb} (h : fnd J i = some y) : ∃ j, ∃ hj : j < J.length, J[j] = y := by
  obtain ⟨j, hj, e⟩ := List.mem_iff_getElem.1 (fnd_some h).1
  exact ⟨j, hj, e⟩
theorem add_both (h : PS w0 w B a room n v k S) (hk : k ≤ 1000) {i cl : Int} (hi : LE.Wi i) (r : Nat) : ∃ (c : Int) (S' : Sta),
    PCall w0 B a room n 9 #[.pointer (some ⟨B.p, 0, none⟩), .int .i64 i, .int .i64 cl] (.int .i64 c) k S S' ∧ ZCall r a room n 10 #[.pointer (some ⟨r, 0, none⟩), .int .i64 i, .int .i64 cl] (.int .i64 c) S S' := by
  have rr := BS.rr h
  have bi := BS.bi h
  have ids := BS.ids h
  by_cases hc : 0 ≤ cl ∧ cl < 8
  · rcases hf : fnd S.J i with _ | y
    · by_cases hr : room ≤ S.J.length
      · exact ⟨10, S, stay_p fun w v p => s_full p hi hc.1 hc.2 hf hr, stay_z fun w V z => zadd_full z hc.1 hc.2 (fnd_none hf) hr⟩
      · have hl := bi.room ids
        refine ⟨0, ⟨S.c, S.m, S.L ++ [(⟨i, cl, S.c⟩ : QQ.Wt)], S.G, S.J ++ [(⟨i, cl, 1, 0⟩ : Jb)]⟩, fun w v p => s_add p hi hc.1 hc.2 hf (by omega) (by omega), fun w V z => zadd_yes z hc.1 hc.2 (fnd_none hf) (by omega) (fun j hj => bi.new_w (fnd_none hf) _ (QQ.gt_mem hj)) (by omega) (by omega) (by omega)⟩
    · obtain ⟨j, hj, e⟩ := at_of hf
      exact ⟨8, S, stay_p fun w v p => s_twice p hi hc.1 hc.2 (by rw [hf]; rfl), stay_z fun w V z => zadd_twice z bi.ids hc.1 hc.2 hj (by rw [e]; exact (fnd_some hf).2)⟩
  · exact ⟨1, S, stay_p fun w v p => (add_bad B.p i cl w hc).mono fun _ _ ⟨he, e⟩ => ⟨he, e ▸ Grw.rfl' _⟩, stay_z fun w V z => (zadd_bad i cl w hc).mono fun _ _ ⟨he, e⟩ => ⟨he, e ▸ Grw.rfl' _⟩⟩
theorem fetch_both (h : PS w0 w B a room n v k S) (hk : k ≤ 1000) {t : Nat} (ht : t < 18446744073709551616) (r : Nat) : ∃ (c d u : Int) (t' : Nat) (e : Int) (S' : Sta),
    PCall w0 B a room n 11 #[.pointer (some ⟨B.p, 0, none⟩), .int .u64 (t : Nat)] (.tuple #[lv c d u t', .int .i64 e]) k S S' ∧ ZCall r a room n 12 #[.pointer (some ⟨r, 0, none⟩), .int .u64 (t : Nat)] (.tuple #[lv c d u t', .int .i64 e]) S S' := by
  have bi := BS.bi h
  have ids := BS.ids h
  have ok := BS.ok h
  have cc := BS.cc h
  have ll := BS.ll h
  by_cases h0 : 0 < S.L.length
  · obtain ⟨j, hf⟩ := QQ.fst_ex a S.L h0 ids
    obtain ⟨y, hy, hs, hu, hu0, _⟩ := s_fetch h hf ht (by omega)
    obtain ⟨j', hj', e⟩ := at_of hy
    obtain ⟨hyJ, hid⟩ := fnd_some hy
    refine ⟨(S.m + 1 : Nat), y.id, y.u + 1, t, 0, ⟨S.c + 1, S.m + 1, QQ.rem S.L j, S.G ++ [⟨(S.m + 1 : Nat), y.id, t⟩], upd S.J ⟨y.id, y.cl, 2, y.u + 1⟩⟩, fun w v p => ?_, fun w V z => ?_⟩
    · obtain ⟨y', hy', _, _, _, C⟩ := s_fetch p hf ht (by omega)
      obtain rfl : y' = y := by rw [hy] at hy'; injection hy' with e; exact e.symm
      exact C
    · have hgd : RE.gd n 1 y.u = true := by have := (bi.good y hyJ).2.2.2.1; rw [hs] at this; exact this
      have hlen := ok.len
      have hbn : LE.byN (S.G ++ [⟨(S.m + 1 : Nat), y.id, t⟩]) (S.m + 1 : Nat) = some ⟨(S.m + 1 : Nat), y.id, t⟩ := by
        have hno : LE.byN S.G (S.m + 1 : Nat) = none := LE.byN_no fun g hg c => by have := (ok.rng g hg).2; omega
        unfold LE.byN at hno ⊢
        rw [List.find?_append, hno]
        simp
      have := zfetch_some z bi.ids ids hf cc.1 (by omega) hj' (by rw [e]; exact hid) (by rw [e]; exact hs) (by rw [e]; exact hgd) (t := t) rfl (by omega) (by omega) (by rw [e]; exact LE.byJ_no (bi.not_l hyJ (by omega))) (by rw [e]; exact hbn)
      rw [e] at this
      exact this
  · have hL : S.L = [] := List.eq_nil_of_length_eq_zero (by omega)
    refine ⟨0, 0, 0, 0, 12, S, stay_p fun w v p => ?_, stay_z fun w V z => ?_⟩
    · unfold PS at p; rw [hL] at p; exact s_none p t
    · unfold ZS at z; rw [hL] at z; exact zfetch_none z t
theorem answer_both (h : PS w0 w B a room n v k S) {i : Int} (hi : LE.Wi i) (r : Nat) : ∃ (j e : Int) (S' : Sta),
    PCall w0 B a room n 13 #[.pointer (some ⟨B.p, 0, none⟩), .int .i64 i] (.tuple #[.int .i64 j, .int .i64 e]) k S S' ∧ ZCall r a room n 14 #[.pointer (some ⟨r, 0, none⟩), .int .i64 i] (.tuple #[.int .i64 j, .int .i64 e]) S S' := by
  have ok := BS.ok h
  rcases hb : LE.byN S.G i with _ | g
  · exact ⟨0, 13, S, stay_p fun w v p => s_noanswer p hi hb, fun w V z => zanswer_no z hb⟩
  · refine ⟨g.j, 0, ⟨S.c, S.m, S.L, LE.off [g] S.G, gon S.J g.j⟩, fun w v p => (s_answer p hi hb).mono fun _ _ ⟨he, b, s⟩ => ⟨he, v, BS.up b, s⟩, fun w V z => ?_⟩
    have := zanswer_yes z hb
    rw [← off_dr ok hb] at this
    exact this
theorem fail_both (h : PS w0 w B a room n v k S) (hk : k ≤ 1000) {i : Int} (hi : LE.Wi i) (r : Nat) : ∃ (j : Int) (d : Bool) (e : Int) (S' : Sta),
    PCall w0 B a room n 15 #[.pointer (some ⟨B.p, 0, none⟩), .int .i64 i] (.tuple #[.int .i64 j, .bool d, .int .i64 e]) k S S' ∧ ZCall r a room n 16 #[.pointer (some ⟨r, 0, none⟩), .int .i64 i] (.tuple #[.int .i64 j, .bool d, .int .i64 e]) S S' := by
  have ok := BS.ok h
  have bi := BS.bi h
  rcases hb : LE.byN S.G i with _ | g
  · exact ⟨0, false, 13, S, stay_p fun w v p => s_nofail p hi hb, fun w V z => zfail_no z hb⟩
  · obtain ⟨y, hf, hy, hid, hs, hgd⟩ := BS.of_l h (LE.byN_some hb).1
    obtain ⟨j, hj, e⟩ := at_of hf
    by_cases hu : y.u ≤ n
    · refine ⟨g.j, false, 0, ⟨S.c, S.m, S.L, LE.off [g] S.G, upd S.J ⟨g.j, y.cl, 3, y.u⟩⟩, fun w v p => (s_fail p hi hb hf hu (by omega)).mono fun _ _ ⟨he, b, s⟩ => ⟨he, v, b, s⟩, fun w V z => ?_⟩
      have := zfail_is z bi.ids hb hj (by rw [e]; exact hid) (by rw [e]; exact hs) (s' := 3) (d := false) (by rw [e]; exact st_3 hgd hu) rfl
      rw [← off_dr ok hb, e, hid] at this
      exact this
    · refine ⟨g.j, true, 0, ⟨S.c, S.m, S.L, LE.off [g] S.G, gon S.J g.j⟩, fun w v p => (s_dead p hi hb hf hu).mono fun _ _ ⟨he, b, s⟩ => ⟨he, v, BS.up b, s⟩, fun w V z => ?_⟩
      have := zfail_is z bi.ids hb hj (by rw [e]; exact hid) (by rw [e]; exact hs) (s' := 5) (d := true) (by rw [e]; exact st_5 hgd hu) rfl
      rw [← off_dr ok hb] at this
      exact this
theorem rested_both (h : PS w0 w B a room n v k S) (hk : k ≤ 1000) {i : Int} (hi : LE.Wi i) (r : Nat) : ∃ (b : Bool) (S' : Sta),
    PCall w0 B a room n 17 #[.pointer (some ⟨B.p, 0, none⟩), .int .i64 i] (.bool b) k S S' ∧ ZCall r a room n 18 #[.pointer (some ⟨r, 0, none⟩), .int .i64 i] (.bool b) S S' := by
  have bi := BS.bi h
  have ids := BS.ids h
  have rr := BS.rr h
  rcases hf : fnd S.J i with _ | y
  · exact ⟨false, S, stay_p fun w v p => s_norest p hi (by rw [hf]; decide), stay_z fun w V z => zrested_un z (fnd_none hf)⟩
  · obtain ⟨j, hj, e⟩ := at_of hf
    obtain ⟨hyJ, hid⟩ := fnd_some hf
    by_cases hs : y.s = 3
    · have hl := bi.room' ids hyJ (by omega)
      have gy := bi.good y hyJ
      refine ⟨true, ⟨S.c, S.m, S.L ++ [(⟨i, y.cl, S.c⟩ : QQ.Wt)], S.G, upd S.J ⟨i, y.cl, 1, y.u⟩⟩, fun w v p => s_rested p hf hs (by omega), fun w V z => ?_⟩
      have := zrested_yes (i := i) z bi.ids hj (by rw [e]; exact hid) (by rw [e]; exact hs) (by rw [e]; have := gy.2.2.2.1; rw [hs] at this; exact this) (by rw [e]; exact ⟨gy.2.1, gy.2.2.1⟩) (fun m hm => by rw [← hid]; exact bi.not_w hyJ (by omega) _ (QQ.gt_mem hm)) (by omega) (by omega)
      rw [e] at this
      exact this
    · exact ⟨false, S, stay_p fun w v p => s_norest p hi (by rw [hf]; exact hs), stay_z fun w V z => zrested_no z bi.ids hj (by rw [e]; exact hid) (by rw [e]; simpa using hs)⟩
theorem drop_both (h : PS w0 w B a room n v k S) {i : Int} (hi : LE.Wi i) (r : Nat) : ∃ (b : Bool) (S' : Sta),
    PCall w0 B a room n 19 #[.pointer (some ⟨B.p, 0, none⟩), .int .i64 i] (.bool b) k S S' ∧ ZCall r a room n 20 #[.pointer (some ⟨r, 0, none⟩), .int .i64 i] (.bool b) S S' := by
  have bi := BS.bi h
  have ids := BS.ids h
  have ok := BS.ok h
  rcases hf : fnd S.J i with _ | y
  · exact ⟨false, S, stay_p fun w v p => s_nodrop p hi hf, stay_z fun w V z => zdrop_no z (fnd_none hf)⟩
  · obtain ⟨j, hj, e⟩ := at_of hf
    obtain ⟨hyJ, hid⟩ := fnd_some hf
    obtain ⟨L', _, l2, l3, _⟩ := s_drop h hf
    refine ⟨true, ⟨S.c, S.m, L', lg S.G i, gon S.J i⟩, fun w v p => ?_, fun w V z => zdrop_yes z bi.ids ids ok hj (by rw [e]; exact hid) l2 l3⟩
    obtain ⟨L2, _, m2, m3, C⟩ := s_drop p hf
    have el : L2 = L' := by
      by_cases c : ∃ j, j < S.L.length ∧ (QQ.gt S.L j).id = i
      · obtain ⟨j, hj, e⟩ := c
        rw [l3 j hj e, m3 j hj e]
      · have hno : ∀ y ∈ S.L, y.id ≠ i := fun y hy e => by
          obtain ⟨j, hj, rfl⟩ := List.mem_iff_getElem.1 hy
          exact c ⟨j, hj, by rw [QQ.gt_at hj]; exact e⟩
        rw [l2 hno, m2 hno]
    subst el
    exact C.mono fun _ _ ⟨he, v', b, s⟩ => ⟨he, v', BS.up b, s⟩
theorem psame {w0 w : World} {B : BB} {r : Nat} {a room n : Int} {v : Value} {V : ZV} {k : Nat} {S : Sta} (h : PS w0 w B a room n v k S) (z : ZS w r a room n V S) (hk : k ≤ 1000) :
    Calls Tryz.prog 21 #[.pointer (some ⟨B.p, 0, none⟩), .pointer (some ⟨r, 0, none⟩)] w fun e w' => e = .returned (.bool true) ∧ Grw w w' :=
  same_is h z (by omega) (by have := RB.lq z; omega) (by have := RB.lj z; omega)
/-- both books stand, apart from each other and from what was there. -/
structure PZ (w0 w : World) (B : BB) (r : Nat) (a room n : Int) (v : Value) (V : ZV) (k : Nat) (S : Sta) : Prop where
  p : PS w0 w B a room n v k S
  z : ZS w r a room n V S
  ap : ∀ j, zb r V j → ¬ bf B v j
  nz : ∀ j, zb r V j → w0.heap.size ≤ j
variable {x y : World} {r : Nat} {V V' : ZV} {v' : Value} {S' : Sta}
theorem PZ.later (h : PZ w0 w B r a room n v V k S) (g : Grw w x) : PZ w0 x B r a room n v V k S := ⟨BS.later h.p g, ZB.later h.z g, h.ap, h.nz⟩
/-- an own cell of no book is written. -/
theorem PS.keep (h : PS w0 w B a room n v k S) {F : Nat → Prop} (f : Frm F w x) (hf : ∀ j, F j → ¬ bf B v j ∧ w0.heap.size ≤ j) : PS w0 x B a room n v k S := by
  obtain ⟨sz, hz, m⟩ := BS.m h
  exact ⟨⟨sz, hz, ⟨m.b.keep f (fun j hj e => (hf j e).1 hj), Frm.grw m.g f (fun j e => (hf j e).2), m.new⟩⟩, BS.bi h, BS.nn h, BS.rr h, BS.cc h, BS.ll h⟩
theorem PZ.half (h : PZ w0 w B r a room n v V k S) (s : Stp B v v' w x) : ZS x r a room n V S := RB.keep h.z s.f h.ap
theorem PZ.both (h : PZ w0 w B r a room n v V k S) (p : PS w0 x B a room n v' (k + 1) S') (s : Stp B v v' w x) (z : ZS y r a room n V' S') (t : Zs r V V' x y) : PZ w0 y B r a room n v' V' (k + 1) S' := by
  have hzl := RB.lt8 h.z
  have hpl := BS.lt p
  have ap : ∀ j, zb r V j → ¬ bf B v' j := fun j hj e => (near_bf s.n e).elim (h.ap j hj) (fun c => by have := hzl j hj; omega)
  exact ⟨PS.keep p t.f (fun j hj => ⟨ap j hj, h.nz j hj⟩), z, fun j hj e => (t.n j hj).elim (fun c => ap j c e) (fun c => by have := hpl j e; omega),
    fun j hj => (t.n j hj).elim (h.nz j) (fun c => Nat.le_trans (Below.size (BS.g p)) c)⟩
theorem PZ.half' (h : PZ w0 w B r a room n v V k S) (t : Zs r V V' w x) : PS w0 x B a room n v k S := PS.keep h.p t.f (fun j hj => ⟨h.ap j hj, h.nz j hj⟩)
theorem PZ.both' (h : PZ w0 w B r a room n v V k S) (z : ZS x r a room n V' S') (t : Zs r V V' w x) (p : PS w0 y B a room n v' (k + 1) S') (s : Stp B v v' x y) : PZ w0 y B r a room n v' V' (k + 1) S' := by
  have hbl := BS.lt h.p
  have hzl := RB.lt8 z
  have ap : ∀ j, zb r V' j → ¬ bf B v j := fun j hj e => (t.n j hj).elim (fun c => h.ap j c e) (fun c => by have := hbl j e; omega)
  exact ⟨p, RB.keep z s.f ap, fun j hj e => (near_bf s.n e).elim (ap j hj) (fun c => by have := hzl j hj; omega),
    fun j hj => (t.n j hj).elim (h.nz j) (fun c => Nat.le_trans (Below.size (BS.g h.p)) c)⟩
end Go.Proofs.YtlopijcpnfkcgaaGreat
