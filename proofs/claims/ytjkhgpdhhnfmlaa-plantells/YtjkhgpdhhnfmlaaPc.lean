/- The contracts of plan.cut, plan.Insert, slices.Grow, slices.Concat and plan.Cancel at this program. -/
import Derived.Test.YtjkhgpdhhnfmlaaPb
import Derived.Test.YtjkhgpdhhnfmlaaXw
namespace Go.Proofs.Ytjkhgpdhhnfmlaa
open Go.RowKit
open RG (Du)
open PM
set_option linter.unusedSimpArgs false

theorem lies_front {w : World} {ao : Option Addr} {l : List Du} (h : Lies w ao (cd l)) (p : Nat) : Lies w ao (cd (l.take p)) := by
  rcases h with h | ⟨b, off, e, hb, hc⟩
  · left
    rw [cd_take, h]; simp
  · refine Or.inr ⟨b, off, e, hb, fun j u hj => hc j u ?_⟩
    rw [cd_take, List.getElem?_take] at hj
    split at hj
    · exact hj
    · cases hj
theorem lies_back {w : World} {ao : Option Addr} {l : List Du} (h : Lies w ao (cd l)) (p : Nat) : Lies w (if l.length = p then ao else ao.map (·.add (p * 2))) (cd (l.drop p)) := by
  rcases h with h | ⟨b, off, e, hb, hc⟩
  · left
    rw [cd_drop, h]; simp
  · subst e
    by_cases hp : l.length = p
    · left
      rw [List.drop_of_length_le (by omega)]; rfl
    · rw [if_neg hp]
      refine Or.inr ⟨b, off + p * 2, ?_, hb, fun j u hj => ?_⟩
      · simp [Addr.add_lit]
      · rw [cd_drop, List.getElem?_drop] at hj
        have := hc _ _ hj
        rwa [← Nat.add_assoc] at this
def CutQ (l : List Du) (p q : Nat) (w : World) (e : Ending) (w' : World) : Prop :=
  ∃ a1 a2, e = .returned (.tuple #[.slice a1 p p, .slice a2 q q]) ∧ (a1 = none → p = 0) ∧ Lies w' a1 (cd (l.take p)) ∧ (a2 = none → q = 0) ∧ Lies w' a2 (cd (l.drop p)) ∧ Grw w w'
set_option maxRecDepth 100000 in
theorem cut_is (ao : Option Addr) (cap : Nat) (l : List Du) (n p q : Nat) (w : World) (hl : Lies w ao (cd l)) (hn : l.length = n) (hq : p + q = n) (hc : n ≤ cap) (hnil : ao = none → n = 0) :
    Calls Try.prog 23 #[.slice ao n cap, .int .i64 (p : Nat)] w (CutQ l p q w) := by
  have L1 := Lib.hid (lies_front hl p)
  have L2 := Lib.hid (lies_back hl p)
  rw [hn] at L2
  have A1 : Hid (ao = none → p = 0) := (fun h => by have := hnil h; omega : ao = none → p = 0)
  have A2 : Hid (ao = none → q = 0) := (fun h => by have := hnil h; omega : ao = none → q = 0)
  have f1 : (p : Int) ≤ (cap : Int) := by omega
  have f2 : (n : Int) ≤ (cap : Int) := by omega
  have f3 : (p : Int) ≤ (n : Int) := by omega
  have f4 : n - p = q := by omega
  clear hl hn hq hc hnil
  go_enter Try.func23, Try.ntmps23
  go_wp2_with fail
  go_quiet (fail)
  go_wp2_with fail
  · go_ret2
    have g := (Grw.rfl' w).drewN nq
    rw [if_pos h] at L2
    exact ⟨_, _, rfl, A1.out, L1.out.later g, A2.out, L2.out.later g, g⟩
  · go_ret2
    have g := (Grw.rfl' w).drewN nq
    rw [if_neg h] at L2
    exact ⟨_, _, rfl, A1.out, L1.out.later g, fun c => A2.out (Option.map_eq_none_iff.1 c), L2.out.later g, g⟩
theorem base_down {x : World} {B : Nat} {v : Value} {n : Nat} {xs : List Value} (h : x.ownsRow B 25 2 v n xs) : x.ownsRow 0 25 2 v n xs := by
  refine ⟨h.1, ?_⟩
  rcases h.2 with hn | ⟨b, cap, cur, rfl, _, r⟩
  · exact Or.inl hn
  · exact Or.inr ⟨b, cap, cur, rfl, Nat.zero_le _, r⟩
/-- both appends of Insert: w the world when the call began, x the world ahead of the statement. -/
theorem ins_appends (w x : World) (g : Grw w x) (a1 a2 : Option Addr) (l : List Du) (d : Du) (p q : Nat) (hq : p + q = l.length) (hb : l.length ≤ 100000) (h1 : a1 = none → p = 0) (l1 : Lies x a1 (cd (l.take p))) (l2 : Lies x a2 (cd (l.drop p))) :
    ∃ v1 y1 v2 y2, (Builtin.append_ #[22, 22] 22 #[.slice a1 p p, .slice (some ⟨x.heap.size, 0, none⟩) 1 1]).run Try.prog (x.alloc (.cells #[.int .i64 d.id, .int .u64 (d.t : Nat)] 25)) = .ok v1 y1 ∧
      (Builtin.append_ #[22, 22] 22 #[v1, .slice a2 q q]).run Try.prog y1 = .ok v2 y2 ∧ NewD w y2 v2 (l.take p ++ d :: l.drop p) ∧ Grw w y2 := by
  have g1 := (Grw.rfl' x).alloc (.cells #[.int .i64 d.id, .int .u64 (d.t : Nat)] 25)
  obtain ⟨v1, y1, hr1, ho1, gy1⟩ := append_fresh (P := Try.prog) 22 25 _ 2 16 Try.underlying22 Try.info25 rfl (x.alloc (.cells #[.int .i64 d.id, .int .u64 (d.t : Nat)] 25)) 22 a1 p h1 (cd (l.take p)) (by rw [cd_len, List.length_take]; omega) (l1.later g1)
    ⟨x.heap.size, 0, none⟩ 1 1 (cd [d]) rfl (blk_cells (xs := cd [d]) (t := 25) (heap_alloc_new x _)) (by omega) (by omega) (by omega)
  have e1 : p + 1 = (l.take p ++ [d]).length := by rw [List.length_append, List.length_take]; simp; omega
  have o1 := base_down ho1
  rw [e1, ← cd_app] at o1
  have eq : q = (l.drop p).length := by rw [List.length_drop]; omega
  obtain ⟨v2, y2, hr2, ho2, hgr2, hor⟩ := app_ex y1 v1 (l.take p ++ [d]) (l.drop p) o1 (.slice a2 q q) ⟨a2, q, by rw [← eq], (l2.later g1).later gy1⟩ (by rw [← e1, ← eq]; omega)
  have hs := Below.size (g.trans g1)
  have b1 : ∀ k, v1.ownBlock = some k → w.heap.size ≤ k := fun k hk => Nat.le_trans hs (World.ownsRow.lt ho1 k hk).1
  refine ⟨v1, y1, v2, y2, hr1, hr2, ?_, (grownBy_frm hgr2).grw ((g.trans g1).trans gy1) b1⟩
  rw [List.append_assoc] at ho2
  refine base_up ho2 (fun k hk => ?_)
  rcases hor with e | e
  · exact b1 k (e ▸ hk)
  · rw [e] at hk
    injection hk with hk
    have := Below.size ((g.trans g1).trans gy1)
    omega
def PlanQ (o : Bool) (l : List Du) (w : World) (e : Ending) (w' : World) : Prop := ∃ v, e = .returned (.tuple #[v, .bool o]) ∧ NewD w w' v l ∧ Grw w w'
set_option maxHeartbeats 2000000 in
set_option maxRecDepth 100000 in
theorem insert_bad (ao : Option Addr) (cap : Nat) (l : List Du) (d : Du) (n : Nat) (w : World) (hl : Lies w ao (cd l)) (hb : l.length ≤ 100000) (hw : Wis l) (hn : l.length = n) (ho : ¬ Gd l) :
    Calls Try.prog 8 #[.slice ao n cap, dv d] w (PlanQ false [] w) := by
  obtain ⟨di, dt⟩ := d
  unfold dv
  simp only
  have GD := Lib.hid (fun u (g : Grw w u) => good_is ao cap l n false u (hl.later g) (by omega) hw hn (gdB_f ho))
  clear hl hb hw hn ho
  have G0 := Lib.hid (GD.out _ ((Grw.rfl' w).alloc (.cells #[.int .i64 di, .int .u64 dt] 25)))
  go_enter Try.func8, Try.ntmps8
  go_wp2_with fail
  refine G0.out.mono ?_
  rintro _ w1 ⟨rfl, hg⟩
  have G := Lib.hid hg.two
  clear hg
  go_wp2_with fail
  go_ret2
  exact ⟨_, rfl, NewD.nil _ _, G.out⟩
set_option maxHeartbeats 2000000 in
set_option maxRecDepth 100000 in
theorem insert_twice (ao : Option Addr) (cap : Nat) (l : List Du) (d : Du) (n : Nat) (w : World) (hl : Lies w ao (cd l)) (hb : l.length ≤ 100000) (hw : Wis l) (hn : l.length = n) (ho : Gd l) (hi : d.id ∈ ids l) :
    Calls Try.prog 8 #[.slice ao n cap, dv d] w (PlanQ false [] w) := by
  obtain ⟨di, dt⟩ := d
  simp only at hi
  unfold dv
  simp only
  have GD := Lib.hid (fun u (g : Grw w u) => good_is ao cap l n true u (hl.later g) (by omega) hw hn (gdB_t ho))
  obtain ⟨r, hr⟩ : ∃ r, fx l di = r := ⟨_, rfl⟩
  have FD := Lib.hid (fun u (g : Grw w u) => find_is ao cap l n di r u (hl.later g) (by omega) hn hr)
  have hr0 : 0 ≤ r := by
    have := mt fx_neg.1 (fun c => c hi)
    omega
  have hrb : decide ((0 : Int) ≤ r) = true := by simp [hr0]
  clear hl hb hw hn ho hi hr
  have G0 := Lib.hid (GD.out _ ((Grw.rfl' w).alloc (.cells #[.int .i64 di, .int .u64 dt] 25)))
  go_enter Try.func8, Try.ntmps8
  go_wp2_with fail
  refine G0.out.mono ?_
  rintro _ w1 ⟨rfl, hg⟩
  have K := Kp.grown hg
  have c0 := K.t.c0
  have F0 := Lib.hid (FD.out w1 hg.two)
  have G := Lib.hid hg.two
  clear hg K
  go_wp2_with fail
  refine F0.out.mono ?_
  rintro _ w2 ⟨rfl, hg⟩
  have G2 := Lib.hid (G.out.trans hg)
  clear hg c0
  go_wp2_with fail
  go_ret2
  exact ⟨_, rfl, NewD.nil _ _, G2.out⟩
set_option maxHeartbeats 2000000 in
set_option maxRecDepth 100000 in
theorem insert_yes (ao : Option Addr) (cap : Nat) (l : List Du) (d : Du) (n : Nat) (w : World) (hl : Lies w ao (cd l)) (hb : l.length ≤ 100000) (hw : Wis l) (hn : l.length = n) (hcap : n ≤ cap) (hnil : ao = none → n = 0) (ho : Gd l) (hi : d.id ∉ ids l) :
    Calls Try.prog 8 #[.slice ao n cap, dv d] w (PlanQ true (RG.put d l) w) := by
  obtain ⟨Q, hQ⟩ : ∃ Q, PlanQ true (RG.put d l) w = Q := ⟨_, rfl⟩
  rw [hQ]
  have QQ := Lib.hid hQ
  obtain ⟨di, dt⟩ := d
  simp only at hi
  unfold dv
  simp only
  have GD := Lib.hid (fun u (g : Grw w u) => good_is ao cap l n true u (hl.later g) (by omega) hw hn (gdB_t ho))
  have hr := (fx_or l di).resolve_right (fun ⟨k, hk, _, h2, _⟩ => hi (mem_ids.2 ⟨_, List.getElem_mem hk, h2⟩))
  have FD := Lib.hid (fun u (g : Grw w u) => find_is ao cap l n di (-1) u (hl.later g) (by omega) hn hr.1)
  have SE := Lib.hid (fun u (g : Grw w u) => search_any ao cap l ⟨di, dt⟩ u (hl.later g) ho.1 (by omega))
  have CT := Lib.hid (fun u (g : Grw w u) p q (h : p + q = n) => cut_is ao cap l n p q u (hl.later g) hn h hcap hnil)
  have HS := Lib.hid (And.intro ho.1 (And.intro hn hb))
  rw [hn] at SE
  unfold dv at SE
  simp only at SE
  clear hl hb hw hn ho hi hr hcap hnil hQ
  have G0 := Lib.hid (GD.out _ ((Grw.rfl' w).alloc (.cells #[.int .i64 di, .int .u64 dt] 25)))
  go_enter Try.func8, Try.ntmps8
  go_wp2_with fail
  refine G0.out.mono ?_
  rintro _ w1 ⟨rfl, hg⟩
  have K1 := Lib.hid (Kp.grown hg)
  have c0 := K1.out.t.c0
  have F0 := Lib.hid (FD.out w1 hg.two)
  have G1 := Lib.hid hg.two
  clear hg
  go_wp2_with fail
  refine F0.out.mono ?_
  rintro _ w2 ⟨rfl, hg⟩
  have K2 := Lib.hid (K1.out.later hg)
  have G2 := Lib.hid (G1.out.trans hg)
  have S0 := Lib.hid (SE.out w2 G2.out)
  clear hg c0
  have c0 := K2.out.t.c0
  have c1 := K2.out.t.c1
  go_wp2_with fail
  refine S0.out.mono ?_
  rintro _ w3 ⟨p, o, rfl, hp, hg⟩
  have K3 := Lib.hid (K2.out.later hg)
  have G3 := Lib.hid (G2.out.trans hg)
  have hpn : p ≤ n := by have := hp.1; rw [HS.out.2.1] at this; exact this
  obtain ⟨q, hq⟩ : ∃ q, p + q = n := ⟨n - p, by omega⟩
  have C0 := Lib.hid (CT.out w3 G3.out p q hq)
  have HP := Lib.hid (And.intro hp hq)
  clear hg c0 c1 hp hpn hq
  go_wp2_with fail
  refine C0.out.mono ?_
  rintro _ w4 ⟨a1, a2, rfl, h1, l1, h2, l2, hg⟩
  have K4 := K3.out.later hg
  obtain ⟨v1, y1, v2, y2, hr1, hr2, hnew, gy⟩ := ins_appends w w4 (G3.out.trans hg) a1 a2 l ⟨di, dt⟩ p q (by rw [HS.out.2.1]; exact HP.out.2) HS.out.2.2 h1 l1 l2
  rw [plc_sort HS.out.1 HP.out.1] at hnew
  have U := Lib.hid (And.intro hnew gy)
  have R1 := Lib.hid hr1
  have R2 := Lib.hid hr2
  have c0 := K4.t.c0
  have c1 := K4.t.c1
  clear hg h1 l1 h2 l2 K4 hr1 hr2 hnew gy
  go_wp2_with (at_builtin; first | refine Lib.wpList_append_run _ rfl _ _ _ _ rfl _ _ rfl rfl _ _ R1.out ?_ | refine Lib.wpList_append_run _ rfl _ _ _ _ rfl _ _ rfl rfl _ _ R2.out ?_)
  rw [← QQ.out]
  exact ⟨_, rfl, U.out.1, U.out.2⟩
end Go.Proofs.Ytjkhgpdhhnfmlaa
