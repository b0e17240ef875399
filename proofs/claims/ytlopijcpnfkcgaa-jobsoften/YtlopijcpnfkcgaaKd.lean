/- What JobsOften keeps: two maps of its own beside the book. -/
import Derived.Test.YtlopijcpnfkcgaaKb
namespace Go.Proofs.Ytlopijcpnfkcgaa
open Go.RowKit
open Go.Maps (Keyed IsMap Tidy)
set_option linter.unusedSimpArgs false

/-- a map of numbers, told by a function. -/
def MP (w : World) (b N : Nat) (f : Int → Int) : Prop := ∃ D k, k ≤ N ∧ w.ownsMap (H := Unit) Try.prog 3 (plainElem Try.prog 3) b k D ∧ Tidy D ∧ ∀ i, D.atKey (LE.ky i) (.lit (.int .i64 0)) = .lit (.int .i64 (f i))
theorem mk25 (w : World) : (Instr.makeMap 25 none).run Try.prog w = .ok (.map (some w.heap.size)) (w.alloc (.map #[] 0)) := by
  simp [Instr.makeMap, run_underlying Try.underlying25]
theorem MP.new (w : World) : MP (w.alloc (.map #[] 0)) w.heap.size 0 (fun _ => 0) :=
  ⟨.map [], 0, Nat.le_refl _, World.ownsMap_made (H := Unit) w Try.prog 3 (plainElem Try.prog 3), Maps.tidy_empty, fun _ => rfl⟩
variable {w0 w x : World} {B : BB} {b N ub hb : Nat} {f U H : Int → Int} {v v' : Value}
theorem MP.frm (h : MP w b N f) {F : Nat → Prop} (g : Frm F w x) (hn : ¬ F b) : MP x b N f := by
  obtain ⟨D, k, hk, o, t, e⟩ := h
  exact ⟨D, k, hk, LE.ownsMap_frm o g hn, t, e⟩
theorem MP.lt (h : MP w b N f) : b < w.heap.size := by obtain ⟨D, k, hk, o, t, e⟩ := h; exact o.lt
theorem MP.get (h : MP w b N f) {i c : Int} (hi : LE.Wi i) (hc : f i = c) : (Instr.lookup 25 (.map (some b)) (.int .i64 i) false).run Try.prog w = .ok (.int .i64 c) w := by
  obtain ⟨D, k, hk, o, t, e⟩ := h
  obtain ⟨d, hrun, hat, _⟩ := o.lookup_int LE.law3 Try.underlying25 Try.underlying3 (LE.zero3 w) (Maps.keyOf_int_mk Try.underlying3 (LE.wi_wf hi))
  have := (e i).symm.trans hat
  rw [hrun]
  simp only [DataW.lit.injEq, Lit.int.injEq, true_and] at this
  rw [← this, hc]
theorem MP.set (h : MP w b N f) {i c : Int} (hi : LE.Wi i) (hc : LE.Wi c) (hN : N < 1000000) : ∃ w', (Instr.mapUpdate 25 (.map (some b)) (.int .i64 i) (.int .i64 c)).run Try.prog w = .ok () w' ∧ MP w' b (N + 1) (fun j => if j = i then c else f j) ∧ Frm (fun k => k = b) w w' := by
  obtain ⟨D, k, hk, o, t, e⟩ := h
  obtain ⟨w', hrun, o2, tn⟩ := o.store LE.law3 Try.underlying25 (by have : maxLen = 9223372036854775807 := rfl; omega) (Maps.keyOf_int_mk Try.underlying3 (LE.wi_wf hi)) (plainElem_int Try.underlying3 (LE.wi_wf hc))
  refine ⟨w', hrun, ⟨_, k + 1, by omega, o2, t.put (LE.ky_lit i) _, fun j => ?_⟩, LE.turned_frm tn⟩
  by_cases ej : j = i
  · subst ej
    simp only [if_true]
    exact Maps.atKey_put_same t.isMap (LE.ky_lit _) _ _
  · simp only [ej, if_false]
    refine Eq.trans ?_ (e j)
    exact Maps.atKey_put_other (LE.ky_ne ej) _ _
/-- the two maps beside the book. -/
structure OX (w0 w : World) (B : BB) (ub hb : Nat) (v : Value) (N : Nat) (U H : Int → Int) : Prop where
  u : MP w ub N U
  h : MP w hb N H
  ne : ub ≠ hb
  nu : ¬ bf B v ub
  nh : ¬ bf B v hb
  lu : w0.heap.size ≤ ub
  lh : w0.heap.size ≤ hb
theorem OX.step (h : OX w0 w B ub hb v N U H) (s : Stp B v v' w x) : OX w0 x B ub hb v' N U H :=
  ⟨h.u.frm s.f h.nu, h.h.frm s.f h.nh, h.ne, fun e => (near_bf s.n e).elim h.nu (fun c => by have := h.u.lt; omega), fun e => (near_bf s.n e).elim h.nh (fun c => by have := h.h.lt; omega), h.lu, h.lh⟩
theorem OX.later (h : OX w0 w B ub hb v N U H) (g : Grw w x) : OX w0 x B ub hb v N U H := h.step (Stp.of B v g)
theorem MP.more (h : MP w b N f) : MP w b (N + 1) f := by
  obtain ⟨D, k, hk, o, t, e⟩ := h
  exact ⟨D, k, by omega, o, t, e⟩
theorem OX.setU (h : OX w0 w B ub hb v N U H) {U' : Int → Int} (m : MP x ub (N + 1) U') (f : Frm (fun k => k = ub) w x) : OX w0 x B ub hb v (N + 1) U' H :=
  ⟨m, (h.h.frm f (fun e => h.ne e.symm)).more, h.ne, h.nu, h.nh, h.lu, h.lh⟩
theorem OX.setH (h : OX w0 w B ub hb v N U H) {H' : Int → Int} (m : MP x hb (N + 1) H') (f : Frm (fun k => k = hb) w x) : OX w0 x B ub hb v (N + 1) U H' :=
  ⟨(h.u.frm f h.ne).more, m, h.ne, h.nu, h.nh, h.lu, h.lh⟩
theorem BS.apart {a room n count : Int} {last k : Nat} {L : List QQ.Wt} {G : List LE.Gr} {J : List Jb} (h : BS w0 w B a room n count v last k L G J) (f : Frm (fun k => k = b) w x) (hn : ¬ bf B v b) (hl : w0.heap.size ≤ b) : BS w0 x B a room n count v last k L G J := by
  obtain ⟨sz, hz, m⟩ := h.m
  exact ⟨⟨sz, hz, ⟨m.b.keep f (fun j hj e => hn (e ▸ hj)), f.grw m.g (fun j e => by rw [e]; exact hl), m.new⟩⟩, h.bi, h.nn, h.rr, h.cc, h.ll⟩
/-- the lease of a job, or 0. -/
def hol (G : List LE.Gr) (i : Int) : Int := match LE.byJ G i with
  | none => 0
  | some g => g.n
/-- what the two maps hold: how often each job was leased; the lease of each job. -/
structure OI (next : Nat) (G : List LE.Gr) (J : List Jb) (U H : Int → Int) : Prop where
  idr : ∀ x ∈ J, 0 ≤ x.id ∧ x.id < next
  us : ∀ x ∈ J, U x.id = x.u
  ud : ∀ i, (next : Int) ≤ i → U i = 0
  hs : ∀ i, H i = hol G i
theorem hol_none {G : List LE.Gr} {i : Int} (h : LE.byJ G i = none) : hol G i = 0 := by unfold hol; rw [h]
theorem hol_some {G : List LE.Gr} {i : Int} {g : LE.Gr} (h : LE.byJ G i = some g) : hol G i = g.n := by unfold hol; rw [h]
theorem byJ_append {G : List LE.Gr} {g : LE.Gr} {i : Int} : LE.byJ (G ++ [g]) i = (LE.byJ G i).or (if g.j = i then some g else none) := by
  unfold LE.byJ
  rw [List.find?_append]
  congr 1
  by_cases h : g.j = i <;> simp [List.find?, h]
theorem byJ_off_ne {last : Nat} {G : List LE.Gr} (h : LE.Ok last G) {g : LE.Gr} (hg : g ∈ G) {i : Int} (hi : i ≠ g.j) : LE.byJ (LE.off [g] G) i = LE.byJ G i := by
  rw [LE.off_j h hg]
  unfold LE.byJ
  rw [List.find?_filter]
  congr 1
  funext z
  by_cases h : z.j = i
  · subst h; simp [hi]
  · simp [h]
theorem byJ_off {last : Nat} {G : List LE.Gr} (h : LE.Ok last G) {g : LE.Gr} (hg : g ∈ G) : LE.byJ (LE.off [g] G) g.j = none :=
  LE.byJ_no fun _ hx e => (LE.mem_off.1 hx).2 (List.mem_singleton.2 (h.j_inj (LE.mem_off.1 hx).1 hg e))
theorem byN_off {last : Nat} {G : List LE.Gr} (h : LE.Ok last G) {g : LE.Gr} (hg : g ∈ G) : LE.byN (LE.off [g] G) g.n = none :=
  LE.byN_no fun _ hx e => (LE.mem_off.1 hx).2 (List.mem_singleton.2 (h.n_inj (LE.mem_off.1 hx).1 hg e))
theorem hol_off {last : Nat} {G : List LE.Gr} (h : LE.Ok last G) {g : LE.Gr} (hg : g ∈ G) (i : Int) : hol (LE.off [g] G) i = if i = g.j then 0 else hol G i := by
  by_cases e : i = g.j
  · subst e; simp only [if_true]; exact hol_none (byJ_off h hg)
  · simp only [e, if_false]; unfold hol; rw [byJ_off_ne h hg e]
theorem OI.off {next last : Nat} {G : List LE.Gr} {J J' : List Jb} (h : OI next G J U H) (ok : LE.Ok last G) {g : LE.Gr} (hg : g ∈ G) (hJ : ∀ x ∈ J', ∃ y ∈ J, y.id = x.id ∧ y.u = x.u) : OI next (LE.off [g] G) J' U (fun j => if j = g.j then 0 else H j) :=
  ⟨fun x hx => by obtain ⟨y, hy, e, _⟩ := hJ x hx; rw [← e]; exact h.idr y hy, fun x hx => by obtain ⟨y, hy, e, e2⟩ := hJ x hx; rw [← e, h.us y hy, e2], h.ud, fun i => by rw [hol_off ok hg]; simp only [h.hs i]⟩
/-- the map's 0 is written where there was none. -/
theorem OI.same {next : Nat} {G : List LE.Gr} {J J' : List Jb} (h : OI next G J U H) {j : Int} (hj : LE.byJ G j = none) (hJ : ∀ x ∈ J', ∃ y ∈ J, y.id = x.id ∧ y.u = x.u) : OI next G J' U (fun i => if i = j then 0 else H i) :=
  ⟨fun x hx => by obtain ⟨y, hy, e, _⟩ := hJ x hx; rw [← e]; exact h.idr y hy, fun x hx => by obtain ⟨y, hy, e, e2⟩ := hJ x hx; rw [← e, h.us y hy, e2], h.ud, fun i => by
    by_cases e : i = j
    · subst e; simp only [if_true]; exact (hol_none hj).symm
    · simp only [e, if_false]; exact h.hs i⟩
theorem OI.add {next : Nat} {G : List LE.Gr} {J : List Jb} (h : OI next G J U H) (c : Int) : OI (next + 1) G (J ++ [⟨next, c, 1, 0⟩]) U H := by
  refine ⟨fun x hx => ?_, fun x hx => ?_, fun i hi => h.ud i (by omega), h.hs⟩
  · rcases List.mem_append.1 hx with hx | hx
    · have := h.idr x hx; omega
    · rw [List.mem_singleton.1 hx]; simp only; omega
  · rcases List.mem_append.1 hx with hx | hx
    · exact h.us x hx
    · rw [List.mem_singleton.1 hx]; exact h.ud _ (Int.le_refl _)
theorem OI.fetch {next : Nat} {G : List LE.Gr} {J : List Jb} (h : OI next G J U H) {y : Jb} (hy : y ∈ J) (hj : LE.byJ G y.id = none) (m : Int) (t : Nat) (c s : Int) :
    OI next (G ++ [⟨m, y.id, t⟩]) (upd J ⟨y.id, c, s, y.u + 1⟩) (fun i => if i = y.id then y.u + 1 else U i) (fun i => if i = y.id then m else H i) := by
  refine ⟨fun x hx => ?_, fun x hx => ?_, fun i hi => ?_, fun i => ?_⟩
  · rcases mem_upd.1 hx with ⟨hx, _⟩ | ⟨rfl, _⟩
    · exact h.idr x hx
    · exact h.idr y hy
  · rcases mem_upd.1 hx with ⟨hx, e⟩ | ⟨rfl, _⟩
    · have e' : ¬ x.id = y.id := e
      simp only [e', if_false]; exact h.us x hx
    · simp only [if_true]
  · have := h.idr y hy
    have e' : ¬ i = y.id := by omega
    simp only [e', if_false]; exact h.ud i hi
  · unfold hol
    rw [byJ_append]
    by_cases e : i = y.id
    · subst e; simp [hj]
    · have e' : ¬ y.id = i := fun c => e c.symm
      simp only [e, e', if_false, Option.or_none]
      exact h.hs i
set_option maxRecDepth 100000 in
theorem mod_any (n : Int) (m : Nat) (w : World) (h0 : 0 < m) (hm : m ≤ 1000) :
    Calls Try.prog 8 #[.int .i64 n, .int .i64 (m : Int)] w fun e w' => e = .returned (.int .i64 (n % (m : Int))) ∧ w = w' := by
  have hr : n.tmod (m : Int) = n % (m : Int) ∨ (n.tmod (m : Int) < 0 ∧ n.tmod (m : Int) + m = n % (m : Int)) := by
    have ha : ∀ k : Nat, 0 < k → ∀ z : Int, z.tmod (k : Int) = z % (k : Int) ∨ (z.tmod (k : Int) < 0 ∧ z.tmod (k : Int) + k = z % (k : Int)) := by
      intro k hk z
      by_cases hz : 0 ≤ z
      · left; exact Int.tmod_eq_emod_of_nonneg hz
      · rw [Int.tmod_eq_emod]
        have hkz : (k : Int) ≠ 0 := by omega
        have h3 := Int.emod_nonneg z hkz
        have h4 := Int.emod_lt_of_pos z (by omega : (0 : Int) < k)
        by_cases hd : (k : Int) ∣ z
        · left
          rw [if_pos (Or.inr hd)]; omega
        · right
          rw [if_neg (by intro h; rcases h with h | h; exact hz h; exact hd h)]
          have : (k : Int).natAbs = k := by simp
          omega
    exact ha m h0 n
  have h3 := Int.emod_nonneg n (show (m : Int) ≠ 0 by omega)
  have h4 := Int.emod_lt_of_pos n (show (0 : Int) < m by omega)
  have hne : ¬ (m : Int) = 0 := by omega
  have hn1 : ¬ (m : Int) = -1 := by omega
  obtain ⟨r, hre⟩ : ∃ r, n.tmod (m : Int) = r := ⟨_, rfl⟩
  obtain ⟨q, hq⟩ : ∃ q, n % (m : Int) = q := ⟨_, rfl⟩
  rw [hq] at hr h3 h4 ⊢
  rw [hre] at hr
  have HQ := Lib.hid hq
  clear hq
  rcases hr with rfl | ⟨hr1, hr2⟩
  · have hlt : decide (r < 0) = false := by simp; omega
    have hge : ¬ r < 0 := by omega
    go_enter Try.func8, Try.ntmps8
    go_wp2_with fail
    go_ret
    exact ⟨rfl, rfl⟩
  · have HR := Lib.hid hr2
    clear h4
    have hw : wrap64 (r + (m : Int)) = r + (m : Int) := by unfold wrap64; omega
    go_enter Try.func8, Try.ntmps8
    go_wp2_with fail
    go_ret
    exact ⟨by rw [← HR.out]; rfl, rfl⟩
end Go.Proofs.Ytlopijcpnfkcgaa
