/- Plans: timers in order, each number once; what the document's Good, Insert, Cancel, Split say of lists. Nothing of the program is named here. -/
import Derived.Test.YtjkhgpdhhnfmlaaDoorRg
import Derived.Test.YtjkhgpdhhnfmlaaDoorRj
import Derived.Test.YtjkhgpdhhnfmlaaDoorSa
import Derived.Test.YtjkhgpdhhnfmlaaDoorXb
import Derived.Maps.OwnSet
namespace Go.Proofs.YtjkhgpdhhnfmlaaDoor
namespace PM
open RG

def ids (l : List Du) : List Int := l.map (·.id)
/-- in order, and each number once. -/
def Gd (l : List Du) : Prop := Srt l ∧ (ids l).Nodup
theorem ids_app (l k : List Du) : ids (l ++ k) = ids l ++ ids k := by unfold ids; exact List.map_append
theorem mem_ids {l : List Du} {i : Int} : i ∈ ids l ↔ ∃ d ∈ l, d.id = i := by unfold ids; rw [List.mem_map]
/-- neighbours in order: all in order. -/
theorem srt_adj {l : List Du} (h : ∀ j (g : j + 1 < l.length), le (l[j]'(by omega)) l[j + 1]) : Srt l := by
  unfold Srt
  rw [List.pairwise_iff_getElem]
  intro i j hi hj hij
  obtain ⟨k, rfl⟩ : ∃ k, j = i + 1 + k := ⟨j - i - 1, by omega⟩
  clear hij
  induction k with
  | zero => exact h i (by omega)
  | succ k ih => exact le_trans (ih (by omega)) (h (i + 1 + k) (by omega))
theorem srt_at {l : List Du} (h : Srt l) {i j : Nat} (hj : j < l.length) (hij : i < j) : le (l[i]'(by omega)) l[j] :=
  List.pairwise_iff_getElem.1 h i j (by omega) hj hij
theorem not_srt {l : List Du} {j : Nat} (g : j + 1 < l.length) (h : less l[j + 1] (l[j]'(by omega)) = true) : ¬ Srt l := fun s => by
  have := srt_at s g (Nat.lt_succ_self j)
  unfold le at this
  rw [this] at h
  cases h
/-- each number once, as far as k. -/
theorem ids_take_succ {l : List Du} {k : Nat} (h : k < l.length) : ids (l.take (k + 1)) = ids (l.take k) ++ [l[k].id] := by
  rw [List.take_add_one, ids_app, List.getElem?_eq_getElem h]; rfl
theorem nodup_take {l : List Du} (h : (ids l).Nodup) (k : Nat) : (ids (l.take k)).Nodup := h.sublist ((List.take_sublist k l).map _)
theorem nodup_step {l : List Du} {k : Nat} (h : k < l.length) (g : (ids (l.take k)).Nodup) (n : l[k].id ∉ ids (l.take k)) : (ids (l.take (k + 1))).Nodup := by
  rw [ids_take_succ h, List.nodup_append]
  refine ⟨g, List.nodup_cons.2 ⟨by simp, List.nodup_nil⟩, fun a ha b hb e => ?_⟩
  rw [List.mem_singleton] at hb
  subst hb
  subst e
  exact n ha
theorem nodup_not {l : List Du} {k : Nat} (h : k < l.length) (n : l[k].id ∈ ids (l.take k)) : ¬ (ids l).Nodup := fun g => by
  have := nodup_take g (k + 1)
  rw [ids_take_succ h, List.nodup_append] at this
  exact this.2.2 _ n _ (List.mem_singleton.2 rfl) rfl
theorem nodup_at {l : List Du} (h : (ids l).Nodup) {i j : Nat} (hi : i < l.length) (hj : j < l.length) (e : l[i].id = l[j].id) : i = j := by
  unfold ids List.Nodup at h
  rw [List.pairwise_map, List.pairwise_iff_getElem] at h
  rcases Nat.lt_trichotomy i j with g | g | g
  · exact absurd e (h i j hi hj g)
  · exact g
  · exact absurd e.symm (h j i hj hi g)
/-- strictly in order, and each number once: Good as the document has it. -/
theorem gd_strict {l : List Du} : Gd l ↔ (∀ j (g : j + 1 < l.length), less (l[j]'(by omega)) l[j + 1] = true) ∧ (ids l).Nodup := by
  constructor
  · intro h
    refine ⟨fun j g => less_of_le (srt_at h.1 g (Nat.lt_succ_self j)) (fun e => ?_), h.2⟩
    have := nodup_at h.2 (by omega : j < l.length) g (by rw [e])
    omega
  · intro h
    exact ⟨srt_adj fun j g => le_of_less (h.1 j g), h.2⟩

/-- the place of the first timer of that number; -1. -/
def fx : List Du → Int → Int
  | [], _ => -1
  | d :: l, i => if d.id = i then 0 else (if fx l i = -1 then -1 else fx l i + 1)
theorem fx_or (l : List Du) (i : Int) : (fx l i = -1 ∧ i ∉ ids l) ∨ ∃ k : Nat, ∃ h : k < l.length, fx l i = k ∧ l[k].id = i ∧ ∀ j (g : j < k), (l[j]'(by omega)).id ≠ i := by
  induction l with
  | nil => exact Or.inl ⟨rfl, by simp [ids]⟩
  | cons d l ih =>
    by_cases e : d.id = i
    · right
      refine ⟨0, by simp, ?_, e, fun j g => by omega⟩
      simp [fx, e]
    · rcases ih with ⟨h1, h2⟩ | ⟨k, hk, h1, h2, h3⟩
      · left
        refine ⟨by simp [fx, e, h1], ?_⟩
        unfold ids at *
        simp only [List.map_cons, List.mem_cons, not_or]
        exact ⟨fun c => e c.symm, h2⟩
      · right
        refine ⟨k + 1, by simpa using hk, ?_, by simpa using h2, fun j g => ?_⟩
        · have : ¬ ((k : Int) = -1) := by omega
          simp [fx, e, h1, this]
        · cases j with
          | zero => simpa using e
          | succ j => simpa using h3 j (by omega)
theorem fx_at {l : List Du} {i : Int} {k : Nat} (h : k < l.length) (e : l[k].id = i) (f : ∀ j (g : j < k), (l[j]'(by omega)).id ≠ i) : fx l i = k := by
  rcases fx_or l i with ⟨_, h2⟩ | ⟨m, hm, h1, h2, h3⟩
  · exact absurd (mem_ids.2 ⟨l[k], List.getElem_mem h, e⟩) h2
  · rcases Nat.lt_trichotomy m k with g | g | g
    · exact absurd h2 (f m g)
    · rw [h1, g]
    · exact absurd e (h3 k g)
theorem fx_no {l : List Du} {i : Int} (f : ∀ j (g : j < l.length), l[j].id ≠ i) : fx l i = -1 := by
  rcases fx_or l i with ⟨h, _⟩ | ⟨m, hm, h1, h2, h3⟩
  · exact h
  · exact absurd h2 (f m hm)
theorem fx_neg {l : List Du} {i : Int} : fx l i < 0 ↔ i ∉ ids l := by
  rcases fx_or l i with ⟨h, g⟩ | ⟨m, hm, h1, h2, _⟩
  · exact ⟨fun _ => g, fun _ => by omega⟩
  · exact ⟨fun c => by omega, fun c => absurd (mem_ids.2 ⟨_, List.getElem_mem hm, h2⟩) c⟩
/-- without that number. -/
def del (i : Int) (l : List Du) : List Du := l.filter (fun d => decide (d.id ≠ i))
theorem cut_del {l : List Du} (h : (ids l).Nodup) {k : Nat} (hk : k < l.length) {i : Int} (e : l[k].id = i) : l.take k ++ l.drop (k + 1) = del i l := by
  have h1 : l = l.take k ++ l[k] :: l.drop (k + 1) := by rw [List.getElem_cons_drop hk, List.take_append_drop]
  have hn := h
  rw [h1, ids_app] at hn
  unfold ids at hn
  rw [List.map_cons, List.nodup_append, List.nodup_cons] at hn
  obtain ⟨_, ⟨n1, _⟩, n2⟩ := hn
  have a : (l.take k).filter (fun d => decide (d.id ≠ i)) = l.take k := by
    rw [List.filter_eq_self]
    intro d hd
    simp only [ne_eq, decide_not, Bool.not_eq_eq_eq_not, Bool.not_true, decide_eq_false_iff_not]
    exact fun c => n2 d.id (List.mem_map.2 ⟨d, hd, rfl⟩) l[k].id List.mem_cons_self (c.trans e.symm)
  have b : (l.drop (k + 1)).filter (fun d => decide (d.id ≠ i)) = l.drop (k + 1) := by
    rw [List.filter_eq_self]
    intro d hd
    simp only [ne_eq, decide_not, Bool.not_eq_eq_eq_not, Bool.not_true, decide_eq_false_iff_not]
    exact fun c => n1 (List.mem_map.2 ⟨d, hd, c.trans e.symm⟩)
  unfold del
  conv => rhs; rw [h1]
  rw [List.filter_append, List.filter_cons, if_neg (by simp [e]), a, b]
theorem gd_filter {l : List Du} (h : Gd l) (p : Du → Bool) : Gd (l.filter p) :=
  ⟨List.Pairwise.sublist List.filter_sublist h.1, h.2.sublist ((List.filter_sublist).map _)⟩
theorem gd_nil : Gd [] := ⟨List.Pairwise.nil, List.nodup_nil⟩
theorem ids_perm {l k : List Du} (h : l.Perm k) : (ids l).Perm (ids k) := h.map _
theorem gd_put {l : List Du} {d : Du} (h : Gd l) (n : d.id ∉ ids l) : Gd (put d l) :=
  ⟨put_srt h.1, (ids_perm (put_perm d l)).nodup_iff.2 (List.nodup_cons.2 ⟨n, h.2⟩)⟩
theorem sort_self {l : List Du} (h : Srt l) : sort l = l := sort_is h (List.Perm.refl _)
theorem sort_put {l : List Du} {d : Du} (h : Srt l) : sort (l ++ [d]) = put d l := by rw [sort_snoc, sort_self h]
theorem gd_sort (l : List Du) : Gd (sort l) ↔ (ids l).Nodup :=
  ⟨fun h => (ids_perm (sort_perm l)).nodup_iff.1 h.2, fun h => ⟨sort_srt l, (ids_perm (sort_perm l)).nodup_iff.2 h⟩⟩
/-- cut at a time. -/
def upto (t : Nat) (l : List Du) : List Du := l.filter (fun d => decide (d.t ≤ t))
def past (t : Nat) (l : List Du) : List Du := l.filter (fun d => !decide (d.t ≤ t))
theorem upto_snoc (t : Nat) (l : List Du) (d : Du) : upto t (l ++ [d]) = if d.t ≤ t then upto t l ++ [d] else upto t l := by
  unfold upto; rw [List.filter_append]
  by_cases h : d.t ≤ t <;> simp [h]
theorem past_snoc (t : Nat) (l : List Du) (d : Du) : past t (l ++ [d]) = if d.t ≤ t then past t l else past t l ++ [d] := by
  unfold past; rw [List.filter_append]
  by_cases h : d.t ≤ t <;> simp [h]
theorem upto_len (t : Nat) (l : List Du) : (upto t l).length + (past t l).length = l.length := by
  induction l with
  | nil => rfl
  | cons d l ih =>
    unfold upto past at *
    by_cases h : d.t ≤ t
    · simp [h]; omega
    · simp [h]; omega
/-- sorted: what is due lies ahead of the rest. -/
theorem upto_app {l : List Du} (h : Srt l) (t : Nat) : upto t l ++ past t l = l := by
  induction l with
  | nil => rfl
  | cons d l ih =>
    have hs := (List.pairwise_cons.1 h)
    have ih := ih hs.2
    unfold upto past at *
    by_cases g : d.t ≤ t
    · simp [g, ih]
    · have e1 : l.filter (fun d => decide (d.t ≤ t)) = [] := by
        rw [List.filter_eq_nil_iff]
        intro x hx
        have := (le_iff _ _).1 (hs.1 x hx)
        simp; omega
      rw [e1] at ih
      rw [List.nil_append] at ih
      rw [List.filter_cons, if_neg (by simpa using g), List.filter_cons, if_pos (by simpa using g), e1, ih]
      rfl
/-- cut at two times. -/
theorem past_past {x y : Nat} (h : x ≤ y) (l : List Du) : past y (past x l) = past y l := by
  unfold past
  rw [List.filter_filter]
  apply List.filter_congr
  intro d _
  by_cases g : d.t ≤ y
  · simp [g]
  · have : ¬ d.t ≤ x := by omega
    simp [g, this]
theorem upto_two {x y : Nat} (h : x ≤ y) (l : List Du) : (upto x l).length + (upto y (past x l)).length = (upto y l).length := by
  induction l with
  | nil => rfl
  | cons d l ih =>
    unfold upto past at *
    by_cases g : d.t ≤ x
    · have : d.t ≤ y := by omega
      simp [g, this] at *; omega
    · by_cases g' : d.t ≤ y
      · simp [g, g'] at *; omega
      · simp [g, g'] at *; omega
theorem upto_both {l : List Du} (hs : Srt l) {x y : Nat} (h : x ≤ y) : upto x l ++ upto y (past x l) = upto y l := by
  induction l with
  | nil => rfl
  | cons d l ih =>
    have hs := (List.pairwise_cons.1 hs)
    have ih := ih hs.2
    by_cases g : d.t ≤ x
    · have g' : d.t ≤ y := by omega
      unfold upto past at *
      simp [g, g'] at *
      exact ih
    · have e1 : upto x (d :: l) = [] := by
        unfold upto
        rw [List.filter_eq_nil_iff]
        intro z hz
        rcases List.mem_cons.1 hz with rfl | hz
        · simpa using g
        · have := (le_iff _ _).1 (hs.1 z hz)
          simp; omega
      have e2 : past x (d :: l) = d :: l := by
        have := upto_app (List.pairwise_cons.2 hs) x
        rw [e1, List.nil_append] at this
        exact this
      rw [e1, e2]; rfl
end PM
end Go.Proofs.YtjkhgpdhhnfmlaaDoor

/- The contracts of plan.order and of slices.BinarySearchFunc with it at this program. -/
namespace Go.Proofs.YtjkhgpdhhnfmlaaDoor
namespace PL
open Go.RowKit
open RG (Du)
set_option linter.unusedSimpArgs false

set_option maxHeartbeats 1000000 in
set_option maxRecDepth 100000 in
theorem order_any (a b : Du) (w : World) :
    Calls Tryd.prog 48 #[dv a, dv b] w fun e w' => e = .returned (.int .i64 (ord a b)) ∧ Grw w w' := by
  obtain ⟨r, hr⟩ : ∃ r, ord a b = r := ⟨_, rfl⟩
  rw [hr]
  unfold ord at hr
  obtain ⟨ai, a2⟩ := a
  obtain ⟨bi, b2⟩ := b
  simp only at hr
  unfold dv
  simp only
  obtain ⟨x, hx⟩ : ∃ x, cmp a2 b2 = x := ⟨_, rfl⟩
  obtain ⟨y, hy⟩ : ∃ y, cmp ai bi = y := ⟨_, rfl⟩
  rw [hx, hy] at hr
  have C1 := Lib.hid (fun w => cmpu_is a2 b2 x hx w)
  have C2 := Lib.hid (fun w => cmpi_is ai bi y hy w)
  have C3 := Lib.hid (fun g w => or_is x y r hr g w)
  clear hx hy hr
  go_enter Tryd.func48, Tryd.ntmps48
  go_wp2_with fail
  go_region_held3 (fun u => u.cell? ⟨w.heap.size, 0, none⟩ = some (.int .i64 ai) ∧ u.cell? ⟨w.heap.size, 1, none⟩ = some (.int .u64 a2) ∧ u.cell? ⟨w.heap.size + 1, 0, none⟩ = some (.int .i64 bi) ∧ u.cell? ⟨w.heap.size + 1, 1, none⟩ = some (.int .u64 b2)) (go_keep)
    (first | (go_at_call 71; refine (C1.out _).mono ?_; rintro _ w1 ⟨rfl, rfl⟩) | (go_at_call 72; refine (C2.out _).mono ?_; rintro _ w1 ⟨rfl, rfl⟩) | (go_at_call 70; refine (C3.out _ _ (by simp [go_sem]) (by simp [go_sem])).mono ?_; rintro _ w1 ⟨rfl, rfl⟩))
  go_wp2_with fail
  go_ret
  exact ⟨rfl, ((((Grw.rfl' _).alloc _).alloc _).drew).alloc _⟩
theorem order_is (a b : Du) (r : Int) (h : ord a b = r) (w : World) :
    Calls Tryd.prog 48 #[dv a, dv b] w fun e w' => e = .returned (.int .i64 r) ∧ Grw w w' := by rw [← h]; exact order_any a b w
set_option maxHeartbeats 2000000 in
set_option maxRecDepth 100000 in
theorem search_any (ao : Option Addr) (cap : Nat) (l : List Du) (d : Du) (w : World) (hr : Lies w ao (cd l)) (hs : RG.Srt l) (hb : l.length ≤ 1000000) :
    Calls Tryd.prog 47 #[.slice ao l.length cap, dv d, .func (.func 48) #[] #[]] w (SearchQ d l w) := by
  obtain ⟨di, dt⟩ := d
  have S := Lib.hid hs
  have LI := Lib.hid hr
  have EX : ∀ q, ∀ h : q < l.length, RG.less l[q] ⟨di, dt⟩ = decide (ord l[q] ⟨di, dt⟩ < 0) := fun q h => (ord_neg _ _).symm
  have E := Lib.hid EX
  obtain ⟨n, hn⟩ : ∃ n, l.length = n := ⟨_, rfl⟩
  rw [hn] at hb ⊢
  have N := Lib.hid hn
  clear hs hr EX hn
  unfold dv
  simp only
  go_enter Tryd.func47, Tryd.ntmps47
  go_wp2_with fail
  go_loopw [9, 10] (fun u v wr => ∃ i j : Nat, i ≤ j ∧ j ≤ n ∧ u = .int .i64 i ∧ v = .int .i64 j ∧ Grw (w.alloc (.cells #[.int .i64 di, .int .u64 dt] 42)) wr ∧
      (∀ q (h : q < l.length), q < i → RG.less l[q] ⟨di, dt⟩ = true) ∧ (∀ q (h : q < l.length), j ≤ q → RG.less l[q] ⟨di, dt⟩ = false)) (fun u v _ => (intOf v).toNat - (intOf u).toNat)
  case atStart => exact ⟨0, n, Nat.zero_le _, Nat.le_refl _, rfl, rfl, Grw.rfl' _, fun q _ h => by omega, fun q h1 h2 => by rw [N.out] at h1; omega⟩
  case round =>
    obtain ⟨i, j, hij, hjn, rfl, rfl, hg, hlo, hhi⟩ := hrel
    have LO := Lib.hid hlo
    have HI := Lib.hid hhi
    have G := Lib.hid hg
    have K := Kp.grown hg
    have k0 := gw_cell K.t.c0
    have k1 := gw_cell K.t.c1
    clear hlo hhi hg K
    by_cases hlt : i < j
    · have hlti : (i : Int) < (j : Int) := by omega
      obtain ⟨h, hh⟩ : ∃ h, (i + j) / 2 = h := ⟨_, rfl⟩
      have hh1 : ((i : Int) + (j : Int)) / 2 = (h : Int) := by omega
      have hhn : h < n := by omega
      have hhi : i ≤ h := by omega
      have hhj : h < j := by omega
      have hhl : h < l.length := by rw [N.out]; exact hhn
      obtain ⟨b, off, rfl, c0, c1⟩ := lies_at ((LI.out.later ((Grw.rfl' _).alloc _)).later G.out) hhl
      have m0 := gw_cell c0
      have m1 := gw_cell c1
      obtain ⟨x, hx⟩ : ∃ x, l[h] = x := ⟨_, rfl⟩
      obtain ⟨r, hr⟩ : ∃ r, ord x ⟨di, dt⟩ = r := ⟨_, rfl⟩
      have hL := E.out h hhl
      rw [hx, hr] at hL
      rw [hx] at m0 m1
      have C := Lib.hid (fun w => order_is x ⟨di, dt⟩ r hr w)
      obtain ⟨xi, xt⟩ := x
      unfold dv at C
      simp only at C m0 m1
      have HL := Lib.hid (And.intro hx hL)
      have HH := Lib.hid hh
      clear c0 c1 hx hr hL hh
      by_cases hneg : r < 0
      · have hd : decide (r < 0) = true := by simp [hneg]
        go_wp2_with fail
        refine wp_region_grown (by kernel_rfl) (by kernel_rfl) ?_
        repeat (go_big_quiet_step (first | (go_at_call 48; exact calls_grown (C.out _))))
        refine wpQuiet_nil ?_
        rintro _ ⟨q', rfl⟩
        have GQ := Lib.hid (G.out.trans q'.h)
        clear k0 k1 m0 m1
        go_wp2_with fail
        go_roundw
        case rel => exact ⟨h + 1, j, by omega, by omega, by go_num, rfl, GQ.out, fun q h1 h2 => srt_less S.out hhl (by omega : q ≤ h) (by rw [HL.out.1, HL.out.2]; exact hd), HI.out⟩
        case measure => simp [intOf]; omega
      · have hd : decide (r < 0) = false := by simp; omega
        go_wp2_with fail
        refine wp_region_grown (by kernel_rfl) (by kernel_rfl) ?_
        repeat (go_big_quiet_step (first | (go_at_call 48; exact calls_grown (C.out _))))
        refine wpQuiet_nil ?_
        rintro _ ⟨q', rfl⟩
        have GQ := Lib.hid (G.out.trans q'.h)
        clear k0 k1 m0 m1
        go_wp2_with fail
        go_roundw
        case rel => exact ⟨i, h, by omega, by omega, rfl, rfl, GQ.out, LO.out, fun q h1 h2 => srt_not S.out h1 h2 (by rw [HL.out.1, HL.out.2]; exact hd)⟩
        case measure => simp [intOf]; omega
    · have hlti : ¬ (i : Int) < (j : Int) := by omega
      obtain rfl : i = j := by omega
      by_cases hin : i < n
      · have hini : decide ((i : Int) < (n : Int)) = true := by simp; omega
        have hil : i < l.length := by rw [N.out]; exact hin
        obtain ⟨b, off, rfl, c0, c1⟩ := lies_at ((LI.out.later ((Grw.rfl' _).alloc _)).later G.out) hil
        have m0 := gw_cell c0
        have m1 := gw_cell c1
        obtain ⟨x, hx⟩ : ∃ x, l[i] = x := ⟨_, rfl⟩
        obtain ⟨r, hr⟩ : ∃ r, ord x ⟨di, dt⟩ = r := ⟨_, rfl⟩
        rw [hx] at m0 m1
        have C := Lib.hid (fun w => order_is x ⟨di, dt⟩ r hr w)
        obtain ⟨xi, xt⟩ := x
        unfold dv at C
        simp only at C m0 m1
        clear c0 c1 hx hr
        go_wp2_with fail
        refine wp_region_grown (by kernel_rfl) (by kernel_rfl) ?_
        repeat (go_big_quiet_step (first | (go_at_call 48; exact calls_grown (C.out _))))
        refine wpQuiet_nil ?_
        rintro _ ⟨q', rfl⟩
        have GQ := Lib.hid (G.out.trans q'.h)
        clear k0 k1 m0 m1
        go_wp2_with fail
        refine bodyPost_ret (v := .tuple #[.int .i64 i, .bool (r == 0)]) (by simp [results, Tryd.results47, go_sem]) rfl ?_
        exact ⟨i, _, rfl, ⟨by rw [N.out]; exact hjn, LO.out, HI.out⟩, GQ.out.two⟩
      · have hini : decide ((i : Int) < (n : Int)) = false := by simp; omega
        go_wp2_with fail
        refine wp_region_grown (by kernel_rfl) (by kernel_rfl) ?_
        repeat (go_big_quiet_step (fail))
        refine wpQuiet_nil ?_
        rintro _ ⟨q', rfl⟩
        have GQ := Lib.hid (G.out.trans q'.h)
        clear k0 k1
        go_wp2_with fail
        refine bodyPost_ret (v := .tuple #[.int .i64 i, .bool false]) (by simp [results, Tryd.results47, go_sem]) rfl ?_
        exact ⟨i, _, rfl, ⟨by rw [N.out]; exact hjn, LO.out, HI.out⟩, GQ.out.two⟩
end PL
end Go.Proofs.YtjkhgpdhhnfmlaaDoor

/- The contracts of plan.Split, plan.find, plan.cut, slices.IndexFunc, slices.IsSortedFunc, plan.distinct and plan.Good at this program, over rows of timers. -/
namespace Go.Proofs.YtjkhgpdhhnfmlaaDoor
namespace PL
open Go.RowKit
open RG (Du)
open PM
set_option linter.unusedSimpArgs false

/-- a row that was made since the world w. -/
def NewD (w w' : World) (v : Value) (l : List Du) : Prop := w'.ownsRow w.heap.size 42 2 v l.length (cd l)
theorem NewD.row {w w' : World} {v : Value} {l : List Du} (h : NewD w w' v l) : RowD w' v l := ownsRow_lies h
theorem NewD.ge {w w' : World} {v : Value} {l : List Du} (h : NewD w w' v l) {k : Nat} (hk : v.ownBlock = some k) : w.heap.size ≤ k ∧ k < w'.heap.size := World.ownsRow.lt h k hk
theorem NewD.nil (w w' : World) : NewD w w' (.slice none 0 0) [] := World.ownsRow_nil _ _ _ _
/-- behind an append of one timer: w the world when the call began, x the world ahead of the append. -/
theorem one_due (w : World) (d : Du) : ∀ (j : Nat) (u : Value), (cd [d])[j]? = some u → (w.alloc (.cells #[.int .i64 d.id, .int .u64 (d.t : Nat)] 42)).cell? ((⟨w.heap.size, 0, none⟩ : Addr).add j) = some u :=
  blk_cells (xs := cd [d]) (t := 42) (heap_alloc_new w _)

/-- two rows that grow, each its own block. -/
structure Sp (w wr : World) (u v : Value) (a b : List Du) : Prop where
  o1 : wr.ownsRow 0 42 2 u a.length (cd a)
  o2 : wr.ownsRow 0 42 2 v b.length (cd b)
  n1 : ∀ k, u.ownBlock = some k → w.heap.size ≤ k
  n2 : ∀ k, v.ownBlock = some k → w.heap.size ≤ k
  ap : ∀ k, u.ownBlock = some k → v.ownBlock ≠ some k
  g : Grw w wr
theorem Sp.swap {w wr : World} {u v : Value} {a b : List Du} (h : Sp w wr u v a b) : Sp w wr v u b a :=
  ⟨h.o2, h.o1, h.n2, h.n1, fun k h1 h2 => h.ap k h2 h1, h.g⟩
theorem Sp.step {w x z y : World} {u v u' : Value} {a b : List Du} {d : Du} (h : Sp w x u v a b) (g : Grw x z) (h1 : y.ownsRow 0 42 2 u' (a.length + 1) (cd a ++ cd [d])) (h2 : z.grownBy y u.ownBlock)
    (h3 : u'.ownBlock = u.ownBlock ∨ u'.ownBlock = some z.heap.size) : Sp w y u' v (a ++ [d]) b := by
  have o2 := ownsRow_frm h.o2 (g.frm (fun _ => False)) (fun _ _ e => e)
  have f := grownBy_frm h2
  refine ⟨by rw [List.length_append, cd_app]; exact h1, ownsRow_frm o2 f (fun k hk c => h.ap k c hk), fun k hk => ?_, h.n2, fun k hk c => ?_, f.grw (h.g.trans g) h.n1⟩
  · rcases h3 with e | e
    · exact h.n1 k (e ▸ hk)
    · rw [e] at hk
      injection hk with hk
      have := Below.size (h.g.trans g)
      omega
  · rcases h3 with e | e
    · exact h.ap k (e ▸ hk) c
    · rw [e] at hk
      injection hk with hk
      have := (World.ownsRow.lt h.o2 k c).2
      have := Below.size g
      omega
theorem base_up {x : World} {B : Nat} {v : Value} {n : Nat} {xs : List Value} (h : x.ownsRow 0 42 2 v n xs) (hb : ∀ k, v.ownBlock = some k → B ≤ k) : x.ownsRow B 42 2 v n xs := by
  refine ⟨h.1, ?_⟩
  rcases h.2 with hn | ⟨b, cap, cur, rfl, _, r⟩
  · exact Or.inl hn
  · exact Or.inr ⟨b, cap, cur, rfl, hb b rfl, r⟩
def SplitQ (t : Nat) (l : List Du) (w : World) (e : Ending) (w' : World) : Prop := ∃ u v, e = .returned (.tuple #[u, v]) ∧ NewD w w' u (upto t l) ∧ NewD w w' v (past t l) ∧ Grw w w'
theorem upto_take (t : Nat) {l : List Du} {k : Nat} (h : k < l.length) : upto t (l.take (k + 1)) = if l[k].t ≤ t then upto t (l.take k) ++ [l[k]] else upto t (l.take k) := by
  rw [List.take_succ_eq_append_getElem h]; exact upto_snoc _ _ _
theorem past_take (t : Nat) {l : List Du} {k : Nat} (h : k < l.length) : past t (l.take (k + 1)) = if l[k].t ≤ t then past t (l.take k) else past t (l.take k) ++ [l[k]] := by
  rw [List.take_succ_eq_append_getElem h]; exact past_snoc _ _ _
set_option maxHeartbeats 2000000 in
set_option maxRecDepth 100000 in
theorem split_any (ao : Option Addr) (cap t : Nat) (l : List Du) (w : World) (hl : Lies w ao (cd l)) (hb : l.length ≤ 1000000) :
    Calls Tryd.prog 29 #[.slice ao l.length cap, .int .u64 t] w (SplitQ t l w) := by
  obtain ⟨i0, hi, hz0, hz1, hz2⟩ := info_parts Tryd.info42
  have LI := Lib.hid hl
  obtain ⟨n, hn⟩ : ∃ n, l.length = n := ⟨_, rfl⟩
  rw [hn] at hb ⊢
  have HN := Lib.hid hn
  clear hl hn
  go_enter Tryd.func29, Tryd.ntmps29
  go_wp2_with fail
  go_loopw [4, 5, 10] (fun u v i wr => ∃ k : Nat, k ≤ n ∧ i = .int .i64 k ∧ Sp w wr u v (upto t (l.take k)) (past t (l.take k))) (fun _ _ i _ => n - (intOf i).toNat)
  case atStart => exact ⟨0, Nat.zero_le _, rfl, World.ownsRow_nil _ _ _ _, World.ownsRow_nil _ _ _ _, (fun k h => by cases h), (fun k h => by cases h), (fun k h => by cases h), Grw.rfl' _⟩
  case round =>
    obtain ⟨k, hk, rfl, hsp⟩ := hrel
    have hsum := upto_len t (l.take k)
    rw [List.length_take] at hsum
    by_cases hk' : k < n
    · have hki : (k : Int) < (n : Int) := by omega
      have hkl : k < l.length := by rw [HN.out]; exact hk'
      have e1 := upto_take t hkl
      have e2 := past_take t hkl
      obtain ⟨b, off, rfl, c0, c1⟩ := lies_at (LI.out.later hsp.g) hkl
      obtain ⟨x, hx⟩ : ∃ x, l[k] = x := ⟨_, rfl⟩
      rw [hx] at c0 c1 e1 e2
      obtain ⟨xi, xt⟩ := x
      simp only at c0 c1 e1 e2
      obtain ⟨la, hla⟩ : ∃ la, upto t (l.take k) = la := ⟨_, rfl⟩
      obtain ⟨lb, hlb⟩ : ∃ lb, past t (l.take k) = lb := ⟨_, rfl⟩
      rw [hla, hlb] at hsum hsp
      rw [hla] at e1
      rw [hlb] at e2
      have S := Lib.hid hsp
      have D1 := Lib.hid (one_due (wr.alloc (.cells #[.int .i64 xi, .int .u64 (xt : Nat)] 42)) ⟨xi, xt⟩)
      have D2 := Lib.hid (cd_one [⟨xi, xt⟩])
      have G2 := Lib.hid (((Grw.rfl' wr).alloc (.cells #[.int .i64 xi, .int .u64 (xt : Nat)] 42)).alloc (.cells #[.int .i64 xi, .int .u64 (xt : Nat)] 42))
      by_cases hle : xt ≤ t
      · have hlei : (xt : Int) ≤ (t : Int) := by omega
        rw [if_pos hle] at e1 e2
        have E := Lib.hid (And.intro e1 e2)
        have O := Lib.hid (ownsRow_frm hsp.o1 (G2.out.frm (fun _ => False)) (fun _ _ e => e))
        obtain ⟨n1, hn1⟩ : ∃ n1, la.length = n1 := ⟨_, rfl⟩
        rw [hn1] at O hsum
        have HN1 := Lib.hid hn1
        clear hx hsp hla hlb e1 e2 hn1 hle
        go_wp2_with (at_builtin; refine wpList_append_mine _ rfl _ _ 27 rfl 42 i0 _ 2 16 Tryd.underlying27 hi hz0 hz1 hz2 rfl (by decide) _ _ _ rfl O.out ⟨wr.heap.size + 1, 0, none⟩ 1 1 (cd [⟨xi, xt⟩]) rfl rfl (by simpa using D1.out) D2.out (by unfold maxLen; omega) (by omega) ?_)
        intro v' w2 hown' hgrow hor
        have U := Lib.hid (S.out.step (d := ⟨xi, xt⟩) G2.out (by rw [HN1.out]; exact hown') hgrow (by rw [size_new, size_new]; exact hor))
        clear hown' hgrow hor
        go_wp2_with fail
        go_roundw
        case rel => exact ⟨k + 1, by omega, by go_num, by rw [E.out.1, E.out.2]; exact U.out⟩
        case measure => simp [intOf]; omega
      · have hlei : ¬ (xt : Int) ≤ (t : Int) := by omega
        rw [if_neg hle] at e1 e2
        have E := Lib.hid (And.intro e1 e2)
        have O := Lib.hid (ownsRow_frm hsp.o2 (G2.out.frm (fun _ => False)) (fun _ _ e => e))
        obtain ⟨n1, hn1⟩ : ∃ n1, lb.length = n1 := ⟨_, rfl⟩
        rw [hn1] at O hsum
        have HN1 := Lib.hid hn1
        clear hx hsp hla hlb e1 e2 hn1 hle
        go_wp2_with (at_builtin; refine wpList_append_mine _ rfl _ _ 27 rfl 42 i0 _ 2 16 Tryd.underlying27 hi hz0 hz1 hz2 rfl (by decide) _ _ _ rfl O.out ⟨wr.heap.size + 1, 0, none⟩ 1 1 (cd [⟨xi, xt⟩]) rfl rfl (by simpa using D1.out) D2.out (by unfold maxLen; omega) (by omega) ?_)
        intro v' w2 hown' hgrow hor
        have U := Lib.hid (S.out.swap.step (d := ⟨xi, xt⟩) G2.out (by rw [HN1.out]; exact hown') hgrow (by rw [size_new, size_new]; exact hor)).swap
        clear hown' hgrow hor
        go_wp2_with fail
        go_roundw
        case rel => exact ⟨k + 1, by omega, by go_num, by rw [E.out.1, E.out.2]; exact U.out⟩
        case measure => simp [intOf]; omega
    · have hki : ¬ (k : Int) < (n : Int) := by omega
      obtain rfl : n = k := by omega
      have e : l.take n = l := List.take_of_length_le (by rw [HN.out]; exact Nat.le_refl _)
      rw [e] at hsp
      have S := Lib.hid hsp
      clear hsp hsum e
      go_wp2_with fail
      go_ret2
      exact ⟨_, _, rfl, base_up S.out.o1 S.out.n1, base_up S.out.o2 S.out.n2, S.out.g⟩

/-! ### find -/
theorem pred_any (d : Du) (i : Int) (q : Nat) (w : World) (c : w.cell? ⟨q, 0, none⟩ = some (.int .i64 i)) :
    Calls Tryd.prog 69 #[dv d, .pointer (some ⟨q, 0, none⟩)] w fun e w' => e = .returned (.bool (decide (d.id = i))) ∧ Grw w w' := by
  obtain ⟨x, y⟩ := d
  have hc := cell_later ((Grw.rfl' w).alloc (.cells #[.int .i64 x, .int .u64 (y : Nat)] 42)) c
  unfold dv
  simp only
  by_cases h : x = i
  · subst h
    go_enter Tryd.func69, Tryd.ntmps69
    go_wp2_with fail
    go_ret
    exact ⟨by simp, (Grw.rfl' w).alloc _⟩
  · have h1 : (x == i) = false := by simp [h]
    go_enter Tryd.func69, Tryd.ntmps69
    go_wp2_with fail
    go_ret
    exact ⟨by simp [h], (Grw.rfl' w).alloc _⟩
theorem pred_is (x : Int) (y : Nat) (i : Int) (o : Bool) (q : Nat) (w : World) (c : w.cell? ⟨q, 0, none⟩ = some (.int .i64 i)) (h : decide (x = i) = o) :
    Calls Tryd.prog 69 #[.agg #[.int .i64 x, .int .u64 (y : Nat)], .pointer (some ⟨q, 0, none⟩)] w fun e w' => e = .returned (.bool o) ∧ Grw w w' := by rw [← h]; exact pred_any ⟨x, y⟩ i q w c
set_option maxHeartbeats 2000000 in
set_option maxRecDepth 100000 in
theorem index_any (ao : Option Addr) (cap : Nat) (l : List Du) (i : Int) (q : Nat) (w : World) (hl : Lies w ao (cd l)) (hb : l.length ≤ 1000000) (c : w.cell? ⟨q, 0, none⟩ = some (.int .i64 i)) :
    Calls Tryd.prog 68 #[.slice ao l.length cap, .func (.func 69) #[] #[.pointer (some ⟨q, 0, none⟩)]] w fun e w' => e = .returned (.int .i64 (fx l i)) ∧ Grw w w' := by
  have LI := Lib.hid hl
  have C := Lib.hid c
  obtain ⟨n, hn⟩ : ∃ n, l.length = n := ⟨_, rfl⟩
  obtain ⟨r, hr⟩ : ∃ r, fx l i = r := ⟨_, rfl⟩
  rw [hn] at hb ⊢
  rw [hr]
  have HN := Lib.hid (And.intro hn hr)
  clear hl hn hr c
  go_enter Tryd.func68, Tryd.ntmps68
  go_wp2_with fail
  go_loopw [8] (fun u wr => ∃ k : Nat, k ≤ n ∧ u = .int .i64 k ∧ (∀ j (h : j < l.length), j < k → l[j].id ≠ i) ∧ Grw w wr) (fun u _ => n - (intOf u).toNat)
  case atStart => exact ⟨0, Nat.zero_le _, rfl, fun j _ h => by omega, Grw.rfl' _⟩
  case round =>
    obtain ⟨k, hk, rfl, hno, hg⟩ := hrel
    have NO := Lib.hid hno
    have G := Lib.hid hg
    by_cases hk' : k < n
    · have hki : (k : Int) < (n : Int) := by omega
      have hkl : k < l.length := by rw [HN.out.1]; exact hk'
      obtain ⟨b, off, rfl, c0, c1⟩ := lies_at (LI.out.later hg) hkl
      obtain ⟨x, hx⟩ : ∃ x, l[k] = x := ⟨_, rfl⟩
      rw [hx] at c0 c1
      have HX := Lib.hid hx
      obtain ⟨xi, xt⟩ := x
      simp only at c0 c1
      have P := Lib.hid (fun o (h : decide (xi = i) = o) => pred_is xi xt i o q wr (cell_later hg C.out) h)
      by_cases he : xi = i
      · have P1 := Lib.hid (P.out true (by simp [he]))
        have HE := Lib.hid he
        clear hno hg hx P he
        go_wp2_with fail
        refine P1.out.mono ?_
        rintro _ w1 ⟨rfl, hg1⟩
        have G1 := Lib.hid hg1
        clear hg1 c0 c1
        go_wp2_with fail
        go_ret
        refine ⟨?_, G.out.trans G1.out⟩
        rw [← HN.out.2, fx_at hkl (by rw [HX.out]; exact HE.out) (fun j g => NO.out j (by omega) g)]
        rfl
      · have P1 := Lib.hid (P.out false (by simp [he]))
        have HE := Lib.hid he
        clear hno hg hx P he
        go_wp2_with fail
        refine P1.out.mono ?_
        rintro _ w1 ⟨rfl, hg1⟩
        have G1 := Lib.hid (G.out.trans hg1)
        clear hg1 c0 c1
        go_wp2_with fail
        go_roundw
        case rel => exact ⟨k + 1, by omega, by go_num, fun j h h2 => (by
          rcases (by omega : j < k ∨ j = k) with e | e
          · exact NO.out j h e
          · subst e; rw [HX.out]; exact HE.out), G1.out⟩
        case measure => simp [intOf]; omega
    · have hki : ¬ (k : Int) < (n : Int) := by omega
      obtain rfl : n = k := by omega
      clear hno hg
      go_wp2_with fail
      go_ret
      refine ⟨?_, G.out⟩
      rw [← HN.out.2, fx_no (fun j g => NO.out j g (by rw [← HN.out.1]; exact g))]
      rfl
theorem find_is (ao : Option Addr) (cap : Nat) (l : List Du) (n : Nat) (i r : Int) (w : World) (hl : Lies w ao (cd l)) (hb : l.length ≤ 1000000) (hn : l.length = n) (hr : fx l i = r) :
    Calls Tryd.prog 46 #[.slice ao n cap, .int .i64 i] w fun e w' => e = .returned (.int .i64 r) ∧ Grw w w' := by
  have I := Lib.hid (index_any ao cap l i w.heap.size (w.alloc (.cells #[.int .i64 i] 3)) (hl.later ((Grw.rfl' w).alloc _)) hb (by simp [go_sem]))
  rw [hn, hr] at I
  clear hl hb hn hr
  go_enter Tryd.func46, Tryd.ntmps46
  go_wp2_with fail
  refine I.out.mono ?_
  rintro _ w1 ⟨rfl, hg⟩
  have G := Lib.hid hg
  clear hg
  go_wp2_with fail
  go_ret
  exact ⟨rfl, G.out.two⟩

/-! ### in order, each number once -/
theorem ordp_is (a b : Du) (r : Int) (h : ord a b = r) (w : World) : Calls Tryd.prog 48 #[dv a, dv b] w fun e w' => e = .returned (.int .i64 r) ∧ Grw w w' := order_is a b r h w
open Classical in
noncomputable def srtB (l : List Du) : Bool := decide (RG.Srt l)
open Classical in
noncomputable def onceB (l : List Du) : Bool := decide (ids l).Nodup
open Classical in
noncomputable def gdB (l : List Du) : Bool := decide (Gd l)
theorem srtB_t {l : List Du} (h : RG.Srt l) : srtB l = true := by unfold srtB; simpa using h
theorem srtB_f {l : List Du} (h : ¬ RG.Srt l) : srtB l = false := by unfold srtB; simpa using h
theorem onceB_t {l : List Du} (h : (ids l).Nodup) : onceB l = true := by unfold onceB; simpa using h
theorem onceB_f {l : List Du} (h : ¬ (ids l).Nodup) : onceB l = false := by unfold onceB; simpa using h
theorem gdB_t {l : List Du} (h : Gd l) : gdB l = true := by unfold gdB; simpa using h
theorem gdB_f {l : List Du} (h : ¬ Gd l) : gdB l = false := by unfold gdB; simpa using h
set_option maxHeartbeats 2000000 in
set_option maxRecDepth 100000 in
theorem sorted_any (ao : Option Addr) (cap : Nat) (l : List Du) (w : World) (hl : Lies w ao (cd l)) (hb : l.length ≤ 1000000) :
    Calls Tryd.prog 66 #[.slice ao l.length cap, .func (.func 48) #[] #[]] w fun e w' => e = .returned (.bool (srtB l)) ∧ Grw w w' := by
  have LI := Lib.hid hl
  obtain ⟨n, hn⟩ : ∃ n, l.length = n := ⟨_, rfl⟩
  obtain ⟨r, hr⟩ : ∃ r, srtB l = r := ⟨_, rfl⟩
  rw [hn] at hb ⊢
  rw [hr]
  have HN := Lib.hid (And.intro hn hr)
  clear hl hn hr
  go_enter Tryd.func66, Tryd.ntmps66
  go_wp2_with fail
  go_loopw [5] (fun u wr => ∃ k : Int, k < n ∧ (k < 0 → n = 0) ∧ u = .int .i64 k ∧ (∀ j (h : j + 1 < l.length), k ≤ j → RG.le (l[j]'(by omega)) l[j + 1]) ∧ Grw w wr) (fun u _ => (intOf u).toNat)
  case atStart => exact ⟨(n : Int) - 1, by omega, by omega, by go_num, fun j h h2 => by rw [HN.out.1] at h; omega, Grw.rfl' _⟩
  case round =>
    obtain ⟨k, hk, hk0, rfl, hle, hg⟩ := hrel
    have LE := Lib.hid hle
    have G := Lib.hid hg
    by_cases hpos : 0 < k
    · obtain ⟨q, hq⟩ : ∃ q : Nat, k = q + 1 := ⟨(k - 1).toNat, by omega⟩
      subst hq
      have hql : q + 1 < l.length := by rw [HN.out.1]; omega
      obtain ⟨b, off, rfl, c0, c1⟩ := lies_at (LI.out.later hg) hql
      obtain ⟨b2, off2, e2, d0, d1⟩ := lies_at (LI.out.later hg) (by omega : q < l.length)
      injection e2 with e2
      injection e2 with e2 e3
      subst e2 e3
      obtain ⟨x, hx⟩ : ∃ x, l[q + 1] = x := ⟨_, rfl⟩
      obtain ⟨y, hy⟩ : ∃ y, l[q] = y := ⟨_, rfl⟩
      rw [hx] at c0 c1
      rw [hy] at d0 d1
      obtain ⟨r0, hr0⟩ : ∃ r0, ord x y = r0 := ⟨_, rfl⟩
      have C := Lib.hid (fun w => ordp_is x y r0 hr0 w)
      have hneg := ord_neg x y
      rw [hr0] at hneg
      have HX := Lib.hid (And.intro hx hy)
      have HL := Lib.hid hneg
      obtain ⟨xi, xt⟩ := x
      obtain ⟨yi, yt⟩ := y
      unfold dv at C
      simp only at C c0 c1 d0 d1
      have m0 := gw_cell c0
      have m1 := gw_cell c1
      have m2 := gw_cell d0
      have m3 := gw_cell d1
      have w1 : IntKind.i64.wrap ((q : Int) + 1 - 1) = q := by simp [IntKind.wrap_i64]; omega
      have w2 : (q : Int) + 1 - 1 = q := by omega
      clear c0 c1 d0 d1 hx hy hr0 hneg hle hg hk0
      by_cases hn0 : r0 < 0
      · have hd : decide (r0 < 0) = true := by simp [hn0]
        go_wp2_with fail
        refine wp_region_grown (by kernel_rfl) (by kernel_rfl) ?_
        repeat (go_big_quiet_step (first | (go_at_call 48; exact calls_grown (C.out _))))
        refine wpQuiet_nil ?_
        rintro _ ⟨q', rfl⟩
        have GQ := Lib.hid (G.out.trans q'.h)
        clear m0 m1 m2 m3
        go_wp2_with fail
        go_ret
        refine ⟨?_, GQ.out⟩
        rw [← HN.out.2, srtB_f (not_srt hql (by rw [HX.out.1, HX.out.2, ← HL.out]; exact hd))]
        rfl
      · have hd : decide (r0 < 0) = false := by simp; omega
        go_wp2_with fail
        refine wp_region_grown (by kernel_rfl) (by kernel_rfl) ?_
        repeat (go_big_quiet_step (first | (go_at_call 48; exact calls_grown (C.out _))))
        refine wpQuiet_nil ?_
        rintro _ ⟨q', rfl⟩
        have GQ := Lib.hid (G.out.trans q'.h)
        clear m0 m1 m2 m3
        go_wp2_with fail
        go_roundw
        case rel => exact ⟨q, by omega, by omega, by go_num, fun j h h2 => (by
          rcases (by omega : (q : Int) + 1 ≤ j ∨ j = q) with e | e
          · exact LE.out j h e
          · subst e
            show RG.less _ _ = false
            rw [HX.out.1, HX.out.2, ← HL.out]; exact hd), GQ.out⟩
        case measure => simp [intOf]
    · have hpi : decide ((0 : Int) < k) = false := by simp; omega
      clear hg
      go_wp2_with fail
      go_ret
      refine ⟨?_, G.out⟩
      rw [← HN.out.2, srtB_t (srt_adj fun j g => LE.out j g (by omega))]
      rfl
end PL
end Go.Proofs.YtjkhgpdhhnfmlaaDoor
