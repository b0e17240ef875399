/- The book between calls: memory and what holds of its jobs; each call's contract; the law's wakes. -/
import Derived.Test.YtlopijcpnfkcgaaGreatJg
namespace Go.Proofs.YtlopijcpnfkcgaaGreat
open Go.RowKit
open Go.Maps (Keyed IsMap Tidy)
set_option linter.unusedSimpArgs false

structure BS (w0 w : World) (B : BB) (a room n count : Int) (v : Value) (last k : Nat) (L : List QQ.Wt) (G : List LE.Gr) (J : List Jb) : Prop where
  m : ∃ sz, sz ≤ k ∧ BM w0 w B a room n count v last sz L G J
  bi : BI n J L G
  nn : 0 ≤ n ∧ n ≤ 9
  rr : (J.length : Int) ≤ room ∧ 0 ≤ room ∧ room ≤ 1000
  cc : 0 ≤ count ∧ count ≤ k
  ll : last ≤ k
variable {w0 w x : World} {B : BB} {a room n count : Int} {v : Value} {last k : Nat} {L : List QQ.Wt} {G : List LE.Gr} {J : List Jb}
theorem BS.later (h : BS w0 w B a room n count v last k L G J) (g : Grw w x) : BS w0 x B a room n count v last k L G J := by
  obtain ⟨sz, hz, m⟩ := h.m
  exact ⟨⟨sz, hz, m.later g⟩, h.bi, h.nn, h.rr, h.cc, h.ll⟩
theorem BS.g (h : BS w0 w B a room n count v last k L G J) : Grw w0 w := by obtain ⟨_, _, m⟩ := h.m; exact m.g
theorem BS.ids (h : BS w0 w B a room n count v last k L G J) : (L.map QQ.Wt.id).Nodup := by obtain ⟨_, _, m⟩ := h.m; exact m.b.qu.ids
theorem BS.ok (h : BS w0 w B a room n count v last k L G J) : LE.Ok last G := by obtain ⟨_, _, m⟩ := h.m; exact m.b.tb.ok
theorem BS.new (h : BS w0 w B a room n count v last k L G J) : ∀ j, bf B v j → w0.heap.size ≤ j := by obtain ⟨_, _, m⟩ := h.m; exact m.new
theorem BS.lt (h : BS w0 w B a room n count v last k L G J) : ∀ j, bf B v j → j < w.heap.size := by obtain ⟨_, _, m⟩ := h.m; exact m.b.lt
theorem BS.wi (h : BS w0 w B a room n count v last k L G J) {y : Jb} (hy : y ∈ J) : LE.Wi y.id := (h.bi.good y hy).1
theorem s_new (a room n : Int) (w0 w : World) (g : Grw w0 w) (h1 : 1 ≤ a) (h2 : a ≤ 1000) (h3 : 0 ≤ room) (h4 : room ≤ 1000) (h5 : 0 ≤ n) (h6 : n ≤ 9) :
    Calls Tryz.prog 4 #[.int .i64 a, .int .i64 room, .int .i64 n] w fun e w' => ∃ B, e = .returned (.pointer (some ⟨B.p, 0, none⟩)) ∧ BS w0 w' B a room n 0 (.slice none 0 0) 0 0 [] [] [] ∧ Grw w w' ∧ ∀ k, bf B (.slice none 0 0) k → w.heap.size ≤ k :=
  (new_yes a room n w h1 h2 h3 h4 h5 h6).mono fun _ _ ⟨B, he, m⟩ => ⟨B, he, ⟨⟨0, Nat.le_refl _, ⟨m.b, g.trans m.g, fun k hk => Nat.le_trans (Below.size g) (m.new k hk)⟩⟩, BI.nil n, ⟨h5, h6⟩, ⟨by simpa using h3, h3, h4⟩, ⟨Int.le_refl _, by simp⟩, Nat.le_refl _⟩, m.g, m.new⟩
theorem s_state (h : BS w0 w B a room n count v last k L G J) {i : Int} (hi : LE.Wi i) {y : Jb} (hy : (fnd J i).getD j0 = y) {b : Bool} (hb : (fnd J i).isSome = b) :
    Calls Tryz.prog 22 #[.pointer (some ⟨B.p, 0, none⟩), .int .i64 i] w fun e w' => e = .returned (.tuple #[.agg #[.int .i64 y.s, .int .i64 y.u], .bool b]) ∧ Grw w w' := by
  obtain ⟨_, _, m⟩ := h.m; exact state_is m.b hi hy hb
theorem s_open (h : BS w0 w B a room n count v last k L G J) {m : Nat} (hm : J.length = m) :
    Calls Tryz.prog 27 #[.pointer (some ⟨B.p, 0, none⟩)] w fun e w' => e = .returned (.int .i64 m) ∧ w = w' := by
  obtain ⟨_, _, b⟩ := h.m; exact open_is b.b hm
theorem s_add (h : BS w0 w B a room n count v last k L G J) {i cl : Int} (hi : LE.Wi i) (h0 : 0 ≤ cl) (h8 : cl < 8) (hf : fnd J i = none) (hr : (J.length : Int) < room) (hk : k ≤ 100000) :
    Calls Tryz.prog 9 #[.pointer (some ⟨B.p, 0, none⟩), .int .i64 i, .int .i64 cl] w fun e w' => e = .returned (.int .i64 0) ∧ ∃ v', BS w0 w' B a room n count v' last (k + 1) (L ++ [⟨i, cl, count⟩]) G (J ++ [⟨i, cl, 1, 0⟩]) ∧ Stp B v v' w w' := by
  obtain ⟨sz, hz, m⟩ := h.m
  have hl := h.bi.room m.b.qu.ids
  have rr := h.rr
  refine (add_yes m.b hi h0 h8 hf hr (fun j hj => h.bi.new_w (fnd_none hf) _ (QQ.gt_mem hj)) hl (by omega) (by omega)).mono ?_
  rintro e w' ⟨he, v', b, s⟩
  exact ⟨he, v', ⟨⟨sz + 1, by omega, m.step b s⟩, h.bi.add h.nn (fnd_none hf) hi h0 h8, h.nn, ⟨by simp; omega, rr.2⟩, ⟨h.cc.1, by have := h.cc.2; omega⟩, by have := h.ll; omega⟩, s⟩
theorem s_full (h : BS w0 w B a room n count v last k L G J) {i cl : Int} (hi : LE.Wi i) (h0 : 0 ≤ cl) (h8 : cl < 8) (hf : fnd J i = none) (hr : room ≤ J.length) :
    Calls Tryz.prog 9 #[.pointer (some ⟨B.p, 0, none⟩), .int .i64 i, .int .i64 cl] w fun e w' => e = .returned (.int .i64 10) ∧ Grw w w' := by
  obtain ⟨_, _, m⟩ := h.m; exact add_full m.b hi h0 h8 hf hr
theorem s_twice (h : BS w0 w B a room n count v last k L G J) {i cl : Int} (hi : LE.Wi i) (h0 : 0 ≤ cl) (h8 : cl < 8) (hf : (fnd J i).isSome = true) :
    Calls Tryz.prog 9 #[.pointer (some ⟨B.p, 0, none⟩), .int .i64 i, .int .i64 cl] w fun e w' => e = .returned (.int .i64 8) ∧ Grw w w' := by
  obtain ⟨_, _, m⟩ := h.m; exact add_twice m.b hi h0 h8 hf
/-- the job that is fetched: the first in turn. -/
theorem s_fetch (h : BS w0 w B a room n count v last k L G J) {j : Nat} (hf : QQ.Fst a L j) {t : Nat} (ht : t < 18446744073709551616) (hk : k ≤ 100000) : ∃ y, fnd J (QQ.gt L j).id = some y ∧ y.s = 1 ∧ y.u ≤ n ∧ 0 ≤ y.u ∧
    Calls Tryz.prog 11 #[.pointer (some ⟨B.p, 0, none⟩), .int .u64 (t : Nat)] w fun e w' => e = .returned (.tuple #[lv (last + 1 : Nat) y.id (y.u + 1) t, .int .i64 0]) ∧
      ∃ v', BS w0 w' B a room n (count + 1) v' (last + 1) (k + 1) (QQ.rem L j) (G ++ [⟨(last + 1 : Nat), y.id, t⟩]) (upd J ⟨y.id, y.cl, 2, y.u + 1⟩) ∧ Stp B v v' w w' := by
  obtain ⟨sz, hz, m⟩ := h.m
  obtain ⟨y, hy, hid, hs⟩ := h.bi.of_w (QQ.gt_mem hf.lt)
  have hfy : fnd J (QQ.gt L j).id = some y := by rw [← hid]; exact fnd_of h.bi.ids hy
  have cc := h.cc
  have hg := RE.gd_t.1 (h.bi.good y hy).2.2.2.1
  refine ⟨y, hfy, hs, by omega, by omega, (fetch_some m.b h.bi hf cc.1 (by omega) hfy hs rfl ht (by have := h.ll; omega) (by omega)).mono ?_⟩
  rintro e w' ⟨he, v', b, s⟩
  exact ⟨he, v', ⟨⟨sz + 1, by omega, m.step b s⟩, h.bi.fetch m.b.qu.ids hf.lt hy hid hs, h.nn, ⟨by rw [upd_len]; exact h.rr.1, h.rr.2⟩, ⟨by omega, by omega⟩, by have := h.ll; omega⟩, s⟩
theorem s_none (h : BS w0 w B a room n count v last k [] G J) (t : Nat) : Calls Tryz.prog 11 #[.pointer (some ⟨B.p, 0, none⟩), .int .u64 (t : Nat)] w fun e w' => e = .returned (.tuple #[lv 0 0 0 0, .int .i64 12]) ∧ Grw w w' := by
  obtain ⟨_, _, m⟩ := h.m; exact fetch_none m.b t
theorem s_lease (h : BS w0 w B a room n count v last k L G J) {i : Int} (hi : LE.Wi i) {g : LE.Gr} (hb : LE.byN G i = some g) : ∃ y, fnd J g.j = some y ∧ y.s = 2 ∧
    Calls Tryz.prog 33 #[.pointer (some ⟨B.p, 0, none⟩), .int .i64 i] w fun e w' => e = .returned (.tuple #[lv g.n g.j y.u g.u, .bool true]) ∧ Grw w w' := by
  obtain ⟨_, _, m⟩ := h.m
  obtain ⟨y, hy, hid, hs⟩ := h.bi.of_l (LE.byN_some hb).1
  have hfy : fnd J g.j = some y := by rw [← hid]; exact fnd_of h.bi.ids hy
  exact ⟨y, hfy, hs, lease_is m.b hi hb (by rw [hfy]; rfl)⟩
theorem s_nolease (h : BS w0 w B a room n count v last k L G J) {i : Int} (hi : LE.Wi i) (hb : LE.byN G i = none) :
    Calls Tryz.prog 33 #[.pointer (some ⟨B.p, 0, none⟩), .int .i64 i] w fun e w' => e = .returned (.tuple #[lv 0 0 0 0, .bool false]) ∧ Grw w w' := by
  obtain ⟨_, _, m⟩ := h.m; exact lease_no m.b hi hb
/-- the lease's job, and how it stands. -/
theorem BS.of_l (h : BS w0 w B a room n count v last k L G J) {g : LE.Gr} (hg : g ∈ G) : ∃ y, fnd J g.j = some y ∧ y ∈ J ∧ y.id = g.j ∧ y.s = 2 ∧ RE.gd n 2 y.u = true := by
  obtain ⟨y, hy, hid, hs⟩ := h.bi.of_l hg
  exact ⟨y, by rw [← hid]; exact fnd_of h.bi.ids hy, hy, hid, hs, by have := (h.bi.good y hy).2.2.2.1; rw [hs] at this; exact this⟩
theorem s_answer (h : BS w0 w B a room n count v last k L G J) {i : Int} (hi : LE.Wi i) {g : LE.Gr} (hb : LE.byN G i = some g) :
    Calls Tryz.prog 13 #[.pointer (some ⟨B.p, 0, none⟩), .int .i64 i] w fun e w' => e = .returned (.tuple #[.int .i64 g.j, .int .i64 0]) ∧ BS w0 w' B a room n count v last k L (LE.off [g] G) (gon J g.j) ∧ Stp B v v w w' := by
  obtain ⟨sz, hz, m⟩ := h.m
  have hg := (LE.byN_some hb).1
  obtain ⟨y, hf, hy, hid, hs, hgd⟩ := h.of_l hg
  have hl := gon_len h.bi.ids hy
  refine (answer_of (fun w' => BS w0 w' B a room n count v last k L (LE.off [g] G) (gon J g.j) ∧ Stp B v v w w') (some ⟨B.p, 0, none⟩) i g.j 4 y.u 0 ?_ ?_).mono fun _ _ e => e
  · refine (end_yes (k := 2) (s := 4) (u := y.u) (sz' := sz) (J' := gon J g.j) m.b hi hb (fun w1 h1 => (step_close h1 h.bi.ids (m.b.tb.ok.wf g hg).1 hf (by rw [hs]; exact st_2 hgd) (Or.inl rfl)))).mono ?_
    rintro e w' ⟨he, b, s⟩
    exact ⟨he, ⟨⟨sz, hz, m.step b s⟩, by rw [← hid]; exact h.bi.answer m.b.tb.ok hg hy hid hs, h.nn, ⟨by have := h.rr.1; rw [← hid]; omega, h.rr.2⟩, h.cc, h.ll⟩, s⟩
  · rintro z o ⟨h1, h2⟩
    exact ⟨h1.later ((Grw.rfl' z).alloc o), h2.trans (Stp.of B v ((Grw.rfl' z).alloc o))⟩
theorem s_noanswer (h : BS w0 w B a room n count v last k L G J) {i : Int} (hi : LE.Wi i) (hb : LE.byN G i = none) :
    Calls Tryz.prog 13 #[.pointer (some ⟨B.p, 0, none⟩), .int .i64 i] w fun e w' => e = .returned (.tuple #[.int .i64 0, .int .i64 13]) ∧ Grw w w' := by
  obtain ⟨_, _, m⟩ := h.m
  exact answer_of (fun w' => Grw w w') _ i 0 0 0 13 (end_no m.b 2 hi hb) (fun _ o g => g.alloc o)
theorem answer_nil (i : Int) (w : World) : Calls Tryz.prog 13 #[.pointer none, .int .i64 i] w fun e w' => e = .returned (.tuple #[.int .i64 0, .int .i64 1]) ∧ Grw w w' :=
  answer_of (fun w' => Grw w w') _ i 0 0 0 1 (end_nil i 2 w) (fun _ o g => g.alloc o)
theorem fail_nil (i : Int) (w : World) : Calls Tryz.prog 15 #[.pointer none, .int .i64 i] w fun e w' => e = .returned (.tuple #[.int .i64 0, .bool false, .int .i64 1]) ∧ Grw w w' :=
  fail_of (fun w' => Grw w w') _ i 0 0 0 1 (end_nil i 3 w) (fun _ o g => (g.alloc o).drew)
theorem s_nofail (h : BS w0 w B a room n count v last k L G J) {i : Int} (hi : LE.Wi i) (hb : LE.byN G i = none) :
    Calls Tryz.prog 15 #[.pointer (some ⟨B.p, 0, none⟩), .int .i64 i] w fun e w' => e = .returned (.tuple #[.int .i64 0, .bool false, .int .i64 13]) ∧ Grw w w' := by
  obtain ⟨_, _, m⟩ := h.m
  exact fail_of (fun w' => Grw w w') _ i 0 0 0 13 (end_no m.b 3 hi hb) (fun _ o g => (g.alloc o).drew)
theorem s_fail (h : BS w0 w B a room n count v last k L G J) {i : Int} (hi : LE.Wi i) {g : LE.Gr} (hb : LE.byN G i = some g) {y : Jb} (hf : fnd J g.j = some y) (hu : y.u ≤ n) (hk : k ≤ 100000) :
    Calls Tryz.prog 15 #[.pointer (some ⟨B.p, 0, none⟩), .int .i64 i] w fun e w' => e = .returned (.tuple #[.int .i64 g.j, .bool false, .int .i64 0]) ∧ BS w0 w' B a room n count v last (k + 1) L (LE.off [g] G) (upd J ⟨g.j, y.cl, 3, y.u⟩) ∧ Stp B v v w w' := by
  obtain ⟨sz, hz, m⟩ := h.m
  have hg := (LE.byN_some hb).1
  obtain ⟨y', hf', hy, hid, hs, hgd⟩ := h.of_l hg
  obtain rfl : y' = y := by rw [hf] at hf'; injection hf' with e; exact e.symm
  refine (fail_of (fun w' => BS w0 w' B a room n count v last (k + 1) L (LE.off [g] G) (upd J ⟨g.j, y'.cl, 3, y'.u⟩) ∧ Stp B v v w w') (some ⟨B.p, 0, none⟩) i g.j 3 y'.u 0 ?_ ?_).mono fun _ _ e => e
  · refine (end_yes (k := 3) (s := 3) (u := y'.u) (sz' := sz + 1) (J' := upd J ⟨g.j, y'.cl, 3, y'.u⟩) m.b hi hb (fun w1 h1 => (step_stay h1 (m.b.tb.ok.wf g hg).1 hf (by rw [hs]; exact st_3 hgd hu) rfl rfl (by omega)))).mono ?_
    rintro e w' ⟨he, b, s⟩
    exact ⟨he, ⟨⟨sz + 1, by omega, m.step b s⟩, by rw [← hid]; exact h.bi.fail m.b.tb.ok hg hy hid hs hu, h.nn, ⟨by rw [upd_len]; exact h.rr.1, h.rr.2⟩, ⟨h.cc.1, by have := h.cc.2; omega⟩, by have := h.ll; omega⟩, s⟩
  · rintro z o ⟨h1, h2⟩
    exact ⟨h1.later ((Grw.rfl' z).alloc o).drew, h2.trans (Stp.of B v ((Grw.rfl' z).alloc o).drew)⟩
theorem s_dead (h : BS w0 w B a room n count v last k L G J) {i : Int} (hi : LE.Wi i) {g : LE.Gr} (hb : LE.byN G i = some g) {y : Jb} (hf : fnd J g.j = some y) (hu : ¬ y.u ≤ n) :
    Calls Tryz.prog 15 #[.pointer (some ⟨B.p, 0, none⟩), .int .i64 i] w fun e w' => e = .returned (.tuple #[.int .i64 g.j, .bool true, .int .i64 0]) ∧ BS w0 w' B a room n count v last k L (LE.off [g] G) (gon J g.j) ∧ Stp B v v w w' := by
  obtain ⟨sz, hz, m⟩ := h.m
  have hg := (LE.byN_some hb).1
  obtain ⟨y', hf', hy, hid, hs, hgd⟩ := h.of_l hg
  obtain rfl : y' = y := by rw [hf] at hf'; injection hf' with e; exact e.symm
  have hl := gon_len h.bi.ids hy
  refine (fail_of (fun w' => BS w0 w' B a room n count v last k L (LE.off [g] G) (gon J g.j) ∧ Stp B v v w w') (some ⟨B.p, 0, none⟩) i g.j 5 y'.u 0 ?_ ?_).mono fun _ _ e => e
  · refine (end_yes (k := 3) (s := 5) (u := y'.u) (sz' := sz) (J' := gon J g.j) m.b hi hb (fun w1 h1 => (step_close h1 h.bi.ids (m.b.tb.ok.wf g hg).1 hf (by rw [hs]; exact st_5 hgd hu) (Or.inr ⟨rfl, rfl⟩)))).mono ?_
    rintro e w' ⟨he, b, s⟩
    exact ⟨he, ⟨⟨sz, hz, m.step b s⟩, by rw [← hid]; exact h.bi.answer m.b.tb.ok hg hy hid hs, h.nn, ⟨by have := h.rr.1; rw [← hid]; omega, h.rr.2⟩, h.cc, h.ll⟩, s⟩
  · rintro z o ⟨h1, h2⟩
    exact ⟨h1.later ((Grw.rfl' z).alloc o).drew, h2.trans (Stp.of B v ((Grw.rfl' z).alloc o).drew)⟩
theorem s_rested (h : BS w0 w B a room n count v last k L G J) {i : Int} {y : Jb} (hy : fnd J i = some y) (hs : y.s = 3) (hk : k ≤ 100000) :
    Calls Tryz.prog 17 #[.pointer (some ⟨B.p, 0, none⟩), .int .i64 i] w fun e w' => e = .returned (.bool true) ∧ ∃ v', BS w0 w' B a room n count v' last (k + 1) (L ++ [⟨i, y.cl, count⟩]) G (upd J ⟨i, y.cl, 1, y.u⟩) ∧ Stp B v v' w w' := by
  obtain ⟨sz, hz, m⟩ := h.m
  obtain ⟨hyJ, hid⟩ := fnd_some hy
  have rr := h.rr
  refine (rested_yes m.b h.bi (by rw [← hid]; exact h.wi hyJ) hy hs m.b.qu.ids rr.1 (by omega) (by omega)).mono ?_
  rintro e w' ⟨he, v', b, s⟩
  exact ⟨he, v', ⟨⟨sz + 1, by omega, m.step b s⟩, by rw [← hid]; exact h.bi.rested hyJ hs count, h.nn, ⟨by rw [upd_len]; exact rr.1, rr.2⟩, ⟨h.cc.1, by have := h.cc.2; omega⟩, by have := h.ll; omega⟩, s⟩
theorem st_no {n s u : Int} (h : s ≠ 3) : RE.st n s u 4 = (0, 0, false) := by
  refine RE.st_none ?_
  cases e : (RE.st n s u 4).2.2 with
  | false => rfl
  | true => have := (RE.st_of e).2; omega
theorem s_norest (h : BS w0 w B a room n count v last k L G J) {i : Int} (hi : LE.Wi i) (hs : ((fnd J i).getD j0).s ≠ 3) :
    Calls Tryz.prog 17 #[.pointer (some ⟨B.p, 0, none⟩), .int .i64 i] w fun e w' => e = .returned (.bool false) ∧ Grw w w' := by
  obtain ⟨_, _, m⟩ := h.m; exact rested_no m.b hi rfl (st_no hs)
theorem s_nodrop (h : BS w0 w B a room n count v last k L G J) {i : Int} (hi : LE.Wi i) (hf : fnd J i = none) :
    Calls Tryz.prog 19 #[.pointer (some ⟨B.p, 0, none⟩), .int .i64 i] w fun e w' => e = .returned (.bool false) ∧ Grw w w' := by
  obtain ⟨_, _, m⟩ := h.m; exact drop_no m.b hi hf
theorem has_lg {last : Nat} {G : List LE.Gr} (h : LE.Ok last G) (i : Int) (j : Int) : (∃ y ∈ lg G i, y.j = j) ↔ (j ≠ i ∧ ∃ y ∈ G, y.j = j) := by
  unfold lg
  rcases e : LE.byJ G i with _ | g
  · simp only
    exact ⟨fun ⟨y, hy, e2⟩ => ⟨fun c => LE.byJ_none e y hy (by rw [e2, c]), y, hy, e2⟩, fun e => e.2⟩
  · simp only
    obtain ⟨hg, hj⟩ := LE.byJ_some e
    rw [has_off h hg, hj]
theorem s_drop (h : BS w0 w B a room n count v last k L G J) {i : Int} {y : Jb} (hy : fnd J i = some y) :
    ∃ L', (∀ k, (∃ y ∈ L', y.id = k) ↔ (k ≠ i ∧ ∃ y ∈ L, y.id = k)) ∧ ((∀ y ∈ L, y.id ≠ i) → L' = L) ∧ (∀ j, j < L.length → (QQ.gt L j).id = i → L' = QQ.rem L j) ∧
    Calls Tryz.prog 19 #[.pointer (some ⟨B.p, 0, none⟩), .int .i64 i] w fun e w' => e = .returned (.bool true) ∧ ∃ v', BS w0 w' B a room n count v' last k L' (lg G i) (gon J i) ∧ Stp B v v' w w' := by
  obtain ⟨sz, hz, m⟩ := h.m
  obtain ⟨hyJ, hid⟩ := fnd_some hy
  obtain ⟨L', l1, l2, l3, C⟩ := drop_yes m.b h.bi (by rw [← hid]; exact h.wi hyJ) hy
  refine ⟨L', l1, l2, l3, C.mono ?_⟩
  rintro e w' ⟨he, v', b, s⟩
  have hl := gon_len h.bi.ids hyJ
  rw [hid] at hl
  exact ⟨he, v', ⟨⟨sz, hz, m.step b s⟩, by have := h.bi.gone (x := y) hyJ (L' := L') (G' := lg G i) (by rw [hid]; exact l1) (fun j => by rw [has_lg m.b.tb.ok, hid]); rw [hid] at this; exact this, h.nn, ⟨by have := h.rr.1; omega, h.rr.2⟩, h.cc, h.ll⟩, s⟩

theorem wi_small (n : Int) (h : -9223372036854775808 ≤ n) (h2 : n ≤ 9223372036854775807) : LE.Wi n := ⟨h, h2⟩
theorem wakes_fst : QQ.Fst 2 [⟨1, 0, 0⟩] 0 := by
  refine ⟨by decide, fun i hi => ?_, fun i hi hij => by omega⟩
  match i, hi with
  | 0, _ => exact (by decide : QQ.les 2 ⟨1, 0, 0⟩ ⟨1, 0, 0⟩ = false)
set_option maxHeartbeats 2000000 in
set_option maxRecDepth 100000 in
theorem wakes_any (w : World) : Calls Tryz.prog 6 #[] w fun e w' => e = .returned (.bool true) ∧ Grw w w' := by
  go_enter Tryz.func6, Tryz.ntmps6
  go_wp2_with fail
  refine (s_new 2 3 0 w w (Grw.rfl' w) (by decide) (by decide) (by decide) (by decide) (by decide) (by decide)).mono ?_
  rintro _ w1 ⟨B, rfl, b1, _⟩
  have B1 := Lib.hid b1
  clear b1
  go_wp2_with fail
  refine (s_add B1.out (wi_small 1 (by decide) (by decide)) (by decide) (by decide) rfl (by decide) (by decide)).mono ?_
  rintro _ w2 ⟨rfl, v2, b2, _⟩
  have B2 := Lib.hid (show BS w w2 B 2 3 0 0 v2 0 1 [⟨1, 0, 0⟩] [] [⟨1, 0, 1, 0⟩] from b2)
  clear b2
  go_wp2_with fail
  refine (s_twice B2.out (wi_small 1 (by decide) (by decide)) (by decide) (by decide) rfl).mono ?_
  rintro _ w3 ⟨rfl, g3⟩
  have B3 := Lib.hid (B2.out.later g3)
  clear g3
  go_wp2_with fail
  obtain ⟨y, hy, _, _, _, C⟩ := s_fetch B3.out wakes_fst (t := 9) (by decide) (by decide)
  obtain rfl : (⟨1, 0, 1, 0⟩ : Jb) = y := by injection hy
  have CF := Lib.hid C
  clear hy C
  refine CF.out.mono ?_
  rintro _ w4 ⟨rfl, v4, b4, _⟩
  have B4 := Lib.hid (show BS w w4 B 2 3 0 1 v4 1 2 [] [⟨1, 1, 9⟩] [⟨1, 0, 2, 1⟩] from b4)
  clear b4
  simp only [lv]
  go_wp2_with fail
  refine (s_dead (B4.out.later ((Grw.rfl' w4).alloc _)) (wi_small 1 (by decide) (by decide)) (g := ⟨1, 1, 9⟩) rfl (y := ⟨1, 0, 2, 1⟩) rfl (by decide)).mono ?_
  rintro _ w5 ⟨rfl, b5, s5⟩
  have B5 := Lib.hid (show BS w w5 B 2 3 0 1 v4 1 2 [] [] [] from b5)
  have NB : ¬ bf B v4 w4.heap.size := fun e => Nat.lt_irrefl _ (B4.out.lt _ e)
  obtain ⟨z0, z1, z2, z3, z4, z5, _, _, _, _, _, _⟩ := (Six.new w4 (.int .i64 1) (.int .i64 1) (.int .i64 0) (.int .i64 0) (.int .i64 1) (.int .u64 9) 38).frm s5.f NB
  have SX : Hid (Six w5 w4.heap.size (.int .i64 1) (.int .i64 1) (.int .i64 0) (.int .i64 0) (.int .i64 1) (.int .u64 9)) := ((Six.new w4 (.int .i64 1) (.int .i64 1) (.int .i64 0) (.int .i64 0) (.int .i64 1) (.int .u64 9) 38).frm s5.f NB : Six w5 w4.heap.size (.int .i64 1) (.int .i64 1) (.int .i64 0) (.int .i64 0) (.int .i64 1) (.int .u64 9))
  have HS : Hid (w4.heap.size < w5.heap.size) := (by have := s5.f.size; rw [size_new] at this; omega : w4.heap.size < w5.heap.size)
  clear b5 s5 NB
  go_wp2_with fail
  refine (s_noanswer B5.out (wi_small 1 (by decide) (by decide)) rfl).mono ?_
  rintro _ w6 ⟨rfl, g6⟩
  have B6 := Lib.hid (B5.out.later g6)
  clear z0 z1 z2 z3 z4 z5
  obtain ⟨z0, z1, z2, z3, z4, z5, _, _, _, _, _, _⟩ := SX.out.later g6 HS.out
  clear g6
  go_wp2_with fail
  refine (s_open B6.out rfl).mono ?_
  rintro _ _ ⟨rfl, rfl⟩
  go_wp2_with fail
  refine (new_neg 2 3 w6 (by decide) (by decide) (by decide) (by decide)).mono ?_
  rintro _ w7 ⟨rfl, g7⟩
  have G7 := Lib.hid (B6.out.g.trans g7)
  clear g7
  go_wp2_with fail
  go_ret
  exact ⟨rfl, G7.out⟩
end Go.Proofs.YtlopijcpnfkcgaaGreat
