/- Memory that two structures write, each its own blocks: what is left alone; rows that append, copy and cut; nothing of the program is named here. -/
import Derived.Test.YtjkhgpdhhnfmlaaDoorCells
import Derived.Laws.CopyRow
import Derived.Laws.AppendOwn
import Derived.Laws.OwnMore
import Derived.Deep.OwnRows
namespace Go.Proofs.YtjkhgpdhhnfmlaaDoor
open Go.RowKit

/-- all but the blocks that F names is as it was. -/
structure Frm (F : Nat → Prop) (w x : World) : Prop where
  os : x.os = w.os
  tape : x.tape = w.tape
  output : x.output = w.output
  size : w.heap.size ≤ x.heap.size
  block : ∀ k, k < w.heap.size → ¬ F k → x.heap[k]? = w.heap[k]?
theorem Frm.rfl' (F : Nat → Prop) (w : World) : Frm F w w := ⟨rfl, rfl, rfl, Nat.le_refl _, fun _ _ _ => rfl⟩
theorem Frm.trans {F G : Nat → Prop} {a b c : World} (h : Frm F a b) (g : Frm G b c) (hs : ∀ k, G k → F k ∨ a.heap.size ≤ k) : Frm F a c :=
  ⟨g.os.trans h.os, g.tape.trans h.tape, g.output.trans h.output, Nat.le_trans h.size g.size, fun k hk hn =>
    (g.block k (Nat.lt_of_lt_of_le hk h.size) (fun e => (hs k e).elim hn (fun q => by omega))).trans (h.block k hk hn)⟩
theorem Frm.mono {F G : Nat → Prop} {a b : World} (h : Frm F a b) (hs : ∀ k, F k → G k) : Frm G a b :=
  ⟨h.os, h.tape, h.output, h.size, fun k hk hn => h.block k hk (fun e => hn (hs k e))⟩
theorem Grw.frm {w x : World} (h : Grw w x) (F : Nat → Prop) : Frm F w x :=
  ⟨Below.os h, Below.tape h, Below.output h, Below.size h, fun k hk _ => Below.block h k hk⟩
theorem Frm.grw {F : Nat → Prop} {a w x : World} (g : Grw a w) (h : Frm F w x) (hF : ∀ k, F k → a.heap.size ≤ k) : Grw a x :=
  ⟨h.os.trans (Below.os g), h.tape.trans (Below.tape g), h.output.trans (Below.output g), Nat.le_trans (Below.size g) h.size, fun k hk =>
    (h.block k (Nat.lt_of_lt_of_le hk (Below.size g)) (fun e => by have := hF k e; omega)).trans (Below.block g k hk)⟩
theorem Frm.drew {F : Nat → Prop} {w x : World} (h : Frm F w x) : Frm F w x.drew := ⟨h.os, h.tape, h.output, h.size, h.block⟩
theorem Frm.drewN {F : Nat → Prop} {w x : World} (h : Frm F w x) (n : Nat) : Frm F w (x.drewN n) := ⟨h.os, h.tape, h.output, h.size, h.block⟩
theorem Frm.alloc {F : Nat → Prop} {w x : World} (h : Frm F w x) (o : Obj) : Frm F w (x.alloc o) :=
  h.trans (((Grw.rfl' x).alloc o).frm (fun _ => False)) (fun _ e => e.elim)
theorem Frm.grw' {F : Nat → Prop} {w x y : World} (h : Frm F w x) (g : Grw x y) : Frm F w y :=
  h.trans (g.frm (fun _ => False)) (fun _ e => e.elim)
theorem frm_set {F : Nat → Prop} (w : World) (p : Addr) (v : Value) (hp : F p.block) : Frm F w (w.setCell p v) :=
  ⟨rfl, rfl, rfl, by simp [World.setCell], fun k _ hn => Below.heap_setCell _ _ _ _ (fun e => hn (e ▸ hp))⟩
theorem Frm.set {F : Nat → Prop} {w x : World} (h : Frm F w x) (p : Addr) (v : Value) (hp : F p.block ∨ w.heap.size ≤ p.block) : Frm F w (x.setCell p v) :=
  h.trans (frm_set (F := fun k => k = p.block) x p v rfl) (fun _ e => by subst e; exact hp)
theorem frm_setRow {F : Nat → Prop} (w : World) (g : Nat) (c : Array Value) (hg : F g) : Frm F w (w.setRow g c) :=
  ⟨rfl, rfl, rfl, by simp [World.setRow], fun k _ hn => setRow_other w g k c (fun e => hn (e ▸ hg))⟩
theorem grownBy_frm {w x : World} {row : Option Nat} (h : w.grownBy x row) : Frm (fun k => row = some k) w x :=
  ⟨h.os, h.tape, h.output, h.size, fun k hk hn => h.block k hk (fun e => hn e.symm)⟩
theorem Frm.cell {F : Nat → Prop} {w x : World} (h : Frm F w x) {a : Addr} {v : Value} (hc : w.cell? a = some v) (hn : ¬ F a.block) : x.cell? a = some v :=
  (World.cell?_of_block (h.block a.block (World.block_lt_of_cell? w a hc) hn)).trans hc

/-- a row of one's own is left alone by what writes elsewhere. -/
theorem ownsRow_frm {F : Nat → Prop} {w x : World} {B : Nat} {e : TypeId} {size : Nat} {v : Value} {n : Nat} {xs : List Value} (h : w.ownsRow B e size v n xs) (g : Frm F w x) (hn : ∀ k, v.ownBlock = some k → ¬ F k) : x.ownsRow B e size v n xs := by
  refine ⟨h.1, ?_⟩
  rcases h.2 with hn' | ⟨b, cap, cur, rfl, hb, hg, r⟩
  · exact Or.inl hn'
  · exact Or.inr ⟨b, cap, cur, rfl, hb, by rw [g.block b (Array.getElem?_eq_some_iff.1 hg).1 (hn b rfl)]; exact hg, r⟩
theorem rowIs_frm {F : Nat → Prop} {w x : World} {b : Nat} {t : TypeId} {n : Nat} {f : Nat → Value} (h : w.rowIs b t n f) (g : Frm F w x) (hn : ¬ F b) : x.rowIs b t n f :=
  h.of_block (g.block b h.lt hn)

/-- xs lies where a slice begins. -/
def Lies (w : World) (ao : Option Addr) (xs : List Value) : Prop :=
  xs = [] ∨ ∃ b off, ao = some ⟨b, off, none⟩ ∧ b < w.heap.size ∧ ∀ j u, xs[j]? = some u → w.cell? ⟨b, off + j, none⟩ = some u
theorem Lies.frm {F : Nat → Prop} {w x : World} {ao : Option Addr} {xs : List Value} (h : Lies w ao xs) (g : Frm F w x) (hn : ∀ a, ao = some a → ¬ F a.block) : Lies x ao xs := by
  rcases h with h | ⟨b, off, e, hb, hc⟩
  · exact Or.inl h
  · exact Or.inr ⟨b, off, e, Nat.lt_of_lt_of_le hb g.size, fun j u hj => g.cell (hc j u hj) (hn ⟨b, off, none⟩ e)⟩
theorem Lies.later {w x : World} {ao : Option Addr} {xs : List Value} (h : Lies w ao xs) (g : Grw w x) : Lies x ao xs :=
  h.frm (g.frm (fun _ => False)) (fun _ _ e => e)
/-- a row of one's own, read. -/
theorem ownsRow_lies {w : World} {B : Nat} {e : TypeId} {size : Nat} {v : Value} {n : Nat} {xs : List Value} (h : w.ownsRow B e size v n xs) : ∃ ao cap, v = .slice ao n cap ∧ Lies w ao xs := by
  rcases h.2 with ⟨h1, h2⟩ | ⟨g, cap, cur, h1, _, h3, _⟩
  · subst h2
    exact ⟨none, 0, h1, Or.inl (List.eq_nil_of_length_eq_zero (by simpa using h.1))⟩
  · subst h1
    refine ⟨some ⟨g, 0, none⟩, cap, rfl, Or.inr ⟨g, 0, rfl, (Array.getElem?_eq_some_iff.1 h3).1, fun j u hj => ?_⟩⟩
    have := h.cells (g := g) rfl j u hj
    rwa [Addr.add_lit] at this

/-- append at a row of one's own: the same block, or a new one. -/
theorem run_append_mine {P : Program} (w : World) (t ty e : TypeId) (i : TypeInfo) (z : Value) (size bytes : Nat) (ht : P.underlying t = some (.slice e)) (hi : P.info? e = some i) (hz : i.zero = some z)
    (hsize : i.size = size) (hby : i.bytes = bytes) (hzs : z.cells.size = size) (hsz : 0 < size)
    (v : Value) (n : Nat) (xs : List Value) (hown : w.ownsRow 0 e size v n xs)
    (a : Addr) (m c : Nat) (news : List Value) (hl : news.length = m * size) (hnews : ∀ j u, news[j]? = some u → w.cell? (a.add j) = some u) (h1 : ∀ u ∈ news, u.oneCell' = true)
    (h63 : n + m ≤ maxLen) (hbytes : (n + m) * bytes ≤ 140737488355328) :
    ∃ v' w', (Builtin.append_ #[t, t] ty #[v, .slice (some a) m c]).run P w = .ok v' w' ∧ w'.ownsRow 0 e size v' (n + m) (xs ++ news) ∧ w.grownBy w' v.ownBlock ∧
      (v'.ownBlock = v.ownBlock ∨ v'.ownBlock = some w.heap.size) := by
  obtain ⟨v', w', hr, h2, h3, h4⟩ := run_append_own (P := P) w 0 t ty e i z size bytes ht hi hz hsize hby hzs hsz v n xs hown a m c news hl hnews h1 h63 hbytes (Nat.zero_le _)
  refine ⟨v', w', hr, h2, h3, ?_⟩
  subst hsize
  subst hby
  have hsmall : n + m ≤ 9223372036854775807 := by simp only [maxLen] at h63; omega
  rcases hown.2 with ⟨rfl, rfl⟩ | ⟨g, cap, cur, rfl, hbg, hg, hnc, hcm, hcs, htake⟩
  · by_cases hm : m = 0
    · left
      rw [h4.2 ⟨rfl, hm⟩]
    · have hr' := run_append_nil (P := P) w t ty e i z ht hi hz a m c news hl hnews (by omega) (by omega) (by have hb := hbytes; simp only [Nat.zero_add] at hb; omega)
      rw [hr] at hr'
      injection hr' with e1 e2
      right; rw [e1]; rfl
  · by_cases hroom : n + m ≤ cap
    · have hfit : n * i.size + news.length ≤ cur.size := by rw [hl, hcs, ← Nat.add_mul]; exact Nat.mul_le_mul_right _ hroom
      have hr' := run_append_room (P := P) w t ty e i ht hi g n cap cur hg a m c news hl hnews h1 hroom hfit
      rw [hr] at hr'
      injection hr' with e1 e2
      left; rw [e1]; rfl
    · have holds : ∀ j u, xs[j]? = some u → w.cell? ((⟨g, 0, none⟩ : Addr).add j) = some u := hown.cells (g := g) rfl
      have hr' := run_append_grow (P := P) w t ty e i z ht hi hz ⟨g, 0, none⟩ n cap xs hown.1 holds a m c news hl hnews (by omega) (by omega) (growslice_fits (by omega) hbytes)
      rw [hr] at hr'
      injection hr' with e1 e2
      right; rw [e1]; rfl
theorem wpList_append_mine {P : Program} (w : World) {ops : Array Oper} {rest : List Oper} {o : Oper} {a : Act} {Q : Exit → Act → World → Prop} (hgd : o.guard = none) (s x : Operand) (t : TypeId)
    (ho : o.op = .call { callee := .builtin .append, args := #[s, x], argTypes := #[t, t] })
    (e : TypeId) (i : TypeInfo) (z : Value) (size bytes : Nat) (ht : P.underlying t = some (.slice e)) (hi : P.info? e = some i) (hz : i.zero = some z)
    (hsize : i.size = size) (hby : i.bytes = bytes) (hzs : z.cells.size = size) (hsz : 0 < size)
    (v : Value) (n : Nat) (xs : List Value) (hs : a.eval s = v) (hown : w.ownsRow 0 e size v n xs)
    (ad : Addr) (m c : Nat) (news : List Value) (hx : a.eval x = .slice (some ad) m c) (hl : news.length = m * size) (hnews : ∀ j u, news[j]? = some u → w.cell? (ad.add j) = some u) (h1 : ∀ u ∈ news, u.oneCell' = true)
    (h63 : n + m ≤ maxLen) (hbytes : (n + m) * bytes ≤ 140737488355328)
    (h : ∀ v' w', w'.ownsRow 0 e size v' (n + m) (xs ++ news) → w.grownBy w' v.ownBlock → (v'.ownBlock = v.ownBlock ∨ v'.ownBlock = some w.heap.size) → wpList P ops Q rest (a.put o.dst v') w') : wpList P ops Q (o :: rest) a w := by
  obtain ⟨v', w', hr, h2, h3, h4⟩ := run_append_mine (P := P) w t o.type e i z size bytes ht hi hz hsize hby hzs hsz v n xs hown ad m c news hl hnews h1 h63 hbytes
  refine wpList_plain hgd fun K hK => ?_
  unfold Oper.wp execOp
  simp only [ho, resolve, invoke, builtin, Sem.run_bind, Sem.run_pure, Result.andThen_ok, List.map_toArray, List.map_cons, List.map_nil, hs, hx, hr]
  exact hK _ _ (h v' w' h2 h3 h4)
end Go.Proofs.YtjkhgpdhhnfmlaaDoor
