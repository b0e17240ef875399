/- The contract of plan.Sort at this program: slices.SortFunc off the shelf, plan.order as it lays memory. -/
import Derived.Test.YtjkhgpdhhnfmlaaShelf
import Derived.Test.YtjkhgpdhhnfmlaaOd
import Derived.Test.YtjkhgpdhhnfmlaaPe
namespace Go.Proofs.Ytjkhgpdhhnfmlaa
open Go.RowKit Go.Shelf Go.Sort
open RG (Du)
open PM
set_option linter.unusedSimpArgs false

theorem lay3 (w : World) (a b c : Obj) : (((w.alloc a).alloc b).drew).alloc c = grow (w.drewN 1) #[a, b, c] := by
  rw [alloc_eq_grow, alloc_eq_grow, alloc_eq_grow]
  change grow (grow (grow w.drew #[a]) #[b]) #[c] = _
  rw [grow_grow, grow_grow]
  rfl
set_option maxHeartbeats 1000000 in
set_option maxRecDepth 100000 in
theorem order_lay (a b : Du) (w : World) :
    Calls Try.prog 22 #[dv a, dv b] w fun e w' => e = .returned (.int .i64 (ord a b)) ∧ ∃ q os', w' = grow (w.drewN q) os' := by
  obtain ⟨r, hr⟩ : ∃ r, ord a b = r := ⟨_, rfl⟩
  rw [hr]
  unfold ord at hr
  obtain ⟨ai, a2⟩ := a
  obtain ⟨bi, b2⟩ := b
  simp only at hr
  unfold dv
  simp only
  obtain ⟨x, hx⟩ : ∃ x, cmp a2 b2 = x := ⟨_, rfl⟩
  obtain ⟨y, hy⟩ : ∃ y, cmp ai bi = y := ⟨_, rfl⟩
  rw [hx, hy] at hr
  have C1 := Lib.hid (fun w => cmpu_is a2 b2 x hx w)
  have C2 := Lib.hid (fun w => cmpi_is ai bi y hy w)
  have C3 := Lib.hid (fun g w => or_is x y r hr g w)
  clear hx hy hr
  go_enter Try.func22, Try.ntmps22
  go_wp2_with fail
  go_region_held3 (fun u => u.cell? ⟨w.heap.size, 0, none⟩ = some (.int .i64 ai) ∧ u.cell? ⟨w.heap.size, 1, none⟩ = some (.int .u64 a2) ∧ u.cell? ⟨w.heap.size + 1, 0, none⟩ = some (.int .i64 bi) ∧ u.cell? ⟨w.heap.size + 1, 1, none⟩ = some (.int .u64 b2)) (go_keep)
    (first | (go_at_call 33; refine (C1.out _).mono ?_; rintro _ w1 ⟨rfl, rfl⟩) | (go_at_call 34; refine (C2.out _).mono ?_; rintro _ w1 ⟨rfl, rfl⟩) | (go_at_call 32; refine (C3.out _ _ (by simp [go_sem]) (by simp [go_sem])).mono ?_; rintro _ w1 ⟨rfl, rfl⟩))
  go_wp2_with fail
  go_ret
  exact ⟨rfl, 1, _, lay3 w _ _ _⟩

def encD (d : Du) : List Value := [.int .i64 d.id, .int .u64 (d.t : Nat)]
theorem cmpLays (blk off size : Nat) (w : World) : CmpLays Try.prog 22 #[] encD 2 ord blk off size w := fun _ _ _ _ x y => order_lay x y _
theorem lt_ord (x y : Du) : ltOf ord x y = RG.less x y := ord_neg x y
theorem swo : SWO (ltOf ord) where
  irrefl x := by rw [lt_ord]; exact RG.less_irrefl x
  trans x y z h1 h2 := by rw [lt_ord] at *; exact RG.less_trans h1 h2
  ntrans x y z h1 h2 := by rw [lt_ord] at *; exact RG.le_trans h2 h1
theorem enc_len (x : Du) : (encD x).length = 2 := rfl
theorem enc_one (x : Du) : ∀ v ∈ encD x, v.oneCell' = true := by
  intro v hv
  simp [encD] at hv
  rcases hv with rfl | rfl <;> rfl
/-- a row of one's own, as the shelf wants it. -/
theorem holds_row {w : World} {B g n cap : Nat} {l : List Du} (h : w.ownsRow B 25 2 (.slice (some ⟨g, 0, none⟩) n cap) n (cd l)) (hn : l.length = n) : HoldsK encD 2 w g 0 l.toArray := by
  intro j hj
  rw [size_flatK] at hj
  refine ⟨?_, World.ownsRow.frozenAt h _⟩
  have hj' : j < l.length * 2 := by simpa using hj
  rw [get_flatK encD 2 l.toArray j hj]
  have hk : j / 2 < l.length := by omega
  have e : l.toArray[j / 2]! = l[j / 2] := by simp [getElem!_pos, hk]
  rw [e]
  have hc := World.ownsRow.cells h (g := g) rfl
  rcases Nat.mod_two_eq_zero_or_one j with m | m
  · have h2 : j = j / 2 * 2 := by omega
    have := hc j (.int .i64 l[j / 2].id) (by conv => lhs; rw [h2]
                                             exact cd_id l (j / 2) hk)
    rw [m, Addr.add_lit] at *
    simpa [encD] using this
  · have h2 : j = j / 2 * 2 + 1 := by omega
    have := hc j (.int .u64 (l[j / 2].t : Nat)) (by conv => lhs; rw [h2]
                                                    exact cd_t l (j / 2) hk)
    rw [m, Addr.add_lit] at *
    simpa [encD] using this
theorem lies_holds {w : World} {g : Nat} {d : Array Du} (h : HoldsK encD 2 w g 0 d) (hg : g < w.heap.size) : Lies w (some ⟨g, 0, none⟩) (cd d.toList) := by
  refine Or.inr ⟨g, 0, rfl, hg, fun j u hj => ?_⟩
  obtain ⟨k, hk, hor⟩ := cd_cases hj
  have hk' : k < d.size := by simpa using hk
  have e : d[k]! = d.toList[k] := by simp [getElem!_pos, hk']
  rcases hor with ⟨rfl, rfl⟩ | ⟨rfl, rfl⟩
  · have := (HoldsK.cell h hk' (by omega : 0 < 2)).1
    rw [e] at this
    simpa [encD] using this
  · have := (HoldsK.cell h hk' (by omega : 1 < 2)).1
    rw [e] at this
    simpa [encD, Nat.add_assoc] using this
theorem frm_sort (w : World) (g n : Nat) (d : Array Du) (os : Array Obj) : Frm (fun k => k = g) w (sortWorldK encD 2 w g 0 n d os) := by
  refine ⟨rfl, rfl, rfl, ?_, fun k hk hn => ?_⟩
  · simp [sortWorldK, putRowK, putRow, mapBlock, grow, ahead]
  · simp only [sortWorldK, putRowK, putRow, mapBlock, grow, ahead]
    rw [Array.getElem?_append_left (by simpa using hk), Array.getElem?_modify]
    rw [if_neg (fun c => hn c.symm)]
    rfl
def SrtQ (l : List Du) (w : World) (e : Ending) (w' : World) : Prop := ∃ v, e = .returned v ∧ RowD w' v (RG.sort l) ∧ Grw w w'
end Go.Proofs.Ytjkhgpdhhnfmlaa
