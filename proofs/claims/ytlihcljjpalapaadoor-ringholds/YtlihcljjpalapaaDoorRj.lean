/- The contract of ring.Drop at this program. -/
import Derived.Test.YtlihcljjpalapaaDoorRh
import Derived.Deep.RegionLaw
namespace Go.Proofs.YtlihcljjpalapaaDoor
open Go.RowKit MK
open RG (Du)
set_option linter.unusedSimpArgs false

def DropQ (b : Nat) (A : Array Value) (L : Nat → List Du) (id : Int) (w : World) (e : Ending) (w' : World) : Prop :=
  (∃ (k j : Nat) (h : j < (L k).length), k < 64 ∧ ((L k)[j]).id = id ∧ e = .returned (.tuple #[.int .i64 k, .bool true]) ∧ RingQ b A w (upd L k ((L k).take j ++ (L k).drop (j + 1))) w') ∨
  ((∀ k, k < 64 → ∀ j (h : j < (L k).length), ((L k)[j]).id ≠ id) ∧ e = .returned (.tuple #[.int .i64 0, .bool false]) ∧ RingQ b A w L w')
set_option maxHeartbeats 4000000 in
set_option maxRecDepth 100000 in
theorem drop_any (b : Nat) (A : Array Value) (L : Nat → List Du) (id : Int) (w : World) (h : RingL w b A L) (hb : ∀ k, (L k).length ≤ 1000000) :
    Calls Tryd.prog 10 #[.pointer (some ⟨b, 0, none⟩), .int .i64 id] w (DropQ b A L id w) := by
  have R := Lib.hid h
  have FI := Lib.hid (find_any b A L id w h hb)
  have HB := Lib.hid hb
  clear h hb
  go_enter Tryd.func10, Tryd.ntmps10
  go_wp2_with fail
  refine FI.out.mono ?_
  rintro _ w1 ⟨fs, fp, fo, rfl, hfnd, hg1⟩
  have G1 := Lib.hid hg1
  clear hg1
  rcases hfnd with ⟨k, j, hj, hk, rfl, rfl, rfl, he⟩ | ⟨rfl, rfl, rfl, hno⟩
  · obtain ⟨v, hv⟩ := R.out.at hk
    have ho := (R.out.later G1.out).own k v hv
    obtain ⟨ao, cap, rfl, hl⟩ := ownsRow_lies ho
    have hc := (R.out.later G1.out).cells k _ hv
    obtain ⟨m, hm⟩ : ∃ m, (L k).length = j + m + 1 := ⟨(L k).length - j - 1, by omega⟩
    have hbk := HB.out k
    have hki : (k : Int) < 64 := by omega
    have hw1 : IntKind.i64.wrap ((j : Int) + 1) = (j : Int) + 1 := by rw [IntKind.wrap_i64]; omega
    obtain ⟨l', hl'⟩ : ∃ l', (L k).take j ++ (L k).drop (j + 1) = l' := ⟨_, rfl⟩
    have DE : Hid (∀ u : World, u.heap = w1.heap → Calls Tryd.prog 28 #[.slice ao (j + m + 1) cap, .int .i64 j, .int .i64 ((j : Int) + 1)] u (DelQ (.slice ao (j + m + 1) cap) l' u)) := (fun u hu => by
      rw [← hm, ← hl']
      exact delete_any _ j m (L k) u ⟨ho.1, by rw [hu]; exact ho.2⟩ hbk hm : ∀ u : World, u.heap = w1.heap → Calls Tryd.prog 28 #[.slice ao (j + m + 1) cap, .int .i64 j, .int .i64 ((j : Int) + 1)] u (DelQ (.slice ao (j + m + 1) cap) l' u))
    rw [hm] at hc
    have AF : Hid (∀ (u x : World), u.heap = w1.heap → Frm (fun q => (Value.slice ao (j + m + 1) cap).ownBlock = some q) u x → x.cell? ⟨b, k, none⟩ = some (.slice ao (j + m + 1) cap) ∧ x.frozen? ⟨b, k, none⟩ = false) := (fun u x hu hf => by
      have hr := R.out.later G1.out
      have hblk : u.heap[b]? = some (.cells A 53 (0, 0)) := by rw [hu]; exact hr.blk
      have hx : x.heap[b]? = some (.cells A 53 (0, 0)) := by
        rw [hf.block b (Array.getElem?_eq_some_iff.1 hblk).1 (fun e => R.out.ne k _ hv (by rw [hm]; exact e))]
        exact hblk
      have hvv := hv
      rw [hm] at hvv
      exact ⟨by simp [World.cell?, hx, hvv], by simp [World.frozen?, hx]⟩ : ∀ (u x : World), u.heap = w1.heap → Frm (fun q => (Value.slice ao (j + m + 1) cap).ownBlock = some q) u x → x.cell? ⟨b, k, none⟩ = some (.slice ao (j + m + 1) cap) ∧ x.frozen? ⟨b, k, none⟩ = false)
    have HV := Lib.hid hv
    have HM := Lib.hid hm
    have HL := Lib.hid hl'
    have HE : Hid (∃ h : j < (L k).length, ((L k)[j]).id = id) := (⟨hj, he⟩ : ∃ h : j < (L k).length, ((L k)[j]).id = id)
    clear ho hl hm hl' hv he hj
    go_wp2_with fail
    go_region_law (first | (go_simp; go_at_call 28; refine (DE.out w1.drew rfl).mono ?_; rintro _ w3 ⟨v', rfl, hown, hfrm, hblk⟩; obtain ⟨ao', cap', rfl, hll⟩ := ownsRow_lies hown; have hcc := (AF.out w1.drew w3 rfl hfrm).1; have hcf := (AF.out w1.drew w3 rfl hfrm).2))
    have U := Lib.hid (ringQ_set R.out (s := k) (G1.out.drew) HV.out (by rw [HM.out]; exact hfrm) hown (by rw [HM.out]; exact Or.inl hblk))
    clear hown hfrm hblk hll hcc hcf
    go_wp2_with fail
    go_ret2
    obtain ⟨h1, h2⟩ := HE.out
    exact Or.inl ⟨k, j, h1, hk, h2, rfl, by rw [HL.out]; exact U.out⟩
  · have E := Lib.hid hno
    clear hno
    go_wp2_with fail
    go_ret2
    exact Or.inr ⟨E.out, rfl, ringQ_same R.out G1.out⟩
end Go.Proofs.YtlihcljjpalapaaDoor
