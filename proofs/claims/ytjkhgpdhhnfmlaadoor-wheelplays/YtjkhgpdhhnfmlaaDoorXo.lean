/- The contracts of wheel.New and Load at this program. -/
import Derived.Test.YtjkhgpdhhnfmlaaDoorXn
namespace Go.Proofs.YtjkhgpdhhnfmlaaDoor
open Go.RowKit TM MK
open RG (Du La listR putB putR dropR dropO takeR hasId Srt)
open VM (RK BK lvl idsD)
set_option linter.unusedSimpArgs false

/-- a new wheel's block, k rings in. -/
def nc (now b k i : Nat) : Value := if i = 0 then .int .u64 (now : Nat) else if i = 1 then .map (some b) else if i < 8 then (if i - 2 < k then .pointer (some ⟨b + i, 0, none⟩) else .pointer none) else .slice none 0 0
def ncs (now b k : Nat) : Array Value := ((List.range 9).map (nc now b k)).toArray
theorem ncs_get (now b k i : Nat) (h : i < 9) : (ncs now b k)[i]? = some (nc now b k i) := by unfold ncs; simp [h]
theorem ncs_set (now b k : Nat) (h : k < 6) : (ncs now b k).setIfInBounds (2 + k) (.pointer (some ⟨b + 2 + k, 0, none⟩)) = ncs now b (k + 1) := by
  apply Array.ext_getElem?
  intro i
  rw [Array.getElem?_setIfInBounds]
  by_cases hi : i < 9
  · rw [ncs_get now b (k + 1) i hi]
    by_cases e : 2 + k = i
    · subst e
      rw [if_pos rfl, if_pos (by unfold ncs; simp; omega)]
      unfold nc
      rw [if_neg (by omega), if_neg (by omega), if_pos (by omega), if_pos (by omega)]
      rw [show b + 2 + k = b + (2 + k) by omega]
    · rw [if_neg e, ncs_get _ _ _ i hi]
      unfold nc
      by_cases h0 : i = 0
      · simp [h0]
      · by_cases h1 : i = 1
        · simp [h1]
        · by_cases h8 : i < 8
          · rw [if_neg h0, if_neg h0, if_neg h1, if_neg h1, if_pos h8, if_pos h8]
            by_cases c : i - 2 < k
            · rw [if_pos c, if_pos (by omega)]
            · rw [if_neg c, if_neg (by omega)]
          · rw [if_neg h0, if_neg h0, if_neg h1, if_neg h1, if_neg h8, if_neg h8]
  · have h1 : (ncs now b (k + 1))[i]? = none := by unfold ncs; simp; omega
    have h2 : (ncs now b k)[i]? = none := by unfold ncs; simp; omega
    rw [h1, h2, if_neg (by omega)]
def A0 : Array Value := Array.replicate 64 (Value.slice none 0 0)
def newSh (b : Nat) : Sh := ⟨b + 1, b, fun k => b + 2 + k, fun _ => A0, .slice none 0 0⟩
theorem ncs_all (now b : Nat) : ncs now b 6 = wcells (newSh b) now := by
  unfold ncs wcells newSh
  simp [List.range, List.range.loop, nc]
/-- while the rings are made. -/
structure NewR (w wr : World) (now k : Nat) : Prop where
  size : wr.heap.size = w.heap.size + 2 + k
  blk : wr.heap[w.heap.size + 1]? = some (.cells (ncs now w.heap.size k) 74 (0, 0))
  mp : wr.ownsMap Tryd.prog 3 (plainElem Tryd.prog 22) w.heap.size 0 (.map [] : DataW Unit)
  ring : ∀ j, j < k → RingR wr (w.heap.size + 2 + j) A0 []
  grw : Grw w wr
theorem NewR.start (w : World) (now : Nat) : NewR w ((w.alloc (.map #[] 0)).alloc (.cells #[.int .u64 (now : Nat), .map (some w.heap.size), .pointer none, .pointer none, .pointer none, .pointer none, .pointer none, .pointer none, .slice none 0 0] 74)) now 0 := by
  have e : (#[.int .u64 (now : Nat), .map (some w.heap.size), .pointer none, .pointer none, .pointer none, .pointer none, .pointer none, .pointer none, .slice none 0 0] : Array Value) = ncs now w.heap.size 0 := by
    unfold ncs
    simp [List.range, List.range.loop, nc]
  rw [e]
  refine ⟨by simp only [size_new], ?_, ?_, fun j hj => by omega, ((Grw.rfl' w).alloc _).alloc _⟩
  · have := heap_alloc_new (w.alloc (.map #[] 0)) (.cells (ncs now w.heap.size 0) 74)
    rw [size_new] at this
    exact this
  · exact ownsMap_block (World.ownsMap_made w _ _ _) (heap_old _ _ _ (by simp only [size_new]; omega))
theorem foot_A0 {b g : Nat} (h : foot b A0 g) : g = b := by
  rcases h with h | ⟨k, v, hk, hv⟩
  · exact h
  · unfold A0 at hk
    rw [nil64 k v hk] at hv; cases hv
theorem NewR.step {w wr w2 : World} {now k : Nat} (h : NewR w wr now k) (hk : k < 6) (hr : RingR w2 wr.heap.size A0 []) (hg : Grw wr w2) (hs : w2.heap.size = wr.heap.size + 1) : NewR w (w2.setCell ⟨w.heap.size + 1, 2 + k, none⟩ (.pointer (some ⟨wr.heap.size, 0, none⟩))) now (k + 1) := by
  have hset : Frm (fun q => q = w.heap.size + 1) w2 (w2.setCell ⟨w.heap.size + 1, 2 + k, none⟩ (.pointer (some ⟨wr.heap.size, 0, none⟩))) := frm_set w2 ⟨w.heap.size + 1, 2 + k, none⟩ _ rfl
  have hz := h.size
  have hb2 : w2.heap[w.heap.size + 1]? = some (.cells (ncs now w.heap.size k) 74 (0, 0)) := by rw [hg.block (by omega)]; exact h.blk
  refine ⟨?_, ?_, ?_, fun j hj => ?_, ?_⟩
  · simp only [World.setCell, Array.size_modify]; omega
  · have e := ncs_set now w.heap.size k hk
    rw [← e, hz]
    simp [World.setCell, Array.getElem?_modify, hb2]
  · refine ownsMap_block h.mp ?_
    rw [hset.block _ (by omega) (by omega)]
    exact hg.block (by omega)
  · rcases (by omega : j < k ∨ j = k) with c | c
    · exact ((h.ring j c).later hg).frm hset (fun q hq c2 => by have := foot_A0 hq; omega)
    · subst c
      rw [← hz]
      exact hr.frm hset (fun q hq c2 => by have := foot_A0 hq; omega)
  · exact (h.grw.trans hg).set (by show w.heap.size ≤ w.heap.size + 1; omega) _
theorem MapOf.zero : MapOf (.map [] : DataW Unit) [] := MapOf.nil
theorem NewR.done {w wr : World} {now : Nat} (h : NewR w wr now 6) (t : Tab w) (hn : now < 2 ^ 64) : WR wr (newSh w.heap.size) now [] ∧ ∀ g, wfoot (newSh w.heap.size) g → w.heap.size ≤ g := by
  have hp : ∀ i g, part (newSh w.heap.size) i g → (i = 0 ∧ g = w.heap.size + 1) ∨ (i = 1 ∧ g = w.heap.size) ∨ (∃ k, i = k + 3 ∧ g = w.heap.size + 2 + k) := by
    intro i g hg
    rcases i with _ | _ | _ | k
    · exact Or.inl ⟨rfl, hg⟩
    · exact Or.inr (Or.inl ⟨rfl, hg⟩)
    · have : (Value.slice none 0 0).ownBlock = some g := hg
      cases this
    · exact Or.inr (Or.inr ⟨k, rfl, foot_A0 hg.2⟩)
  have hge : ∀ g, wfoot (newSh w.heap.size) g → w.heap.size ≤ g := by
    rintro g ⟨i, hi⟩
    rcases hp i g hi with ⟨_, e⟩ | ⟨_, e⟩ | ⟨k, _, e⟩ <;> omega
  refine ⟨⟨⟨.map [], ⟨?_, h.mp, fun k hk => h.ring k hk, World.ownsRow_nil _ _ _ _, ?_⟩, MapOf.nil⟩, ⟨List.Pairwise.nil, List.Pairwise.nil, (fun _ h => by cases h), (fun _ h => by cases h), Nat.zero_le _, hn⟩, tab_grw h.grw t, fun c => ?_⟩, hge⟩
  · rw [← ncs_all]; exact h.blk
  · intro i j g hi hj
    rcases hp i g hi with ⟨a, e⟩ | ⟨a, e⟩ | ⟨k, a, e⟩ <;> rcases hp j g hj with ⟨a2, e2⟩ | ⟨a2, e2⟩ | ⟨k2, a2, e2⟩ <;> omega
  · have := hge 0 c
    have := tab_pos t
    omega
def NewQ (w : World) (now : Nat) (e : Ending) (w' : World) : Prop := ∃ S, e = .returned (.pointer (some ⟨S.p, 0, none⟩)) ∧ WR w' S now [] ∧ Grw w w' ∧ ∀ g, wfoot S g → w.heap.size ≤ g
set_option maxHeartbeats 4000000 in
set_option maxRecDepth 100000 in
theorem new_W (now : Nat) (w : World) (t : Tab w) (hn : now < 2 ^ 64) : Calls Tryd.prog 6 #[.int .u64 now] w (NewQ w now) := by
  have NR := Lib.hid (fun u => newR u)
  have TB := Lib.hid (And.intro t hn)
  have N0 := Lib.hid (NewR.start w now)
  obtain ⟨Q, hQ⟩ : ∃ Q : Ending → World → Prop, Q = NewQ w now := ⟨_, rfl⟩
  rw [← hQ]
  have QQ := Lib.hid hQ
  have hmm := @run_makeMap Tryd.prog
  clear t hn hQ
  go_enter Tryd.func6, Tryd.ntmps6
  go_wp2_with fail
  go_loopw [9] (fun u wr => ∃ k : Nat, k ≤ 6 ∧ u = .int .i64 k ∧ NewR w wr now k) (fun u _ => 6 - (intOf u).toNat)
  case atStart => exact ⟨0, Nat.zero_le _, rfl, N0.out⟩
  case round =>
    obtain ⟨k, hk, rfl, hr⟩ := hrel
    have R := Lib.hid hr
    by_cases hk6 : k < 6
    · have hki : (k : Int) < 6 := by omega
      have hp : w.heap.size + 1 < wr.heap.size := by have := hr.size; omega
      have AF : Hid (∀ x, Grw wr x → x.cell? ⟨w.heap.size + 1, 2 + k, none⟩ = some (.pointer none) ∧ x.frozen? ⟨w.heap.size + 1, 2 + k, none⟩ = false ∧ x.cell? ⟨w.heap.size + 1, 1, none⟩ = some (.map (some w.heap.size)) ∧ ∀ v, (x.setCell ⟨w.heap.size + 1, 2 + k, none⟩ v).cell? ⟨w.heap.size + 1, 1, none⟩ = some (.map (some w.heap.size))) := (fun x g => by
        have hb : x.heap[w.heap.size + 1]? = some (.cells (ncs now w.heap.size k) 74 (0, 0)) := by rw [g.block hp]; exact hr.blk
        have e1 := ncs_get now w.heap.size k (2 + k) (by omega)
        have e2 := ncs_get now w.heap.size k 1 (by omega)
        unfold nc at e1 e2
        rw [if_neg (by omega), if_neg (by omega), if_pos (by omega), if_neg (by omega)] at e1
        rw [if_neg (by omega), if_pos rfl] at e2
        refine ⟨by simp [World.cell?, hb, e1], by simp [World.frozen?, hb], by simp [World.cell?, hb, e2], fun v => by simp [World.setCell, World.cell?, Array.getElem?_modify, hb, Array.getElem?_setIfInBounds, e2]; omega⟩ : ∀ x, Grw wr x → x.cell? ⟨w.heap.size + 1, 2 + k, none⟩ = some (.pointer none) ∧ x.frozen? ⟨w.heap.size + 1, 2 + k, none⟩ = false ∧ x.cell? ⟨w.heap.size + 1, 1, none⟩ = some (.map (some w.heap.size)) ∧ ∀ v, (x.setCell ⟨w.heap.size + 1, 2 + k, none⟩ v).cell? ⟨w.heap.size + 1, 1, none⟩ = some (.map (some w.heap.size)))
      have m1 := (AF.out wr (Grw.rfl' _)).2.2.1
      have n1 : ¬ 1 = 2 + k := by omega
      have n2 : ¬ 2 + k = 1 := by omega
      clear hr
      go_wp2_with fail
      go_region_held3 (fun u => u.cell? ⟨w.heap.size + 1, 1, none⟩ = some (.map (some w.heap.size))) (first | go_keep | exact m2 | exact m5 _)
        (first | (go_at_call 32; refine (NR.out wr.drew).mono ?_; rintro _ w2 ⟨rfl, hring, hg, hsz⟩; have hg' := ((Grw.rfl' wr).drew).trans hg; have m2 := (AF.out w2 hg').2.2.1; have m5 := (AF.out w2 hg').2.2.2; have m3 := (AF.out w2 hg').1; have m4 := (AF.out w2 hg').2.1))
      have RS := Lib.hid (R.out.step hk6 hring (((Grw.rfl' wr).drew).trans hg) hsz)
      clear hring hg hsz hg' m1 m2 m3 m4 m5
      go_wp2_with fail
      go_roundw
      case rel => exact ⟨k + 1, by omega, by go_num, RS.out⟩
      case measure => simp [intOf]; omega
    · obtain rfl : k = 6 := by omega
      have FN := Lib.hid (hr.done TB.out.1 TB.out.2)
      clear hr
      go_wp2_with fail
      rw [QQ.out]
      exact ⟨_, rfl, FN.out.1, R.out.grw, FN.out.2⟩
end Go.Proofs.YtjkhgpdhhnfmlaaDoor
