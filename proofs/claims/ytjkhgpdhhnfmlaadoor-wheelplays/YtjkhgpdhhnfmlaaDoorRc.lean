/- The contracts of ring.New, has, Len, Mask, First at this program. -/
import Derived.Test.YtjkhgpdhhnfmlaaDoorWg
import Derived.Test.YtjkhgpdhhnfmlaaDoorRl
import Derived.Deep.MidRow
import Derived.Test.YtjkhgpdhhnfmlaaDoorRm
import Derived.Deep.RegionHeld3
namespace Go.Proofs.YtjkhgpdhhnfmlaaDoor
open Go.RowKit MK
open RG (Du)
set_option linter.unusedSimpArgs false

theorem nil64 (k : Nat) (v : Value) (h : (Array.replicate 64 (Value.slice none 0 0))[k]? = some v) : v = .slice none 0 0 := by
  rw [Array.getElem?_replicate] at h
  split at h
  · exact (Option.some.inj h).symm
  · cases h
theorem ring_new (w : World) : RingL (w.alloc (.cells (Array.replicate 64 (Value.slice none 0 0)) 98)) w.heap.size (Array.replicate 64 (Value.slice none 0 0)) (fun _ => []) := by
  refine ⟨heap_alloc_new w _, by simp, fun k v h => ?_, fun k v h => ?_, fun j k u v g hu hv eu _ => ?_⟩
  · rw [nil64 k v h]; exact World.ownsRow_nil _ _ _ _
  · rw [nil64 k v h]; intro e; cases e
  · rw [nil64 j u hu] at eu; cases eu
set_option maxRecDepth 100000 in
theorem new_any (w : World) : Calls Tryd.prog 32 #[] w fun e w' => e = .returned (.pointer (some ⟨w.heap.size, 0, none⟩)) ∧ RingL w' w.heap.size (Array.replicate 64 (Value.slice none 0 0)) (fun _ => []) ∧ Grw w w' ∧ w'.heap.size = w.heap.size + 1 := by
  have R := Lib.hid (ring_new w)
  go_enter Tryd.func32, Tryd.ntmps32
  go_wp2_with fail
  go_ret
  exact ⟨rfl, R.out, (Grw.rfl' _).alloc _, size_new _ _⟩
theorem has_yes (a : Addr) (n : Nat) (w : World) (h : n < 64) :
    Calls Tryd.prog 74 #[.pointer (some a), .int .i64 n] w fun e w' => e = .returned (.bool true) ∧ w = w' := by
  have hi : (n : Int) < 64 := by omega
  go_enter Tryd.func74, Tryd.ntmps74
  go_wp2
  go_ret
  exact ⟨rfl, rfl⟩
theorem has_no (a : Addr) (i : Int) (w : World) (h : ¬ (0 ≤ i ∧ i < 64)) :
    Calls Tryd.prog 74 #[.pointer (some a), .int .i64 i] w fun e w' => e = .returned (.bool false) ∧ w = w' := by
  by_cases h0 : 0 ≤ i
  · have h1 : ¬ i < 64 := fun g => h ⟨h0, g⟩
    clear h
    go_enter Tryd.func74, Tryd.ntmps74
    go_wp2
    go_ret
    exact ⟨rfl, rfl⟩
  · clear h
    go_enter Tryd.func74, Tryd.ntmps74
    go_wp2
    go_ret
    exact ⟨rfl, rfl⟩
theorem has_nil (i : Int) (w : World) :
    Calls Tryd.prog 74 #[.pointer none, .int .i64 i] w fun e w' => e = .returned (.bool false) ∧ w = w' := by
  go_enter Tryd.func74, Tryd.ntmps74
  go_wp2
  go_ret
  exact ⟨rfl, rfl⟩
theorem Tryd.size96 : (Tryd.prog.info? 96).map (·.size) = some 64 := by kernel_rfl
theorem ring_range {w : World} {b : Nat} {A : Array Value} {L : Nat → List Du} (h : RingL w b A L) : w.rangeAt b 0 A.toList := by
  intro j v hv
  rw [Nat.zero_add]
  exact h.cells j v (by simpa using hv)
theorem run_index64 (l : List Value) (k : Nat) (v : Value) (hk : k < 64) (h : l.toArray[k]? = some v) (w : World) :
    (Instr.index 96 (.agg l.toArray) (.int .i64 (k : Int))).run Tryd.prog w = .ok v w := by
  have h1 : 0 ≤ (k : Int) ∧ (k : Int) < 64 := by omega
  have hl : l[k]? = some v := by simpa using h
  simp [Instr.index, asIntOf, run_underlying Tryd.underlying96, Tryd.sizeOf27, part, Tryd.isAgg27, hl, hk]
theorem tot_step (L : Nat → List Du) (k : Nat) : tot L (k + 1) = tot L k + (L k).length := rfl
set_option maxHeartbeats 1000000 in
set_option maxRecDepth 100000 in
theorem len_any (b : Nat) (A : Array Value) (L : Nat → List Du) (w : World) (h : RingL w b A L) (ht : tot L 64 ≤ 1000000) :
    Calls Tryd.prog 65 #[.pointer (some ⟨b, 0, none⟩)] w fun e w' => e = .returned (.int .i64 (tot L 64 : Nat)) ∧ w = w' := by
  have R := Lib.hid h
  have hr := Lib.hid (ring_range h)
  have hz : (Tryd.prog.info? 96).map (·.size) = some A.toList.length := by rw [Tryd.size96, Array.length_toList, h.size]
  have HZ := Lib.hid hz
  have hs := h.size
  obtain ⟨l, hl⟩ : ∃ l, A.toList = l := ⟨_, rfl⟩
  rw [hl] at hr HZ
  have hA : A = l.toArray := by rw [← hl]
  have HA := Lib.hid hA
  have TM := Lib.hid (fun j k (h : j ≤ k) => tot_mono L h)
  have TS := Lib.hid (fun k => tot_step L k)
  clear h hz hl hA hs
  go_enter Tryd.func65, Tryd.ntmps65
  go_wp2_with (refine wpList_load_mid rfl 96 _ rfl b 0 rfl l _ hr.out Tryd.underlying96 rfl HZ.out ?_)
  go_loopw [3, 12] (fun v i wr => ∃ k : Nat, k ≤ 64 ∧ i = .int .i64 k ∧ v = .int .i64 (tot L k : Nat) ∧ w = wr) (fun _ i _ => 64 - (intOf i).toNat)
  case atStart => exact ⟨0, Nat.zero_le _, rfl, rfl, rfl⟩
  case round =>
    obtain ⟨k, hk, rfl, rfl, rfl⟩ := hrel
    by_cases hk' : k < 64
    · have hki : (k : Int) < 64 := by omega
      obtain ⟨ao, cap, hcell, _⟩ := R.out.row hk'
      have ht1 := TM.out (k + 1) 64 (by omega)
      have hst := TS.out k
      rw [HA.out] at hcell
      obtain ⟨n, hn⟩ : ∃ n, (L k).length = n := ⟨_, rfl⟩
      obtain ⟨t, htt⟩ : ∃ t, tot L k = t := ⟨_, rfl⟩
      obtain ⟨u, hu⟩ : ∃ u, tot L (k + 1) = u := ⟨_, rfl⟩
      rw [hn] at hcell hst
      rw [htt] at hst ⊢
      rw [hu] at hst ht1
      have hb : t + n ≤ 1000000 := by omega
      have HU := Lib.hid hu
      have S := Lib.hid hst
      have hix := run_index64 l k _ hk' hcell
      clear hn htt hu hst hcell
      go_wp2_with fail
      go_roundw
      case rel => exact ⟨k + 1, by omega, by go_num, by rw [HU.out, S.out]; go_num, trivial⟩
      case measure => simp [intOf]; omega
    · have hki : ¬ (k : Int) < 64 := by omega
      have hke : k = 64 := by omega
      go_wp2_with fail
      go_ret
      exact ⟨by subst hke; rfl, rfl⟩
/-- the set of the slots that are not empty, of the first k. -/
def msk (L : Nat → List Du) : Nat → Nat
  | 0 => 0
  | k + 1 => if 0 < (L k).length then wth (msk L k) (k : Int) else msk L k
theorem msk_lt (L : Nat → List Du) (k : Nat) : msk L k < 18446744073709551616 := by
  induction k with
  | zero => exact Nat.zero_lt_succ _
  | succ k ih =>
    unfold msk
    split
    · exact wth_lt ih _
    · exact ih
theorem msk_yes {L : Nat → List Du} {k : Nat} (h : 0 < (L k).length) : msk L (k + 1) = wth (msk L k) (k : Int) := if_pos h
theorem msk_no {L : Nat → List Du} {k : Nat} (h : ¬ 0 < (L k).length) : msk L (k + 1) = msk L k := if_neg h
set_option maxHeartbeats 1000000 in
set_option maxRecDepth 100000 in
theorem mask_any (b : Nat) (A : Array Value) (L : Nat → List Du) (w : World) (h : RingL w b A L) :
    Calls Tryd.prog 80 #[.pointer (some ⟨b, 0, none⟩)] w fun e w' => e = .returned (.int .u64 (msk L 64 : Nat)) ∧ w = w' := by
  have R := Lib.hid h
  have hr := Lib.hid (ring_range h)
  have hz : (Tryd.prog.info? 96).map (·.size) = some A.toList.length := by rw [Tryd.size96, Array.length_toList, h.size]
  have HZ := Lib.hid hz
  obtain ⟨l, hl⟩ : ∃ l, A.toList = l := ⟨_, rfl⟩
  rw [hl] at hr HZ
  have hA : A = l.toArray := by rw [← hl]
  have HA := Lib.hid hA
  have ML := Lib.hid (fun k => msk_lt L k)
  clear h hz hl hA
  go_enter Tryd.func80, Tryd.ntmps80
  go_wp2_with (refine wpList_load_mid rfl 96 _ rfl b 0 rfl l _ hr.out Tryd.underlying96 rfl HZ.out ?_)
  go_loopw [3, 12] (fun v i wr => ∃ k : Nat, k ≤ 64 ∧ i = .int .i64 k ∧ v = .int .u64 (msk L k : Nat) ∧ w = wr) (fun _ i _ => 64 - (intOf i).toNat)
  case atStart => exact ⟨0, Nat.zero_le _, rfl, rfl, rfl⟩
  case round =>
    obtain ⟨k, hk, rfl, rfl, rfl⟩ := hrel
    by_cases hk' : k < 64
    · have hki : (k : Int) < 64 := by omega
      obtain ⟨ao, cap, hcell, _⟩ := R.out.row hk'
      rw [HA.out] at hcell
      have hix := run_index64 l k _ hk' hcell
      have hml := ML.out k
      by_cases hp : 0 < (L k).length
      · have hst := msk_yes hp
        obtain ⟨n, hn⟩ : ∃ n, (L k).length = n := ⟨_, rfl⟩
        obtain ⟨m, hm⟩ : ∃ m, msk L k = m := ⟨_, rfl⟩
        obtain ⟨y, hy⟩ : ∃ y, wth m (k : Int) = y := ⟨_, rfl⟩
        rw [hn] at hix hp
        rw [hm, hy] at hst
        rw [hm] at hml ⊢
        have C := Lib.hid (with_is m y (k : Int) w hml hy)
        have S := Lib.hid hst
        have hp' : decide (0 < (n : Int)) = true := by simp; omega
        clear hn hm hy hst hcell
        go_wp2_with fail
        refine C.out.mono ?_
        rintro _ w1 ⟨rfl, rfl⟩
        go_wp2_with fail
        go_roundw
        case rel => exact ⟨k + 1, by omega, by go_num, by rw [S.out], trivial⟩
        case measure => simp [intOf]; omega
      · have hst := msk_no hp
        obtain ⟨n, hn⟩ : ∃ n, (L k).length = n := ⟨_, rfl⟩
        rw [hn] at hix hp
        have hn0 : n = 0 := by omega
        subst hn0
        have S := Lib.hid hst
        clear hn hst hcell hp
        go_wp2_with fail
        go_roundw
        case rel => exact ⟨k + 1, by omega, by go_num, by rw [S.out], trivial⟩
        case measure => simp [intOf]; omega
    · have hki : ¬ (k : Int) < 64 := by omega
      have hke : k = 64 := by omega
      go_wp2_with fail
      go_ret
      exact ⟨by subst hke; rfl, rfl⟩
theorem first_any (b : Nat) (A : Array Value) (L : Nat → List Du) (f : Int) (v : Int) (o : Bool) (w : World) (h : RingL w b A L) (t : Tab w) (h1 : ov (rnd (msk L 64) f) = v) (h2 : (rnd (msk L 64) f).isSome = o) :
    Calls Tryd.prog 58 #[.pointer (some ⟨b, 0, none⟩), .int .i64 f] w fun e w' => e = .returned (.tuple #[.int .i64 v, .bool o]) ∧ w = w' := by
  have M := mask_any b A L w h
  have hm := msk_lt L 64
  obtain ⟨m, hmm⟩ : ∃ m, msk L 64 = m := ⟨_, rfl⟩
  rw [hmm] at M hm h1 h2
  have C := Lib.hid (round_is m f v o w hm t h1 h2)
  have M := Lib.hid M
  clear h t h1 h2 hmm
  go_enter Tryd.func58, Tryd.ntmps58
  go_wp2_with fail
  refine M.out.mono ?_
  rintro _ w1 ⟨rfl, rfl⟩
  go_wp2_with fail
  refine C.out.mono ?_
  rintro _ w1 ⟨rfl, rfl⟩
  go_wp2_with fail
  go_ret2
  exact ⟨rfl, rfl⟩
theorem len_nil (w : World) : Calls Tryd.prog 65 #[.pointer none] w fun e w' => e = .returned (.int .i64 0) ∧ w = w' := by
  go_enter Tryd.func65, Tryd.ntmps65
  go_wp2_with fail
  go_ret
  exact ⟨rfl, rfl⟩
theorem mask_nil (w : World) : Calls Tryd.prog 80 #[.pointer none] w fun e w' => e = .returned (.int .u64 0) ∧ w = w' := by
  go_enter Tryd.func80, Tryd.ntmps80
  go_wp2_with fail
  go_ret
  exact ⟨rfl, rfl⟩
theorem rnd_zero (f : Int) : rnd 0 f = none := by
  unfold rnd
  split
  · rename_i h
    obtain ⟨n, rfl⟩ := Int.eq_ofNat_of_zero_le h.1
    have := rnd_none (m := 0) (f := n) rfl
    unfold rnd at this
    rwa [if_pos h] at this
  · rfl
theorem first_nil (f : Int) (w : World) (t : Tab w) :
    Calls Tryd.prog 58 #[.pointer none, .int .i64 f] w fun e w' => e = .returned (.tuple #[.int .i64 0, .bool false]) ∧ w = w' := by
  have M := Lib.hid (mask_nil w)
  have C := round_is 0 f 0 false w (by decide) t (by rw [rnd_zero]; rfl) (by rw [rnd_zero]; rfl)
  have C := Lib.hid C
  clear t
  go_enter Tryd.func58, Tryd.ntmps58
  go_wp2_with fail
  refine M.out.mono ?_
  rintro _ w1 ⟨rfl, rfl⟩
  go_wp2_with fail
  refine C.out.mono ?_
  rintro _ w1 ⟨rfl, rfl⟩
  go_wp2_with fail
  go_ret2
  exact ⟨rfl, rfl⟩
end Go.Proofs.YtjkhgpdhhnfmlaaDoor

/- A ring in memory against the document's: slots, numbers, lengths, sets. Nothing of the program's functions is named here. -/
namespace Go.Proofs.YtjkhgpdhhnfmlaaDoor
open Go.RowKit MK
open RG

/-- what each slot of a ring holds. -/
def LR (R : List La) : Nat → List Du := fun k => listR R (k : Int)
theorem mem_listR (R : List La) (s : Int) (d : Du) : d ∈ listR R s ↔ ⟨s, d⟩ ∈ R := by
  unfold listR
  rw [(sort_perm _).mem_iff]
  unfold inSlot
  rw [List.mem_map]
  constructor
  · rintro ⟨x, hx, rfl⟩
    rw [List.mem_filter, decide_eq_true_eq] at hx
    obtain ⟨h1, h2⟩ := hx
    subst h2
    exact h1
  · intro h
    exact ⟨⟨s, d⟩, List.mem_filter.2 ⟨h, by simp⟩, rfl⟩
theorem has_slots {R : List La} (g : RG.Good R) (i : Int) : (∃ k, k < 64 ∧ ∃ x ∈ LR R k, x.id = i) ↔ hasId R i = true := by
  rw [hasId_iff]
  unfold ids
  rw [List.mem_map]
  constructor
  · rintro ⟨k, _, x, hx, rfl⟩
    exact ⟨_, (mem_listR R k x).1 hx, rfl⟩
  · rintro ⟨⟨s, d⟩, hx, rfl⟩
    have hs := g.slot _ hx
    simp only at hs
    obtain ⟨k, rfl⟩ := Int.eq_ofNat_of_zero_le hs.1
    exact ⟨k, by omega, d, (mem_listR R k d).2 hx, rfl⟩
theorem LR_put (R : List La) (s : Nat) (d : Du) (k : Nat) : upd (LR R) s (put d (LR R s)) k = LR (R ++ [⟨(s : Int), d⟩]) k := by
  unfold LR
  by_cases h : k = s
  · subst h
    rw [upd_same]
    exact listR_put.symm
  · rw [upd_other _ _ _ h]
    unfold listR
    rw [inSlot_put, if_neg (by omega)]
theorem LR_take (R : List La) (s : Nat) (k : Nat) : upd (LR R) s [] k = LR (takeR R (s : Int)) k := by
  unfold LR
  by_cases h : k = s
  · subst h
    rw [upd_same, listR_take, if_pos rfl]
  · rw [upd_other _ _ _ h, listR_take, if_neg (by omega)]
theorem listR_srt (R : List La) (s : Int) : Srt (listR R s) := sort_srt _
theorem listR_len (R : List La) (s : Int) : (listR R s).length ≤ R.length := by
  unfold listR inSlot
  rw [sort_len, List.length_map]
  exact List.length_filter_le _ _
/-- a number lies in one slot alone, once. -/
theorem good_once {R : List La} (g : RG.Good R) {s s' : Int} {d d' : Du} (h : ⟨s, d⟩ ∈ R) (h' : ⟨s', d'⟩ ∈ R) (e : d.id = d'.id) : s = s' ∧ d = d' := by
  obtain ⟨j, hj, ej⟩ := List.mem_iff_getElem.1 h
  obtain ⟨k, hk, ek⟩ := List.mem_iff_getElem.1 h'
  have : j = k := g.inj hj hk (by rw [ej, ek]; exact e)
  subst this
  rw [ej] at ek
  injection ek with e1 e2
  exact ⟨e1, e2⟩
theorem nodup_listR {R : List La} (g : RG.Good R) (s : Int) : ((listR R s).map (·.id)).Nodup := by
  have h1 : ((inSlot R s).map (·.id)).Nodup := by
    unfold inSlot
    rw [List.map_map]
    have := g.once
    unfold ids at this
    exact this.sublist ((List.filter_sublist).map _)
  exact (((sort_perm _).map _).nodup_iff).2 h1
theorem LR_drop {R : List La} (g : RG.Good R) {s j : Nat} {i : Int} (hj : j < (LR R s).length) (e : (LR R s)[j].id = i) (k : Nat) : upd (LR R) s ((LR R s).take j ++ (LR R s).drop (j + 1)) k = LR (dropR R i) k := by
  have hm : ⟨(s : Int), (LR R s)[j]⟩ ∈ R := (mem_listR R s _).1 (List.getElem_mem hj)
  have key : ∀ k : Nat, LR (dropR R i) k = (LR R k).filter (fun d => decide (d.id ≠ i)) := fun k => listR_drop R i k
  rw [key k]
  by_cases h : k = s
  · subst h
    rw [upd_same]
    have hn := nodup_listR g (k : Int)
    have hn' : ∀ a b, (ha : a < (LR R k).length) → (hb : b < (LR R k).length) → ((LR R k)[a]).id = ((LR R k)[b]).id → a = b := by
      intro a b ha hb hab
      unfold List.Nodup at hn
      rw [List.pairwise_map, List.pairwise_iff_getElem] at hn
      rcases Nat.lt_trichotomy a b with q | q | q
      · exact absurd hab (hn a b ha hb q)
      · exact q
      · exact absurd hab.symm (hn b a hb ha q)
    have e1 : ((LR R k).take j).filter (fun d => decide (d.id ≠ i)) = (LR R k).take j := by
      rw [List.filter_eq_self]
      intro x hx
      obtain ⟨a, ha, rfl⟩ := List.mem_take_iff_getElem.1 hx
      rw [decide_eq_true_eq]
      intro q
      have := hn' a j (by omega) hj (by rw [q, e])
      omega
    have e2 : ((LR R k).drop (j + 1)).filter (fun d => decide (d.id ≠ i)) = (LR R k).drop (j + 1) := by
      rw [List.filter_eq_self]
      intro x hx
      obtain ⟨a, ha, rfl⟩ := List.mem_drop_iff_getElem.1 hx
      rw [decide_eq_true_eq]
      intro q
      have := hn' (j + 1 + a) j (by omega) hj (by rw [q, e])
      omega
    have e3 : LR R k = (LR R k).take j ++ (LR R k)[j] :: (LR R k).drop (j + 1) := by rw [← List.drop_eq_getElem_cons hj, List.take_append_drop]
    conv => rhs; rw [e3]
    rw [List.filter_append, List.filter_cons, e1, e2]
    simp [e]
  · rw [upd_other _ _ _ h, eq_comm, List.filter_eq_self]
    intro x hx
    rw [decide_eq_true_eq]
    intro q
    have hx' : ⟨(k : Int), x⟩ ∈ R := (mem_listR R k x).1 hx
    have := (good_once g hx' hm (by rw [q, e])).1
    omega
theorem dropO_slot {R : List La} (g : RG.Good R) {s j : Nat} {i : Int} (hj : j < (LR R s).length) (e : (LR R s)[j].id = i) : dropO R i = some (s : Int) := by
  have hm : ⟨(s : Int), (LR R s)[j]⟩ ∈ R := (mem_listR R s _).1 (List.getElem_mem hj)
  obtain ⟨k, hk, ek⟩ := List.mem_iff_getElem.1 hm
  have ei : R[k].d.id = i := by rw [ek]; exact e
  rw [← ei, dropO_at hk (fun a ha c => by have := g.inj (by omega) hk c; omega), ek]
/-- the lengths of the slots. -/
def cnt (R : List La) : Nat → Nat
  | 0 => 0
  | k + 1 => cnt R k + (R.filter (fun x => decide (x.s = (k : Int)))).length
theorem tot_cnt (R : List La) (k : Nat) : tot (LR R) k = cnt R k := by
  induction k with
  | zero => rfl
  | succ k ih =>
    show tot (LR R) k + (listR R k).length = cnt R k + _
    rw [ih]
    unfold listR inSlot
    rw [sort_len, List.length_map]
theorem cnt_is (R : List La) (k : Nat) : cnt R k = (R.filter (fun x => decide (0 ≤ x.s ∧ x.s < (k : Int)))).length := by
  induction k with
  | zero =>
    rw [List.filter_eq_nil_iff.2]
    · rfl
    · intro x _; simp
  | succ k ih =>
    show cnt R k + _ = _
    rw [ih]
    clear ih
    induction R with
    | nil => rfl
    | cons x R ih =>
      simp only [List.filter_cons]
      by_cases h1 : 0 ≤ x.s ∧ x.s < (k : Int)
      · have h2 : ¬ x.s = (k : Int) := by omega
        have h3 : 0 ≤ x.s ∧ x.s < ((k + 1 : Nat) : Int) := by omega
        rw [if_pos (by simpa using h1), if_neg (by simpa using h2), if_pos (by simpa using h3), List.length_cons, List.length_cons, ← ih]
        omega
      · by_cases h2 : x.s = (k : Int)
        · have h3 : 0 ≤ x.s ∧ x.s < ((k + 1 : Nat) : Int) := by omega
          rw [if_neg (by simpa using h1), if_pos (by simpa using h2), if_pos (by simpa using h3), List.length_cons, List.length_cons, ← ih]
          omega
        · have h3 : ¬ (0 ≤ x.s ∧ x.s < ((k + 1 : Nat) : Int)) := by omega
          rw [if_neg (by simpa using h1), if_neg (by simpa using h2), if_neg (by simpa using h3), ← ih]
theorem tot_is {R : List La} (g : RG.Good R) : tot (LR R) 64 = R.length := by
  rw [tot_cnt, cnt_is, List.filter_eq_self.2]
  intro x hx
  have := g.slot x hx
  simpa using this
theorem msk_bit (L : Nat → List Du) (n k : Nat) (hk : k < 64) (hn : n ≤ 64) : (msk L n).testBit k = (decide (k < n) && decide (0 < (L k).length)) := by
  induction n with
  | zero => simp [msk]
  | succ n ih =>
    by_cases h : 0 < (L n).length
    · rw [msk_yes h, wth_bit _ _ _ hk, ih (by omega)]
      by_cases e : n = k
      · subst e; simp [h]
      · have e' : ¬ ((n : Int) = (k : Int)) := by omega
        have e2 : decide (k < n + 1) = decide (k < n) := by
          rw [decide_eq_decide]; omega
        simp [e', e2]
    · rw [msk_no h, ih (by omega)]
      by_cases e : n = k
      · subst e; simp [h]
      · have e2 : decide (k < n + 1) = decide (k < n) := by
          rw [decide_eq_decide]; omega
        rw [e2]
theorem mskR_bit (R : List La) (k : Nat) (hk : k < 64) : (msk (LR R) 64).testBit k = decide ((k : Int) ∈ R.map (·.s)) := by
  rw [msk_bit _ _ _ hk (Nat.le_refl _)]
  simp only [hk, decide_true, Bool.true_and]
  rw [decide_eq_decide, List.mem_map]
  constructor
  · intro h
    obtain ⟨d, hd⟩ := List.exists_mem_of_length_pos h
    exact ⟨_, (mem_listR R k d).1 hd, rfl⟩
  · rintro ⟨⟨s, d⟩, hx, e⟩
    simp only at e
    subst e
    exact List.length_pos_of_mem ((mem_listR R k d).2 hx)
theorem msk_ofL (R : List La) : msk (LR R) 64 = ofL (R.map (·.s)) :=
  ext64 (msk_lt _ _) (ofL_lt _) fun k hk => by rw [mskR_bit R k hk, ofL_bit _ _ hk]
end Go.Proofs.YtjkhgpdhhnfmlaaDoor

/- The contracts of Mod, Less, cmp.Compare, cmp.Or, ring.order at this program. -/
namespace Go.Proofs.YtjkhgpdhhnfmlaaDoor
open Go.RowKit MK
open RG (Du)
set_option linter.unusedSimpArgs false

/-- a timer as a value. -/
def dv (d : Du) : Value := .agg #[.int .i64 d.id, .int .u64 (d.t : Nat)]
theorem mod_any (n : Int) (m : Nat) (w : World) (h0 : 0 < m) (hm : m ≤ 64) :
    Calls Tryd.prog 7 #[.int .i64 n, .int .i64 (m : Int)] w fun e w' => e = .returned (.int .i64 (n % (m : Int))) ∧ w = w' := by
  have hr : n.tmod (m : Int) = n % (m : Int) ∨ (n.tmod (m : Int) < 0 ∧ n.tmod (m : Int) + m = n % (m : Int)) := by
    have ha : ∀ k : Nat, 0 < k → ∀ z : Int, z.tmod (k : Int) = z % (k : Int) ∨ (z.tmod (k : Int) < 0 ∧ z.tmod (k : Int) + k = z % (k : Int)) := by
      intro k hk z
      by_cases hz : 0 ≤ z
      · left; exact Int.tmod_eq_emod_of_nonneg hz
      · rw [Int.tmod_eq_emod]
        have hkz : (k : Int) ≠ 0 := by omega
        have h3 := Int.emod_nonneg z hkz
        have h4 := Int.emod_lt_of_pos z (by omega : (0 : Int) < k)
        by_cases hd : (k : Int) ∣ z
        · left
          rw [if_pos (Or.inr hd)]; omega
        · right
          rw [if_neg (by intro h; rcases h with h | h; exact hz h; exact hd h)]
          have : (k : Int).natAbs = k := by simp
          omega
    exact ha m h0 n
  have h3 := Int.emod_nonneg n (show (m : Int) ≠ 0 by omega)
  have h4 := Int.emod_lt_of_pos n (show (0 : Int) < m by omega)
  have hne : ¬ (m : Int) = 0 := by omega
  have hn1 : ¬ (m : Int) = -1 := by omega
  obtain ⟨r, hre⟩ : ∃ r, n.tmod (m : Int) = r := ⟨_, rfl⟩
  obtain ⟨q, hq⟩ : ∃ q, n % (m : Int) = q := ⟨_, rfl⟩
  rw [hq] at hr h3 h4 ⊢
  rw [hre] at hr
  have HQ := Lib.hid hq
  clear hq
  rcases hr with rfl | ⟨hr1, hr2⟩
  · have hlt : decide (r < 0) = false := by simp; omega
    have hge : ¬ r < 0 := by omega
    go_enter Tryd.func7, Tryd.ntmps7
    go_wp2_with fail
    go_ret
    exact ⟨rfl, rfl⟩
  · have HR := Lib.hid hr2
    clear h4
    have hw : wrap64 (r + (m : Int)) = r + (m : Int) := by unfold wrap64; omega
    go_enter Tryd.func7, Tryd.ntmps7
    go_wp2_with fail
    go_ret
    exact ⟨by rw [← HR.out]; rfl, rfl⟩
set_option maxRecDepth 100000 in
theorem less_any (a b : Du) (w : World) :
    Calls Tryd.prog 55 #[dv a, dv b] w fun e w' => e = .returned (.bool (RG.less a b)) ∧ Grw w w' := by
  obtain ⟨ai, a2⟩ := a
  obtain ⟨bi, b2⟩ := b
  obtain ⟨r, hr⟩ : ∃ r, RG.less ⟨ai, a2⟩ ⟨bi, b2⟩ = r := ⟨_, rfl⟩
  rw [hr]
  unfold RG.less at hr
  simp only at hr
  unfold dv
  by_cases h1 : a2 < b2
  · have hlt : (a2 : Int) < (b2 : Int) := by omega
    have HR : Hid (r = true) := (by rw [← hr]; simp [h1] : r = true)
    clear hr
    go_enter Tryd.func55, Tryd.ntmps55
    go_wp2_with fail
    go_ret
    exact ⟨by rw [HR.out]; rfl, ((Grw.rfl' _).alloc _).alloc _⟩
  · have hlt : ¬ (a2 : Int) < (b2 : Int) := by omega
    by_cases h2 : a2 = b2
    · have he : ((a2 : Int) == (b2 : Int)) = true := by simp [h2]
      by_cases h3 : ai < bi
      · have HR : Hid (r = true) := (by rw [← hr]; simp [h2, h3] : r = true)
        clear hr h2
        go_enter Tryd.func55, Tryd.ntmps55
        go_wp2_with fail
        go_ret
        exact ⟨by rw [HR.out]; rfl, ((Grw.rfl' _).alloc _).alloc _⟩
      · have HR : Hid (r = false) := (by rw [← hr]; simp [h2, h3] : r = false)
        clear hr h2
        go_enter Tryd.func55, Tryd.ntmps55
        go_wp2_with fail
        go_ret
        exact ⟨by rw [HR.out]; rfl, ((Grw.rfl' _).alloc _).alloc _⟩
    · have he : ((a2 : Int) == (b2 : Int)) = false := by simp; omega
      have HR : Hid (r = false) := (by rw [← hr]; simp [h1, h2] : r = false)
      clear hr h2
      go_enter Tryd.func55, Tryd.ntmps55
      go_wp2_with fail
      go_ret
      exact ⟨by rw [HR.out]; rfl, ((Grw.rfl' _).alloc _).alloc _⟩
/-- compare. -/
def cmp (a b : Int) : Int := if a < b then -1 else if b < a then 1 else 0
theorem cmpu_any (a b : Nat) (w : World) : Calls Tryd.prog 71 #[.int .u64 a, .int .u64 b] w fun e w' => e = .returned (.int .i64 (cmp a b)) ∧ w = w' := by
  obtain ⟨r, hr⟩ : ∃ r, cmp a b = r := ⟨_, rfl⟩
  rw [hr]
  unfold cmp at hr
  by_cases h1 : (a : Int) < (b : Int)
  · have HR : Hid (r = -1) := (by rw [← hr]; simp [h1] : r = -1)
    clear hr
    go_enter Tryd.func71, Tryd.ntmps71
    go_wp2
    go_ret
    exact ⟨by rw [HR.out]; rfl, rfl⟩
  · by_cases h2 : (b : Int) < (a : Int)
    · have HR : Hid (r = 1) := (by rw [← hr]; simp [h1, h2] : r = 1)
      clear hr
      go_enter Tryd.func71, Tryd.ntmps71
      go_wp2
      go_ret
      exact ⟨by rw [HR.out]; rfl, rfl⟩
    · have HR : Hid (r = 0) := (by rw [← hr]; simp [h1, h2] : r = 0)
      clear hr
      go_enter Tryd.func71, Tryd.ntmps71
      go_wp2
      go_ret
      exact ⟨by rw [HR.out]; rfl, rfl⟩
theorem cmpi_any (a b : Int) (w : World) : Calls Tryd.prog 72 #[.int .i64 a, .int .i64 b] w fun e w' => e = .returned (.int .i64 (cmp a b)) ∧ w = w' := by
  obtain ⟨r, hr⟩ : ∃ r, cmp a b = r := ⟨_, rfl⟩
  rw [hr]
  unfold cmp at hr
  by_cases h1 : a < b
  · have HR : Hid (r = -1) := (by rw [← hr]; simp [h1] : r = -1)
    clear hr
    go_enter Tryd.func72, Tryd.ntmps72
    go_wp2
    go_ret
    exact ⟨by rw [HR.out]; rfl, rfl⟩
  · by_cases h2 : b < a
    · have HR : Hid (r = 1) := (by rw [← hr]; simp [h1, h2] : r = 1)
      clear hr
      go_enter Tryd.func72, Tryd.ntmps72
      go_wp2
      go_ret
      exact ⟨by rw [HR.out]; rfl, rfl⟩
    · have HR : Hid (r = 0) := (by rw [← hr]; simp [h1, h2] : r = 0)
      clear hr
      go_enter Tryd.func72, Tryd.ntmps72
      go_wp2
      go_ret
      exact ⟨by rw [HR.out]; rfl, rfl⟩
/-- the first that is not zero. -/
def or2 (x y : Int) : Int := if x = 0 then y else x
theorem or_any (x y : Int) (g : Nat) (w : World) (c0 : w.cell? ⟨g, 0, none⟩ = some (.int .i64 x)) (c1 : w.cell? ⟨g, 1, none⟩ = some (.int .i64 y)) :
    Calls Tryd.prog 70 #[.slice (some ⟨g, 0, none⟩) 2 2] w fun e w' => e = .returned (.int .i64 (or2 x y)) ∧ w = w' := by
  obtain ⟨r, hr⟩ : ∃ r, or2 x y = r := ⟨_, rfl⟩
  rw [hr]
  unfold or2 at hr
  by_cases h1 : x = 0
  · rw [if_pos h1] at hr
    subst h1
    by_cases h2 : y = 0
    · subst h2
      subst hr
      go_enter Tryd.func70, Tryd.ntmps70
      go_wp2_with fail
      refine wp_loop_rounds 3 ?_
      rw [rounds_succ]
      go_wp2_with fail
      rw [rounds_succ]
      go_wp2_with fail
      rw [rounds_succ]
      go_wp2_with fail
      go_ret
      exact ⟨rfl, rfl⟩
    · have h3 : (y != 0) = true := by simp [h2]
      have HR := Lib.hid hr
      clear hr h2
      go_enter Tryd.func70, Tryd.ntmps70
      go_wp2_with fail
      refine wp_loop_rounds 2 ?_
      rw [rounds_succ]
      go_wp2_with fail
      rw [rounds_succ]
      go_wp2_with fail
      go_ret
      exact ⟨by rw [← HR.out]; rfl, rfl⟩
  · rw [if_neg h1] at hr
    have h3 : (x != 0) = true := by simp [h1]
    have HR := Lib.hid hr
    clear hr h1
    go_enter Tryd.func70, Tryd.ntmps70
    go_wp2_with fail
    refine wp_loop_rounds 1 ?_
    rw [rounds_succ]
    go_wp2_with fail
    go_ret
    exact ⟨by rw [← HR.out]; rfl, rfl⟩
/-- the order of two timers. -/
def ord (a b : Du) : Int := or2 (cmp a.t b.t) (cmp a.id b.id)
theorem ord_neg (a b : Du) : decide (ord a b < 0) = RG.less a b := by
  rw [Bool.eq_iff_iff, RG.less_iff, decide_eq_true_eq]
  unfold ord or2 cmp
  by_cases h1 : a.t < b.t
  · simp [h1]
  · by_cases h2 : b.t < a.t
    · have e : ¬ a.t = b.t := by omega
      simp [h1, h2, e]
    · have e : a.t = b.t := by omega
      simp only [e, Nat.lt_irrefl, Int.lt_irrefl, if_false, if_true, false_or, true_and]
      split
      · simp; assumption
      · split <;> simp_all
theorem cmpu_is (a b : Nat) (c : Int) (h : cmp a b = c) (w : World) : Calls Tryd.prog 71 #[.int .u64 a, .int .u64 b] w fun e w' => e = .returned (.int .i64 c) ∧ w = w' := by rw [← h]; exact cmpu_any a b w
theorem cmpi_is (a b : Int) (c : Int) (h : cmp a b = c) (w : World) : Calls Tryd.prog 72 #[.int .i64 a, .int .i64 b] w fun e w' => e = .returned (.int .i64 c) ∧ w = w' := by rw [← h]; exact cmpi_any a b w
theorem or_is (x y z : Int) (h : or2 x y = z) (g : Nat) (w : World) (c0 : w.cell? ⟨g, 0, none⟩ = some (.int .i64 x)) (c1 : w.cell? ⟨g, 1, none⟩ = some (.int .i64 y)) :
    Calls Tryd.prog 70 #[.slice (some ⟨g, 0, none⟩) 2 2] w fun e w' => e = .returned (.int .i64 z) ∧ w = w' := by rw [← h]; exact or_any x y g w c0 c1
set_option maxHeartbeats 1000000 in
set_option maxRecDepth 100000 in
theorem order_any (a b : Du) (w : World) :
    Calls Tryd.prog 76 #[dv a, dv b] w fun e w' => e = .returned (.int .i64 (ord a b)) ∧ Grw w w' := by
  obtain ⟨r, hr⟩ : ∃ r, ord a b = r := ⟨_, rfl⟩
  rw [hr]
  unfold ord at hr
  obtain ⟨ai, a2⟩ := a
  obtain ⟨bi, b2⟩ := b
  simp only at hr
  unfold dv
  simp only
  obtain ⟨x, hx⟩ : ∃ x, cmp a2 b2 = x := ⟨_, rfl⟩
  obtain ⟨y, hy⟩ : ∃ y, cmp ai bi = y := ⟨_, rfl⟩
  rw [hx, hy] at hr
  have C1 := Lib.hid (fun w => cmpu_is a2 b2 x hx w)
  have C2 := Lib.hid (fun w => cmpi_is ai bi y hy w)
  have C3 := Lib.hid (fun g w => or_is x y r hr g w)
  clear hx hy hr
  go_enter Tryd.func76, Tryd.ntmps76
  go_wp2_with fail
  go_region_held3 (fun u => u.cell? ⟨w.heap.size, 0, none⟩ = some (.int .i64 ai) ∧ u.cell? ⟨w.heap.size, 1, none⟩ = some (.int .u64 a2) ∧ u.cell? ⟨w.heap.size + 1, 0, none⟩ = some (.int .i64 bi) ∧ u.cell? ⟨w.heap.size + 1, 1, none⟩ = some (.int .u64 b2)) (go_keep)
    (first | (go_at_call 71; refine (C1.out _).mono ?_; rintro _ w1 ⟨rfl, rfl⟩) | (go_at_call 72; refine (C2.out _).mono ?_; rintro _ w1 ⟨rfl, rfl⟩) | (go_at_call 70; refine (C3.out _ _ (by simp [go_sem]) (by simp [go_sem])).mono ?_; rintro _ w1 ⟨rfl, rfl⟩))
  go_wp2_with fail
  go_ret
  exact ⟨rfl, ((((Grw.rfl' _).alloc _).alloc _).drew).alloc _⟩
end Go.Proofs.YtjkhgpdhhnfmlaaDoor
