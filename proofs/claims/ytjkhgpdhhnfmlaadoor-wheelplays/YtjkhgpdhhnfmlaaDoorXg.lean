/- The contract of slices.Delete of the first ones of a row, at this program. -/
import Derived.Test.YtjkhgpdhhnfmlaaDoorRb
import Derived.Test.YtjkhgpdhhnfmlaaDoorXc
namespace Go.Proofs.YtjkhgpdhhnfmlaaDoor
open Go.RowKit MK
open RG (Du)
set_option linter.unusedSimpArgs false

theorem zeros_one (q : Nat) : ∀ v ∈ (Builtin.zeroCells (Value.agg #[.int .i64 0, .int .u64 0]).cells q).toList, v.oneCell' = true := by
  intro v hv
  simp only [Builtin.zeroCells, Value.cells, Array.toList_map, List.mem_map] at hv
  obtain ⟨i, _, rfl⟩ := hv
  have : i % 2 = 0 ∨ i % 2 = 1 := by omega
  rcases this with e | e <;> simp [e] <;> rfl
theorem zeros_len (q : Nat) : (Builtin.zeroCells (Value.agg #[.int .i64 0, .int .u64 0]).cells q).toList.length = q * 2 := by
  rw [Array.length_toList, size_zeroCells]; rfl
theorem clear_exN (w : World) (g off q c : Nat) (cur : List Value) (hg : w.heap[g]? = some (.cells cur.toArray 42 (0, 0))) (hfit : off + q * 2 ≤ cur.length) (hq : 0 < q) :
    ∃ w' zs, zs.length = q * 2 ∧ (∀ ty, (Builtin.clear_ #[27] ty #[.slice (some ⟨g, off, none⟩) q c]).run Tryd.prog w = .ok (.tuple #[]) w') ∧ Hid (w'.heap[g]? = some (.cells (splice cur off zs).toArray 42 (0, 0))) ∧ Hid (Frm (fun k => k = g) w w') := by
  have hst := run_storeCells_at Tryd.prog g off 42 (Builtin.zeroCells (Value.agg #[.int .i64 0, .int .u64 0]).cells q).toList 0 cur.toArray w hg (by rw [zeros_len]; simpa using hfit) (zeros_one q)
  have hl := zeros_len q
  obtain ⟨zs, hzs⟩ : ∃ zs, (Builtin.zeroCells (Value.agg #[.int .i64 0, .int .u64 0]).cells q).toList = zs := ⟨_, rfl⟩
  rw [hzs] at hst hl
  refine ⟨w.setRow g (cur.take off ++ zs ++ cur.drop (off + zs.length)).toArray, zs, hl, fun ty => ?_, (show _ = _ by simpa [splice] using setRow_heap w g _ _ 42 _ hg), (show Frm _ _ _ from frm_setRow w g _ rfl)⟩
  simp only [Nat.add_zero] at hst
  obtain ⟨r, rfl⟩ : ∃ r, q = r + 1 := ⟨q - 1, by omega⟩
  simp [Builtin.clear_, run_underlying Tryd.underlying27, Tryd.zeroValue42, hzs]
  simpa using congrArg (fun r => r.andThen fun _ w' => Result.ok (Value.tuple #[]) w') hst
theorem front_rows (cur xs : List Value) (q m c : Nat) (hc : cur.length = c * 2) (_hx : cur.take ((q + m) * 2) = xs) (hxl : xs.length = (q + m) * 2) (hn : q + m ≤ c) (z : List Value) (hz : z.length = q * 2) :
    (splice (splice cur 0 (xs.drop (q * 2))) (m * 2) z).take (m * 2) = xs.drop (q * 2) ∧ (splice (splice cur 0 (xs.drop (q * 2))) (m * 2) z).length = c * 2 ∧ (splice cur 0 (xs.drop (q * 2))).length = c * 2 := by
  have l1 : (splice cur 0 (xs.drop (q * 2))).length = c * 2 := by rw [length_splice _ _ _ (by simp; omega), hc]
  have l2 : (splice (splice cur 0 (xs.drop (q * 2))) (m * 2) z).length = c * 2 := by rw [length_splice _ _ _ (by omega), l1]
  refine ⟨?_, l2, l1⟩
  have e0 : (splice (splice cur 0 (xs.drop (q * 2))) (m * 2) z).take (m * 2) = (splice cur 0 (xs.drop (q * 2))).take (m * 2) := by
    show ((splice cur 0 (xs.drop (q * 2))).take (m * 2) ++ _).take _ = _
    rw [List.take_append_of_le_length (by rw [List.length_take, l1]; omega), List.take_take, Nat.min_self]
  rw [e0]
  unfold splice
  rw [List.take_zero, List.nil_append, List.take_left' (by simp; omega)]
theorem delete_none (v : Value) (l : List Du) (w : World) (ho : w.ownsRow 0 42 2 v l.length (cd l)) (hb : l.length ≤ 1000000) :
    Calls Tryd.prog 57 #[v, .int .i64 0, .int .i64 0] w (DelQ v l w) := by
  obtain ⟨ao, cap, rfl, hl⟩ := ownsRow_lies ho
  have HO := Lib.hid ho
  obtain ⟨n, hn⟩ : ∃ n, l.length = n := ⟨_, rfl⟩
  have hcap : n ≤ cap ∧ cap ≤ 9223372036854775807 := by
    rcases ho.2 with ⟨h1, h2⟩ | ⟨g', cap', cur, h1, _, h3, h4, h5, h6, h7⟩
    · injection h1 with _ _ h1; subst h1; omega
    · injection h1 with _ _ h1; subst h1; unfold maxLen at h5; omega
  rw [hn] at ho hb ⊢
  have HN := Lib.hid hn
  obtain ⟨h1, h2⟩ := hcap
  clear ho hl hn
  cases ao with
  | none =>
    go_enter Tryd.func57, Tryd.ntmps57
    go_wp2_with fail
    go_ret
    exact ⟨_, rfl, by rw [HN.out]; have := HO.out; rw [HN.out] at this; exact this, Frm.rfl' _ _, rfl⟩
  | some a =>
    by_cases hz : cap = 0
    · subst hz
      obtain rfl : n = 0 := by omega
      go_enter Tryd.func57, Tryd.ntmps57
      go_wp2_with fail
      go_ret
      exact ⟨_, rfl, by rw [HN.out]; have := HO.out; rw [HN.out] at this; exact this, Frm.rfl' _ _, rfl⟩
    · go_enter Tryd.func57, Tryd.ntmps57
      go_wp2_with fail
      go_ret
      exact ⟨_, rfl, by rw [HN.out]; have := HO.out; rw [HN.out] at this; exact this, Frm.rfl' _ _, rfl⟩
set_option maxHeartbeats 4000000 in
set_option maxRecDepth 100000 in
theorem delete_some (v : Value) (q m : Nat) (l : List Du) (w : World) (ho : w.ownsRow 0 42 2 v l.length (cd l)) (hb : l.length ≤ 1000000) (hp : l.length = q + m) (hq : 0 < q) :
    Calls Tryd.prog 57 #[v, .int .i64 0, .int .i64 q] w (DelQ v (l.drop q) w) := by
  obtain ⟨b, cap, cur, rfl, hblk, hroom, hcap, hsz, htake⟩ : ∃ b cap, ∃ cur : List Value, v = .slice (some ⟨b, 0, none⟩) l.length cap ∧ w.heap[b]? = some (.cells cur.toArray 42 (0, 0)) ∧ l.length ≤ cap ∧ cap ≤ maxLen ∧ cur.length = cap * 2 ∧ cur.take (l.length * 2) = cd l := by
    rcases ho.2 with ⟨_, h2⟩ | ⟨g', cap', cur, h1, _, h3, h4, h5, h6, h7⟩
    · omega
    · exact ⟨g', cap', cur.toList, h1, by simpa using h3, h4, h5, by simpa using h6, by simpa using h7⟩
  have hxl := cd_len l
  rw [hp] at hxl htake hroom hb
  have T := Lib.hid (fun z hz => front_rows cur (cd l) q m cap hsz htake hxl hroom z hz)
  have P := Lib.hid (show cd (l.drop q) = (cd l).drop (q * 2) by rw [cd_drop])
  have PL := Lib.hid (show (l.drop q).length = m by simp; omega)
  have X2 := Lib.hid (cd_one l)
  rw [hp]
  obtain ⟨xs, hxs⟩ : ∃ xs, cd l = xs := ⟨_, rfl⟩
  rw [hxs] at T P X2 hxl htake
  obtain ⟨x2, hx2⟩ : ∃ x2, xs.drop (q * 2) = x2 := ⟨_, rfl⟩
  have X3 : Hid (∀ u ∈ x2, u.oneCell' = true) := (fun u hu => X2.out u (by rw [← hx2] at hu; exact List.mem_of_mem_drop hu) : ∀ u ∈ x2, u.oneCell' = true)
  have X4 : Hid (x2.length = m * 2) := (by rw [← hx2, List.length_drop, hxl]; omega : x2.length = m * 2)
  have X5 : Hid (∀ j u, x2[j]? = some u → w.cell? ((⟨b, q * 2, none⟩ : Addr).add j) = some u) := (fun j u hj => by
    rw [Addr.add_lit]
    rw [← hx2, List.getElem?_drop, ← htake, List.getElem?_take] at hj
    split at hj
    · simp [World.cell?, hblk, hj]
    · exact absurd hj (by simp) : ∀ j u, x2[j]? = some u → w.cell? ((⟨b, q * 2, none⟩ : Addr).add j) = some u)
  rw [hx2] at T P
  have B := Lib.hid hblk
  have CS := Lib.hid hsz
  have hc63 : cap ≤ 9223372036854775807 := by unfold maxLen at hcap; omega
  have hb5 : ¬ ((0 : Int) = (q : Int)) := by omega
  have hb55 : (((0 : Int)) == (q : Int)) = false := by simp; omega
  have hb4 : (q : Int) ≤ (q : Int) + (m : Int) := by omega
  have hb6 : ¬ (cap = 0) := by omega
  have hb7 : ¬ (cap = m) := by omega
  have hpc : m ≤ cap := by omega
  have hqm1 : q + m ≤ cap := by omega
  have hqc : q ≤ cap := by omega
  have M2 : Hid (0 * 2 + x2.length ≤ cur.length) := (by rw [X4.out, CS.out]; omega : 0 * 2 + x2.length ≤ cur.length)
  have M3 : Hid (0 + m ≤ cap) := (by omega : 0 + m ≤ cap)
  have hsub : q + m - m = q := by omega
  clear ho hblk hsz htake hxl hxs hx2 hcap hp
  by_cases hcp : cap = q
  · subst hcp
    obtain rfl : m = 0 := by omega
    have X6 : Hid (∀ j u, x2[j]? = some u → w.cell? ((⟨b, 0, none⟩ : Addr).add j) = some u) := (fun j u hj => by
      have := X4.out
      rw [List.eq_nil_of_length_eq_zero (show x2.length = 0 by omega)] at hj
      cases hj
      done : ∀ j u, x2[j]? = some u → w.cell? ((⟨b, 0, none⟩ : Addr).add j) = some u)
    go_enter Tryd.func57, Tryd.ntmps57
    go_wp2_with fail
    go_region_law (refine step_append_two rfl (.tmp 22) (.tmp 25) rfl b 0 cap (by simp [Act.eval, Act.put]) ⟨b, 0, none⟩ 0 0 (by simp [Act.eval, Act.put]) cur B.out x2 X4.out X6.out X3.out M3.out M2.out ?_; intro w1 H1 F1)
    obtain ⟨w2, zs, hzs, hclr, H2, F2⟩ := clear_exN w1 b 0 cap cap _ H1.out (by rw [length_splice _ _ _ (by have := M2.out; omega)]; have := CS.out; omega) (by omega)
    have TZ := Lib.hid (T.out zs hzs)
    go_wp2_with (simp only [hclr])
    go_ret
    refine ⟨_, rfl, ?_, ?_, rfl⟩
    · rw [PL.out, P.out]
      refine ⟨by rw [← TZ.out.1, List.length_take, TZ.out.2.1]; omega, Or.inr ⟨b, cap, _, rfl, Nat.zero_le _, H2.out, by omega, by unfold maxLen; omega, by simpa using TZ.out.2.1, by simpa using TZ.out.1⟩⟩
    · exact (((Frm.rfl' _ w).drew).trans F1.out (fun k e => Or.inl (by rw [e]; rfl))).trans F2.out (fun k e => Or.inl (by rw [e]; rfl))
  · go_enter Tryd.func57, Tryd.ntmps57
    go_wp2_with fail
    go_region_law (refine step_append_two rfl (.tmp 22) (.tmp 25) rfl b 0 cap (by simp [Act.eval, Act.put]) ⟨b, q * 2, none⟩ m (cap - q) (by simp [Act.eval, Act.put]) cur B.out x2 X4.out X5.out X3.out M3.out M2.out ?_; intro w1 H1 F1)
    obtain ⟨w2, zs, hzs, hclr, H2, F2⟩ := clear_exN w1 b (m * 2) q (cap - m) _ H1.out (by rw [length_splice _ _ _ (by have := M2.out; omega)]; have := CS.out; omega) (by omega)
    have TZ := Lib.hid (T.out zs hzs)
    go_wp2_with (simp only [hclr])
    go_ret
    refine ⟨_, rfl, ?_, ?_, rfl⟩
    · rw [PL.out, P.out]
      refine ⟨by rw [← TZ.out.1, List.length_take, TZ.out.2.1]; omega, Or.inr ⟨b, cap, _, rfl, Nat.zero_le _, H2.out, by omega, by unfold maxLen; omega, by simpa using TZ.out.2.1, by simpa using TZ.out.1⟩⟩
    · exact (((Frm.rfl' _ w).drew).trans F1.out (fun k e => Or.inl (by rw [e]; rfl))).trans F2.out (fun k e => Or.inl (by rw [e]; rfl))
theorem delete_front (v : Value) (q : Nat) (l : List Du) (w : World) (ho : w.ownsRow 0 42 2 v l.length (cd l)) (hb : l.length ≤ 1000000) (hq : q ≤ l.length) :
    Calls Tryd.prog 57 #[v, .int .i64 0, .int .i64 q] w (DelQ v (l.drop q) w) := by
  rcases Nat.eq_zero_or_pos q with rfl | h
  · exact delete_none v l w ho hb
  · exact delete_some v q (l.length - q) l w ho hb (by omega) h
end Go.Proofs.YtjkhgpdhhnfmlaaDoor

/- The contract of wheel.take at this program: what is given away is in no block of the wheel's any more. -/
namespace Go.Proofs.YtjkhgpdhhnfmlaaDoor
open Go.RowKit TM MK
open RG (Du La listR putB putR dropR dropO takeR hasId)
set_option linter.unusedSimpArgs false

/-- Take, told with the block of what is given away. -/
def TakeQ3 (b : Nat) (A : Array Value) (w : World) (l : List Du) (R' : List La) (e : Ending) (w' : World) : Prop :=
  ∃ v A', e = .returned v ∧ RowD w' v l ∧ RingR w' b A' R' ∧ Frm (foot b A) w w' ∧ (∀ q, foot b A' q → foot b A q ∨ w.heap.size ≤ q) ∧ ∀ g, v.ownBlock = some g → ¬ foot b A' g ∧ foot b A g
set_option maxRecDepth 100000 in
theorem take_in3 (b : Nat) (A : Array Value) (R : List La) (s : Nat) (w : World) (h : RingR w b A R) (hs : s < 64) :
    Calls Tryd.prog 82 #[.pointer (some ⟨b, 0, none⟩), .int .i64 s] w (TakeQ3 b A w (listR R (s : Int)) (takeR R (s : Int))) := by
  obtain ⟨v, hv⟩ := h.ring.at hs
  have ho := h.ring.own s v hv
  obtain ⟨ao, cap, rfl, hl⟩ := ownsRow_lies ho
  have hc := h.ring.cells s _ hv
  have hf := h.ring.free s
  have FT : Hid (∀ g, (Value.slice ao (LR R s).length cap).ownBlock = some g → ¬ foot b (A.setIfInBounds s (.slice none 0 0)) g ∧ foot b A g) := (fun g e => ⟨fun c => by
      rcases c with rfl | ⟨k, u, hu, eu⟩
      · exact h.ring.ne s _ hv e
      · rcases set_at hu with ⟨_, rfl⟩ | ⟨hk, hu'⟩
        · cases eu
        · exact hk (h.ring.apart k s u _ g hu' hv eu e), Or.inr ⟨s, _, hv, e⟩⟩ : ∀ g, (Value.slice ao (LR R s).length cap).ownBlock = some g → ¬ foot b (A.setIfInBounds s (.slice none 0 0)) g ∧ foot b A g)
  have U0 := ring_set h.ring (v' := .slice none 0 0) (l := []) hv (Frm.rfl' _ w) (World.ownsRow_nil _ _ _ _) (Or.inr (Or.inl rfl))
  have U := Lib.hid U0
  have RR : Hid (RingR (w.setCell ⟨b, s, none⟩ (.slice none 0 0)) b (A.setIfInBounds s (.slice none 0 0)) (takeR R (s : Int))) := (⟨U0.1.congr (fun k _ => LR_take R s k), h.good.takeR _, Nat.le_trans (takeR_len _ _) h.few⟩ : RingR (w.setCell ⟨b, s, none⟩ (.slice none 0 0)) b (A.setIfInBounds s (.slice none 0 0)) (takeR R (s : Int)))
  have RD := Lib.hid (show RowD (w.setCell ⟨b, s, none⟩ (.slice none 0 0)) (.slice ao (LR R s).length cap) (LR R s) from ⟨ao, cap, rfl, hl.frm (frm_set (F := fun k => k = b) w ⟨b, s, none⟩ _ rfl) (fun a e c => h.ring.ne s _ hv (by rw [e]; exact congrArg some c))⟩)
  have H := Lib.hid (has_yes ⟨b, 0, none⟩ s w hs)
  obtain ⟨n, hn⟩ : ∃ n, (LR R s).length = n := ⟨_, rfl⟩
  rw [hn] at hc RD FT
  have hsi : (s : Int) < 64 := by omega
  clear h ho hl hv hn U0
  go_enter Tryd.func82, Tryd.ntmps82
  go_wp2_with fail
  refine H.out.mono ?_
  rintro _ w1 ⟨rfl, rfl⟩
  go_wp2_with fail
  go_ret
  exact ⟨_, _, rfl, RD.out, RR.out, U.out.2.1, U.out.2.2, FT.out⟩
/-- behind wheel.take: the wheel without them; they, in a block that is not the wheel's. -/
def TakeW (S : Sh) (w : World) (now : Nat) (D : DataW Unit) (R : Nat → List La) (B : List Du) (l : List Du) (e : Ending) (w' : World) : Prop :=
  ∃ v S', e = .returned v ∧ S'.p = S.p ∧ WG w' S' now D R B ∧ Frm (wfoot S) w w' ∧ (∀ q, wfoot S' q → wfoot S q ∨ w.heap.size ≤ q) ∧ RowD w' v l ∧ ∀ g, v.ownBlock = some g → ¬ wfoot S' g
theorem WG.ringTake {w w' : World} {S : Sh} {now : Nat} {D : DataW Unit} {R : Nat → List La} {B : List Du} (h : WG w S now D R B) {k : Nat} (hk : k < 6) {l : List Du} {R' : List La} {e : Ending} (q : TakeQ3 (S.rb k) (S.A k) w l R' e w') : TakeW S w now D (updN R k R') B l e w' := by
  obtain ⟨v, A', he, hrow, hr, hf, ht, hv⟩ := q
  have hs : ∀ j, j ≠ k + 3 → ∀ g, part { S with A := updN S.A k A' } j g → part S j g := by
    intro j hj g hg
    rcases j with _ | _ | _ | m
    · exact hg
    · exact hg
    · exact hg
    · refine ⟨hg.1, ?_⟩
      have := hg.2
      simp only at this
      rwa [updN_other _ _ (by omega)] at this
  have hi : ∀ g, part { S with A := updN S.A k A' } (k + 3) g → part S (k + 3) g ∨ w.heap.size ≤ g := by
    intro g hg
    have := hg.2
    simp only at this
    rw [updN_same] at this
    exact (ht g this).imp (fun e => ⟨hk, e⟩) id
  have hnot : ∀ {i g : Nat}, part S i g → i ≠ k + 3 → ¬ foot (S.rb k) (S.A k) g := fun hp hne hq => hne (h.apart _ _ _ hp (⟨hk, hq⟩ : part S (k + 3) _))
  refine ⟨v, { S with A := updN S.A k A' }, he, rfl, ⟨?_, ?_, ?_, ?_, apart_step h (k + 3) hs hi⟩, hf.mono (fun g hg => ⟨k + 3, hk, hg⟩), foot_step (k + 3) hs hi, hrow, fun g hg c => ?_⟩
  · show w'.heap[S.p]? = _
    rw [hf.block S.p (h.part_lt (i := 0) rfl) (hnot (i := 0) rfl (by omega))]
    exact h.blk
  · exact ownsMap_block h.mp (hf.block S.mb (h.part_lt (i := 1) rfl) (hnot (i := 1) rfl (by omega)))
  · intro j hj
    by_cases e : j = k
    · subst e
      simp only [updN_same]
      exact hr
    · simp only [updN_other _ _ e]
      exact (h.ring j hj).frm hf (fun g hg => hnot (i := j + 3) ⟨hj, hg⟩ (by omega))
  · exact ownsRow_frm h.own hf (fun g hg => hnot (i := 2) hg (by omega))
  · obtain ⟨j, hj⟩ := c
    by_cases e : j = k + 3
    · subst e
      have := hj.2
      simp only at this
      rw [updN_same] at this
      exact (hv g hg).1 this
    · exact hnot (hs j e g hj) e (hv g hg).2
set_option maxHeartbeats 4000000 in
set_option maxRecDepth 100000 in
theorem wtake_in (S : Sh) (now : Nat) (D : DataW Unit) (R : Nat → List La) (B : List Du) (k s : Nat) (w : World) (h : WG w S now D R B) (hk6 : k < 6) (hs : s < 64) :
    Calls Tryd.prog 60 #[.pointer (some ⟨S.p, 0, none⟩), .int .i64 s, .int .i64 k] w (TakeW S w now D (updN R k (takeR (R k) (s : Int))) B (listR (R k) (s : Int))) := by
  have TK := Lib.hid (take_in3 (S.rb k) (S.A k) (R k) s w (h.ring k hk6) hs)
  have ST : Hid (∀ e w', TakeQ3 (S.rb k) (S.A k) w (listR (R k) (s : Int)) (takeR (R k) (s : Int)) e w' → TakeW S w now D (updN R k (takeR (R k) (s : Int))) B (listR (R k) (s : Int)) e w') := (fun e w' q => h.ringTake hk6 q : ∀ e w', TakeQ3 (S.rb k) (S.A k) w (listR (R k) (s : Int)) (takeR (R k) (s : Int)) e w' → TakeW S w now D (updN R k (takeR (R k) (s : Int))) B (listR (R k) (s : Int)) e w')
  have c2 := h.ptr hk6
  have hki : (k : Int) < 6 := by omega
  obtain ⟨Q, hQ⟩ : ∃ Q : Ending → World → Prop, Q = TakeW S w now D (updN R k (takeR (R k) (s : Int))) B (listR (R k) (s : Int)) := ⟨_, rfl⟩
  rw [← hQ]
  have QQ := Lib.hid hQ
  clear h hQ
  go_enter Tryd.func60, Tryd.ntmps60
  go_wp2_with fail
  refine TK.out.mono ?_
  rintro _ w1 ⟨v, A', rfl, hrest⟩
  have F := Lib.hid (ST.out (.returned v) w1 ⟨v, A', rfl, hrest⟩)
  clear hrest c2
  go_wp2_with fail
  rw [QQ.out]
  exact F.out
end Go.Proofs.YtjkhgpdhhnfmlaaDoor

/- The contract of wheel.take beyond the rings, at this program. -/
namespace Go.Proofs.YtjkhgpdhhnfmlaaDoor
open Go.RowKit TM MK
open RG (Du La listR putB putR dropR dropO takeR hasId)
set_option linter.unusedSimpArgs false

theorem top_is (a b : Nat) (t : Int) (w : World) (ha : a < 2 ^ 64) (hb : b < 2 ^ 64) (h : topV (a : Int) (b : Int) = t) :
    Calls Tryd.prog 62 #[.int .u64 a, .int .u64 b] w fun e w' => e = .returned (.int .i64 t) ∧ w = w' := by rw [← h]; exact top_any a b w ⟨by omega, by omega⟩ ⟨by omega, by omega⟩
theorem near_top {now t : Nat} (hn : now < 2 ^ 64) (ht : t < 2 ^ 64) : decide (topV (t : Int) (now : Int) < 6) = decide (VM.lvl now t < 6) := by
  rw [decide_eq_decide]
  rcases lvl_top hn ht with ⟨h1, h2⟩ | ⟨h1, h2⟩ <;> omega
/-- how many of the first ones are near. -/
def nearN (now : Nat) (B : List Du) : Nat := (B.takeWhile (VM.nearP now)).length
theorem nearN_le (now : Nat) (B : List Du) : nearN now B ≤ B.length := (List.takeWhile_sublist _).length_le
theorem nearN_take (now : Nat) (B : List Du) : B.take (nearN now B) = B.takeWhile (VM.nearP now) := by
  unfold nearN
  conv => lhs; arg 2; rw [← List.takeWhile_append_dropWhile (p := VM.nearP now) (l := B)]
  rw [List.take_left' rfl]
theorem nearN_drop (now : Nat) (B : List Du) : B.drop (nearN now B) = B.dropWhile (VM.nearP now) := by
  unfold nearN
  conv => lhs; arg 2; rw [← List.takeWhile_append_dropWhile (p := VM.nearP now) (l := B)]
  rw [List.drop_left' rfl]
theorem nearN_yes {now : Nat} {B : List Du} {i : Nat} (hi : i < nearN now B) : ∃ h : i < B.length, VM.nearP now B[i] = true := by
  have hl := nearN_le now B
  refine ⟨by omega, ?_⟩
  have hm : B[i]'(by omega) ∈ B.takeWhile (VM.nearP now) := by
    rw [← nearN_take]
    exact List.mem_take_iff_getElem.2 ⟨i, by omega, rfl⟩
  have := List.all_takeWhile (p := VM.nearP now) (l := B)
  exact List.all_eq_true.1 this _ hm
theorem nearN_no {now : Nat} {B : List Du} (hi : nearN now B < B.length) : VM.nearP now (B[nearN now B]) = false := by
  have h1 := nearN_drop now B
  rw [List.drop_eq_getElem_cons hi] at h1
  have h2 : (B.dropWhile (VM.nearP now)).head? = some (B[nearN now B]) := by rw [← h1]; rfl
  have := List.head?_dropWhile_not (VM.nearP now) B
  rw [h2] at this
  simpa using this
theorem clone_row {w : World} {ao : Option Addr} {n cap : Nat} {l : List Du} (ho : w.ownsRow 0 42 2 (.slice ao n cap) l.length (cd l)) (q : Nat) : Lies w ao (cd (l.take q)) := by
  obtain ⟨a, c, e, h⟩ := ownsRow_lies ho
  injection e with e1 e2 e3
  subst e1
  rw [cd_take]
  rcases h with h | ⟨b, off, e, hb, hc⟩
  · left; rw [h]; simp
  · refine Or.inr ⟨b, off, e, hb, fun j u hj => hc j u ?_⟩
    rw [List.getElem?_take] at hj
    split at hj
    · exact hj
    · cases hj
theorem clone_lies (ao : Option Addr) (cap : Nat) (l : List Du) (w : World) (hl : Lies w ao (cd l)) (hb : l.length ≤ 1000000) (hz : ao = none → l = [] ∧ cap = 0) :
    Calls Tryd.prog 81 #[.slice ao l.length cap] w (CloneQ l w) := by
  cases ao with
  | none =>
    obtain ⟨rfl, rfl⟩ := hz rfl
    refine (clone_nil w).mono ?_
    rintro _ w' ⟨rfl, rfl⟩
    exact ⟨_, rfl, World.ownsRow_nil _ _ _ _, Grw.rfl' _⟩
  | some a => exact clone_some a cap l w hl hb
set_option maxHeartbeats 4000000 in
set_option maxRecDepth 100000 in
theorem wtake_far (S : Sh) (now : Nat) (D : DataW Unit) (R : Nat → List La) (B : List Du) (w : World) (h : WG w S now D R B) (hn : now < 2 ^ 64) (hB : ∀ d ∈ B, d.t < 2 ^ 64) (hb : B.length ≤ 1000000) :
    Calls Tryd.prog 60 #[.pointer (some ⟨S.p, 0, none⟩), .int .i64 (-1), .int .i64 6] w (TakeW S w now D R (B.dropWhile (VM.nearP now)) (B.takeWhile (VM.nearP now))) := by
  have G := Lib.hid h
  obtain ⟨ao, cap, hbv, hl⟩ := ownsRow_lies h.own
  obtain ⟨n, hN⟩ : ∃ n, B.length = n := ⟨_, rfl⟩
  obtain ⟨m, hm⟩ : ∃ m, nearN now B = m := ⟨_, rfl⟩
  have hmn : m ≤ n := by rw [← hm, ← hN]; exact nearN_le now B
  have hn6 : n ≤ 1000000 := by omega
  have hcap : n ≤ cap ∧ cap ≤ 9223372036854775807 ∧ (ao = none → n = 0 ∧ cap = 0) := by
    have ho := h.own
    rw [hbv] at ho
    rcases ho.2 with ⟨h1, h2⟩ | ⟨g', cap', cur, h1, _, h3, h4, h5, h6, h7⟩
    · injection h1 with h0 _ h1
      subst h1
      exact ⟨by omega, by omega, fun _ => ⟨by omega, rfl⟩⟩
    · injection h1 with h0 _ h1
      subst h1
      unfold maxLen at h5
      exact ⟨by omega, by omega, fun c => by rw [h0] at c; cases c⟩
  obtain ⟨hc1, hc2, hc3⟩ := hcap
  have TP : Hid (∀ i, (hi : i < n) → ∃ b off t tv, ao = some ⟨b, off, none⟩ ∧ w.cell? ⟨b, off + i * 2 + 1, none⟩ = some (.int .u64 (t : Nat)) ∧ (∀ u, Calls Tryd.prog 62 #[.int .u64 (t : Nat), .int .u64 (now : Nat)] u fun e w' => e = .returned (.int .i64 tv) ∧ u = w') ∧ (i < m → decide (tv < 6) = true) ∧ (i = m → decide (tv < 6) = false)) := (fun i hi => by
      obtain ⟨b, off, e, _, c1⟩ := lies_at hl (j := i) (by omega)
      refine ⟨b, off, _, _, e, c1, fun u => top_is _ now _ u (hB _ (List.getElem_mem _)) hn rfl, fun hlt => ?_, fun heq => ?_⟩
      · rw [near_top hn (hB _ (List.getElem_mem _))]
        obtain ⟨h1, h2⟩ := nearN_yes (now := now) (B := B) (i := i) (by omega)
        exact h2
      · rw [near_top hn (hB _ (List.getElem_mem _))]
        subst heq
        have h2 := nearN_no (now := now) (B := B) (by omega)
        simp only [hm] at h2
        exact h2 : ∀ i, (hi : i < n) → ∃ b off t tv, ao = some ⟨b, off, none⟩ ∧ w.cell? ⟨b, off + i * 2 + 1, none⟩ = some (.int .u64 (t : Nat)) ∧ (∀ u, Calls Tryd.prog 62 #[.int .u64 (t : Nat), .int .u64 (now : Nat)] u fun e w' => e = .returned (.int .i64 tv) ∧ u = w') ∧ (i < m → decide (tv < 6) = true) ∧ (i = m → decide (tv < 6) = false))
  have C8 : Hid (∀ u, Grw w u → u.cell? ⟨S.p, 8, none⟩ = some (.slice ao n cap)) := (fun u g => by have := (h.later g).cells.c8; rw [hbv, hN] at this; exact this : ∀ u, Grw w u → u.cell? ⟨S.p, 8, none⟩ = some (.slice ao n cap))
  have C0 : Hid (∀ u, Grw w u → u.cell? ⟨S.p, 0, none⟩ = some (.int .u64 (now : Nat))) := (fun u g => (h.later g).cells.c0 : ∀ u, Grw w u → u.cell? ⟨S.p, 0, none⟩ = some (.int .u64 (now : Nat)))
  have CL : Hid (∀ u, Grw w u → Calls Tryd.prog 81 #[.slice ao m cap] u (CloneQ (B.takeWhile (VM.nearP now)) u)) := (fun u g => by
      have ho := (h.later g).own
      rw [hbv, hN] at ho
      have := clone_lies ao cap (B.take m) u (clone_row (by rw [hN]; exact ho) m) (by rw [List.length_take]; omega) (fun e => by
        obtain ⟨h1, h2⟩ := hc3 e
        rw [List.eq_nil_of_length_eq_zero (show B.length = 0 by omega)]
        exact ⟨by simp, h2⟩)
      rw [List.length_take, show min m B.length = m by omega, ← hm, nearN_take, hm] at this
      exact this : ∀ u, Grw w u → Calls Tryd.prog 81 #[.slice ao m cap] u (CloneQ (B.takeWhile (VM.nearP now)) u))
  have DL : Hid (∀ u, Grw w u → Calls Tryd.prog 57 #[.slice ao n cap, .int .i64 0, .int .i64 m] u (DelQ (.slice ao n cap) (B.dropWhile (VM.nearP now)) u)) := (fun u g => by
      have ho := (h.later g).own
      rw [hbv] at ho
      have := delete_front _ m B u ho (by omega) (by omega)
      rw [← hm, nearN_drop, hN, hm] at this
      exact this : ∀ u, Grw w u → Calls Tryd.prog 57 #[.slice ao n cap, .int .i64 0, .int .i64 m] u (DelQ (.slice ao n cap) (B.dropWhile (VM.nearP now)) u))
  have AF : Hid (∀ (u x : World), Grw w u → Frm (fun q => (Value.slice ao n cap).ownBlock = some q) u x → x.cell? ⟨S.p, 8, none⟩ = some (.slice ao n cap) ∧ x.frozen? ⟨S.p, 8, none⟩ = false) := (fun u x g hf => by
      have hr := h.later g
      have hx : x.heap[S.p]? = some (.cells (wcells S now) 74 (0, 0)) := by
        rw [hf.block S.p (hr.part_lt (i := 0) rfl) (fun e => (fun c => by have := h.apart 2 0 S.p c rfl; omega : S.bv.ownBlock ≠ some S.p) (by rw [hbv, hN]; exact e))]
        exact hr.blk
      rw [hN] at hbv
      exact ⟨by simp [World.cell?, hx, wcells, hbv], by simp [World.frozen?, hx]⟩ : ∀ (u x : World), Grw w u → Frm (fun q => (Value.slice ao n cap).ownBlock = some q) u x → x.cell? ⟨S.p, 8, none⟩ = some (.slice ao n cap) ∧ x.frozen? ⟨S.p, 8, none⟩ = false)
  have NB : Hid ((Value.slice ao n cap).ownBlock = S.bv.ownBlock) := (by rw [hbv, hN] : (Value.slice ao n cap).ownBlock = S.bv.ownBlock)
  have LT : Hid (∀ g, wfoot S g → g < w.heap.size) := (fun g hg => h.lt hg : ∀ g, wfoot S g → g < w.heap.size)
  obtain ⟨Q, hQ⟩ : ∃ Q : Ending → World → Prop, Q = TakeW S w now D R (B.dropWhile (VM.nearP now)) (B.takeWhile (VM.nearP now)) := ⟨_, rfl⟩
  rw [← hQ]
  have QQ := Lib.hid hQ
  have HC3 := Lib.hid hc3
  have hmi : (m : Int) ≤ (n : Int) := by omega
  have hmc : m ≤ cap := by omega
  clear h hn hbv hB hb hl hN hm hc3 hQ
  go_enter Tryd.func60, Tryd.ntmps60
  go_wp2_with fail
  go_loopw [7] (fun u wr => ∃ i : Nat, i ≤ m ∧ u = .int .i64 i ∧ Grw w wr) (fun u _ => m - (intOf u).toNat)
  case atStart => exact ⟨0, Nat.zero_le _, rfl, Grw.rfl' _⟩
  case round =>
    obtain ⟨i, hi, rfl, hg⟩ := hrel
    have GR := Lib.hid hg
    have k8 := gw_cell (C8.out _ hg)
    have k0 := gw_cell (C0.out _ hg)
    clear hg
    by_cases hin : i < n
    · obtain ⟨b, off, t, tv, rfl, hct, hT, hyes, hno⟩ := TP.out i hin
      have k1 := gw_cell (GR.out.cell hct)
      have T := Lib.hid hT
      have hini : decide ((i : Int) < (n : Int)) = true := by simp; omega
      have hini' : decide (i < n) = true := by simp; omega
      have hii : (i : Int) < (n : Int) := by omega
      clear hT hct
      by_cases him : i < m
      · have hd := hyes him
        clear hyes hno
        go_wp2_with fail
        refine wp_region_grown (by kernel_rfl) (by kernel_rfl) ?_
        repeat (go_big_quiet_step (first | (go_at_call 62; exact calls_grown_same (T.out _))))
        refine wpQuiet_nil ?_
        rintro _ ⟨q', rfl⟩
        have GQ := Lib.hid (GR.out.trans q'.h)
        clear k0 k1 k8
        go_wp2_with fail
        go_roundw
        case rel => exact ⟨i + 1, by omega, by go_num, GQ.out⟩
        case measure => simp [intOf]; omega
      · obtain rfl : i = m := by omega
        have hd := hno rfl
        clear hyes hno
        go_wp2_with fail
        refine wp_region_grown (by kernel_rfl) (by kernel_rfl) ?_
        repeat (go_big_quiet_step (first | (go_at_call 62; exact calls_grown_same (T.out _))))
        refine wpQuiet_nil ?_
        rintro _ ⟨q', rfl⟩
        have GQ : Hid (Grw w q'.x) := (GR.out.trans q'.h : Grw w q'.x)
        have c8q := C8.out _ GQ.out
        clear k0 k1 k8
        go_wp2_with fail
        refine (CL.out _ GQ.out).mono ?_
        rintro _ w1 ⟨v1, rfl, hv1, hg1⟩
        have G1 := Lib.hid (GQ.out.trans hg1)
        have c8 := C8.out _ G1.out
        have V1 : Hid (RowD w1 v1 (B.takeWhile (VM.nearP now)) ∧ ∀ g, v1.ownBlock = some g → w.heap.size ≤ g ∧ g < w1.heap.size) := (⟨ownsRow_lies hv1, fun g hg => ⟨Nat.le_trans (Below.size GQ.out) (hv1.lt g hg).1, (hv1.lt g hg).2⟩⟩ : RowD w1 v1 (B.takeWhile (VM.nearP now)) ∧ ∀ g, v1.ownBlock = some g → w.heap.size ≤ g ∧ g < w1.heap.size)
        clear hv1 hg1
        go_wp2_with fail
        refine (DL.out _ G1.out).mono ?_
        rintro _ w2 ⟨v2, rfl, hown, hfrm, hblk⟩
        obtain ⟨ao', cap', rfl, hl'⟩ := ownsRow_lies hown
        have hcc := (AF.out w1 w2 G1.out hfrm).1
        have hcf := (AF.out w1 w2 G1.out hfrm).2
        have U := Lib.hid (WG.beyondSh G.out G1.out (by rw [← NB.out]; exact hfrm) hown (by rw [← NB.out]; exact Or.inl hblk))
        have W := Lib.hid (wfoot_bv (S := S) (hblk.trans NB.out))
        have V2 := Lib.hid ((V1.out.1.frm hfrm (fun k hk c => by have h1 := (V1.out.2 k hk).1; have h2 := LT.out k ⟨2, by show S.bv.ownBlock = some k; rw [← NB.out]; exact c⟩; omega)).frm (frm_set (F := fun k => k = S.p) w2 ⟨S.p, 8, none⟩ (.slice ao' (B.dropWhile (VM.nearP now)).length cap') rfl) (fun k hk c => by have h1 := (V1.out.2 k hk).1; have h2 := LT.out k ⟨0, c⟩; omega))
        clear hown hfrm hblk hl'
        go_wp2_with fail
        rw [QQ.out]
        exact ⟨v1, { S with bv := .slice ao' (B.dropWhile (VM.nearP now)).length cap' }, rfl, rfl, U.out.1, U.out.2.1, U.out.2.2, V2.out, fun g hg c => by have h1 := (V1.out.2 g hg).1; have h2 := LT.out g (W.out g c); omega⟩
    · obtain rfl : i = n := by omega
      obtain rfl : i = m := by omega
      have hini : decide ((i : Int) < (i : Int)) = false := by simp
      cases ao with
      | none =>
        obtain ⟨rfl, rfl⟩ := HC3.out rfl
        go_wp2_with fail
        refine wp_region_grown (by kernel_rfl) (by kernel_rfl) ?_
        repeat (go_big_quiet_step (fail))
        refine wpQuiet_nil ?_
        rintro _ ⟨q', rfl⟩
        have GQ : Hid (Grw w q'.x) := (GR.out.trans q'.h : Grw w q'.x)
        have c8q := C8.out _ GQ.out
        clear k0 k8
        go_wp2_with fail
        refine (CL.out _ GQ.out).mono ?_
        rintro _ w1 ⟨v1, rfl, hv1, hg1⟩
        have G1 := Lib.hid (GQ.out.trans hg1)
        have c8 := C8.out _ G1.out
        have V1 : Hid (RowD w1 v1 (B.takeWhile (VM.nearP now)) ∧ ∀ g, v1.ownBlock = some g → w.heap.size ≤ g ∧ g < w1.heap.size) := (⟨ownsRow_lies hv1, fun g hg => ⟨Nat.le_trans (Below.size GQ.out) (hv1.lt g hg).1, (hv1.lt g hg).2⟩⟩ : RowD w1 v1 (B.takeWhile (VM.nearP now)) ∧ ∀ g, v1.ownBlock = some g → w.heap.size ≤ g ∧ g < w1.heap.size)
        clear hv1 hg1
        go_wp2_with fail
        refine (DL.out _ G1.out).mono ?_
        rintro _ w2 ⟨v2, rfl, hown, hfrm, hblk⟩
        obtain ⟨ao', cap', rfl, hl'⟩ := ownsRow_lies hown
        have hcc := (AF.out w1 w2 G1.out hfrm).1
        have hcf := (AF.out w1 w2 G1.out hfrm).2
        have U := Lib.hid (WG.beyondSh G.out G1.out (by rw [← NB.out]; exact hfrm) hown (by rw [← NB.out]; exact Or.inl hblk))
        have W := Lib.hid (wfoot_bv (S := S) (hblk.trans NB.out))
        have V2 := Lib.hid ((V1.out.1.frm hfrm (fun k hk c => by have h1 := (V1.out.2 k hk).1; have h2 := LT.out k ⟨2, by show S.bv.ownBlock = some k; rw [← NB.out]; exact c⟩; omega)).frm (frm_set (F := fun k => k = S.p) w2 ⟨S.p, 8, none⟩ (.slice ao' (B.dropWhile (VM.nearP now)).length cap') rfl) (fun k hk c => by have h1 := (V1.out.2 k hk).1; have h2 := LT.out k ⟨0, c⟩; omega))
        clear hown hfrm hblk hl'
        go_wp2_with fail
        rw [QQ.out]
        exact ⟨v1, { S with bv := .slice ao' (B.dropWhile (VM.nearP now)).length cap' }, rfl, rfl, U.out.1, U.out.2.1, U.out.2.2, V2.out, fun g hg c => by have h1 := (V1.out.2 g hg).1; have h2 := LT.out g (W.out g c); omega⟩
      | some a =>
        by_cases hz : cap = 0
        · subst hz
          obtain rfl : i = 0 := by omega
          go_wp2_with fail
          refine wp_region_grown (by kernel_rfl) (by kernel_rfl) ?_
          repeat (go_big_quiet_step (fail))
          refine wpQuiet_nil ?_
          rintro _ ⟨q', rfl⟩
          have GQ : Hid (Grw w q'.x) := (GR.out.trans q'.h : Grw w q'.x)
          have c8q := C8.out _ GQ.out
          clear k0 k8
          go_wp2_with fail
          refine (CL.out _ GQ.out).mono ?_
          rintro _ w1 ⟨v1, rfl, hv1, hg1⟩
          have G1 := Lib.hid (GQ.out.trans hg1)
          have c8 := C8.out _ G1.out
          have V1 : Hid (RowD w1 v1 (B.takeWhile (VM.nearP now)) ∧ ∀ g, v1.ownBlock = some g → w.heap.size ≤ g ∧ g < w1.heap.size) := (⟨ownsRow_lies hv1, fun g hg => ⟨Nat.le_trans (Below.size GQ.out) (hv1.lt g hg).1, (hv1.lt g hg).2⟩⟩ : RowD w1 v1 (B.takeWhile (VM.nearP now)) ∧ ∀ g, v1.ownBlock = some g → w.heap.size ≤ g ∧ g < w1.heap.size)
          clear hv1 hg1
          go_wp2_with fail
          refine (DL.out _ G1.out).mono ?_
          rintro _ w2 ⟨v2, rfl, hown, hfrm, hblk⟩
          obtain ⟨ao', cap', rfl, hl'⟩ := ownsRow_lies hown
          have hcc := (AF.out w1 w2 G1.out hfrm).1
          have hcf := (AF.out w1 w2 G1.out hfrm).2
          have U := Lib.hid (WG.beyondSh G.out G1.out (by rw [← NB.out]; exact hfrm) hown (by rw [← NB.out]; exact Or.inl hblk))
          have W := Lib.hid (wfoot_bv (S := S) (hblk.trans NB.out))
          have V2 := Lib.hid ((V1.out.1.frm hfrm (fun k hk c => by have h1 := (V1.out.2 k hk).1; have h2 := LT.out k ⟨2, by show S.bv.ownBlock = some k; rw [← NB.out]; exact c⟩; omega)).frm (frm_set (F := fun k => k = S.p) w2 ⟨S.p, 8, none⟩ (.slice ao' (B.dropWhile (VM.nearP now)).length cap') rfl) (fun k hk c => by have h1 := (V1.out.2 k hk).1; have h2 := LT.out k ⟨0, c⟩; omega))
          clear hown hfrm hblk hl'
          go_wp2_with fail
          rw [QQ.out]
          exact ⟨v1, { S with bv := .slice ao' (B.dropWhile (VM.nearP now)).length cap' }, rfl, rfl, U.out.1, U.out.2.1, U.out.2.2, V2.out, fun g hg c => by have h1 := (V1.out.2 g hg).1; have h2 := LT.out g (W.out g c); omega⟩
        · skip
          go_wp2_with fail
          refine wp_region_grown (by kernel_rfl) (by kernel_rfl) ?_
          repeat (go_big_quiet_step (fail))
          refine wpQuiet_nil ?_
          rintro _ ⟨q', rfl⟩
          have GQ : Hid (Grw w q'.x) := (GR.out.trans q'.h : Grw w q'.x)
          have c8q := C8.out _ GQ.out
          clear k0 k8
          go_wp2_with fail
          refine (CL.out _ GQ.out).mono ?_
          rintro _ w1 ⟨v1, rfl, hv1, hg1⟩
          have G1 := Lib.hid (GQ.out.trans hg1)
          have c8 := C8.out _ G1.out
          have V1 : Hid (RowD w1 v1 (B.takeWhile (VM.nearP now)) ∧ ∀ g, v1.ownBlock = some g → w.heap.size ≤ g ∧ g < w1.heap.size) := (⟨ownsRow_lies hv1, fun g hg => ⟨Nat.le_trans (Below.size GQ.out) (hv1.lt g hg).1, (hv1.lt g hg).2⟩⟩ : RowD w1 v1 (B.takeWhile (VM.nearP now)) ∧ ∀ g, v1.ownBlock = some g → w.heap.size ≤ g ∧ g < w1.heap.size)
          clear hv1 hg1
          go_wp2_with fail
          refine (DL.out _ G1.out).mono ?_
          rintro _ w2 ⟨v2, rfl, hown, hfrm, hblk⟩
          obtain ⟨ao', cap', rfl, hl'⟩ := ownsRow_lies hown
          have hcc := (AF.out w1 w2 G1.out hfrm).1
          have hcf := (AF.out w1 w2 G1.out hfrm).2
          have U := Lib.hid (WG.beyondSh G.out G1.out (by rw [← NB.out]; exact hfrm) hown (by rw [← NB.out]; exact Or.inl hblk))
          have W := Lib.hid (wfoot_bv (S := S) (hblk.trans NB.out))
          have V2 := Lib.hid ((V1.out.1.frm hfrm (fun k hk c => by have h1 := (V1.out.2 k hk).1; have h2 := LT.out k ⟨2, by show S.bv.ownBlock = some k; rw [← NB.out]; exact c⟩; omega)).frm (frm_set (F := fun k => k = S.p) w2 ⟨S.p, 8, none⟩ (.slice ao' (B.dropWhile (VM.nearP now)).length cap') rfl) (fun k hk c => by have h1 := (V1.out.2 k hk).1; have h2 := LT.out k ⟨0, c⟩; omega))
          clear hown hfrm hblk hl'
          go_wp2_with fail
          rw [QQ.out]
          exact ⟨v1, { S with bv := .slice ao' (B.dropWhile (VM.nearP now)).length cap' }, rfl, rfl, U.out.1, U.out.2.1, U.out.2.2, V2.out, fun g hg c => by have h1 := (V1.out.2 g hg).1; have h2 := LT.out g (W.out g c); omega⟩
end Go.Proofs.YtjkhgpdhhnfmlaaDoor
