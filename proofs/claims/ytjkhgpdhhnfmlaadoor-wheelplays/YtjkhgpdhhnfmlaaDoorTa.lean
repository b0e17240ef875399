/- The contracts of the ring's methods at this program, told by the document's list of timers; wakes. -/
import Derived.Test.YtjkhgpdhhnfmlaaDoorRc
import Derived.Test.YtjkhgpdhhnfmlaaDoorRj
namespace Go.Proofs.YtjkhgpdhhnfmlaaDoor
open Go.RowKit MK
open RG (Du La listR putB putR dropR dropO takeR hasId)
set_option linter.unusedSimpArgs false

/-- a ring in memory that holds the timers of R. -/
structure RingR (w : World) (b : Nat) (A : Array Value) (R : List La) : Prop where
  ring : RingL w b A (LR R)
  good : RG.Good R
  few : R.length ≤ 1000
theorem RingR.frm {F : Nat → Prop} {w x : World} {b : Nat} {A : Array Value} {R : List La} (h : RingR w b A R) (g : Frm F w x) (hn : ∀ k, foot b A k → ¬ F k) : RingR x b A R := ⟨h.ring.frm g hn, h.good, h.few⟩
theorem RingR.later {w x : World} {b : Nat} {A : Array Value} {R : List La} (h : RingR w b A R) (g : Grw w x) : RingR x b A R := ⟨h.ring.later g, h.good, h.few⟩
theorem RingR.len {w : World} {b : Nat} {A : Array Value} {R : List La} (h : RingR w b A R) (k : Nat) : (LR R k).length ≤ 1000000 := by
  have h1 := listR_len R k
  have h2 := h.few
  unfold LR
  omega
/-- behind a call that writes the ring. -/
def RQ (b : Nat) (A : Array Value) (w : World) (R : List La) (w' : World) : Prop := ∃ A', RingR w' b A' R ∧ Frm (foot b A) w w' ∧ ∀ q, foot b A' q → foot b A q ∨ w.heap.size ≤ q
theorem rq_of {b : Nat} {A : Array Value} {w w' : World} {L : Nat → List Du} {R : List La} (h : RingQ b A w L w') (e : ∀ k, k < 64 → L k = LR R k) (g : RG.Good R) (f : R.length ≤ 1000) : RQ b A w R w' :=
  let ⟨A', h1, h2⟩ := h; ⟨A', ⟨h1.congr e, g, f⟩, h2⟩
theorem LR_nil (k : Nat) : LR [] k = [] := rfl
theorem newR (w : World) : Calls Tryd.prog 32 #[] w fun e w' => e = .returned (.pointer (some ⟨w.heap.size, 0, none⟩)) ∧ RingR w' w.heap.size (Array.replicate 64 (Value.slice none 0 0)) [] ∧ Grw w w' ∧ w'.heap.size = w.heap.size + 1 :=
  (new_any w).mono fun _ _ ⟨h1, h2, h3, h4⟩ => ⟨h1, ⟨h2.congr (fun k _ => (LR_nil k).symm), RG.Good.nil, Nat.zero_le _⟩, h3, h4⟩
theorem putR_len (R : List La) (i : Int) (d : Du) : (putR R i d).length ≤ R.length + 1 := by
  unfold RG.putR; split
  · simp
  · omega
theorem put_R (b : Nat) (A : Array Value) (R : List La) (i : Int) (d : Du) (w : World) (h : RingR w b A R) (hf : R.length < 1000) :
    Calls Tryd.prog 52 #[.pointer (some ⟨b, 0, none⟩), .int .i64 i, dv d] w fun e w' => e = .returned (.bool (putB R i d)) ∧ RQ b A w (putR R i d) w' := by
  by_cases hs : 0 ≤ i ∧ i < 64
  · obtain ⟨s, rfl⟩ := Int.eq_ofNat_of_zero_le hs.1
    have hs' : s < 64 := by omega
    refine (put_in b A (LR R) s d w h.ring hs' h.len (listR_srt R s)).mono ?_
    rintro e w' (⟨hex, he, hq⟩ | ⟨hno, he, hq⟩)
    · have hh := (has_slots h.good d.id).1 hex
      have hb : putB R (s : Int) d = false := by unfold RG.putB; rw [hh]; simp
      have hp : putR R (s : Int) d = R := by unfold RG.putR; rw [if_neg (by rw [hb]; decide)]
      rw [hb, hp]
      exact ⟨he, rq_of hq (fun _ _ => rfl) h.good h.few⟩
    · have hh : hasId R d.id = false := by
        rcases e : hasId R d.id with _ | _
        · rfl
        · obtain ⟨k, hk, x, hx, ex⟩ := (has_slots h.good d.id).2 e
          exact absurd ex (hno k hk x hx)
      have hb : putB R (s : Int) d = true := by unfold RG.putB RG.slotB; rw [hh]; simp; omega
      have hp : putR R (s : Int) d = R ++ [⟨(s : Int), d⟩] := by unfold RG.putR; rw [if_pos hb]
      rw [hb]
      refine ⟨he, rq_of hq (fun k _ => ?_) (h.good.putR _ _) (Nat.le_trans (putR_len _ _ _) hf)⟩
      rw [hp]; exact LR_put R s d k
  · have hb : putB R i d = false := by unfold RG.putB RG.slotB; simp [hs]
    have hp : putR R i d = R := by unfold RG.putR; rw [if_neg (by rw [hb]; decide)]
    rw [hb, hp]
    exact (put_out b A (LR R) i d w h.ring hs).mono fun e w' ⟨he, hq⟩ => ⟨he, rq_of hq (fun _ _ => rfl) h.good h.few⟩
theorem dropR_len (R : List La) (i : Int) : (dropR R i).length ≤ R.length := by unfold RG.dropR; exact List.length_filter_le _ _
theorem takeR_len (R : List La) (i : Int) : (takeR R i).length ≤ R.length := by unfold RG.takeR; exact List.length_filter_le _ _
theorem drop_R (b : Nat) (A : Array Value) (R : List La) (i : Int) (w : World) (h : RingR w b A R) :
    Calls Tryd.prog 56 #[.pointer (some ⟨b, 0, none⟩), .int .i64 i] w fun e w' => e = .returned (.tuple #[.int .i64 (ov (dropO R i)), .bool (dropO R i).isSome]) ∧ RQ b A w (dropR R i) w' := by
  refine (drop_any b A (LR R) i w h.ring h.len).mono ?_
  rintro e w' (⟨k, j, hj, hk, he, rfl, hq⟩ | ⟨hno, rfl, hq⟩)
  · rw [dropO_slot h.good hj he]
    exact ⟨rfl, rq_of hq (fun q _ => LR_drop h.good hj he q) (h.good.dropR i) (Nat.le_trans (dropR_len _ _) h.few)⟩
  · have hh : hasId R i = false := by
      rcases e : hasId R i with _ | _
      · rfl
      · obtain ⟨k, hk, x, hx, ex⟩ := (has_slots h.good i).2 e
        obtain ⟨j, hj, rfl⟩ := List.mem_iff_getElem.1 hx
        exact absurd ex (hno k hk j hj)
    rw [RG.dropO_no hh, RG.dropR_no hh]
    exact ⟨rfl, rq_of hq (fun _ _ => rfl) h.good h.few⟩
theorem listR_out {R : List La} (g : RG.Good R) {i : Int} (hs : ¬ (0 ≤ i ∧ i < 64)) : listR R i = [] ∧ takeR R i = R := by
  constructor
  · rcases e : listR R i with _ | ⟨d, l⟩
    · rfl
    · have hm : d ∈ listR R i := by rw [e]; exact List.mem_cons_self
      exact absurd (g.slot _ ((mem_listR R i d).1 hm)) hs
  · unfold RG.takeR
    rw [List.filter_eq_self]
    intro x hx
    have := g.slot x hx
    rw [decide_eq_true_eq]
    intro e
    rw [e] at this
    exact hs this
theorem take_R (b : Nat) (A : Array Value) (R : List La) (i : Int) (w : World) (h : RingR w b A R) :
    Calls Tryd.prog 82 #[.pointer (some ⟨b, 0, none⟩), .int .i64 i] w fun e w' => ∃ v, e = .returned v ∧ RowD w' v (listR R i) ∧ RQ b A w (takeR R i) w' := by
  by_cases hs : 0 ≤ i ∧ i < 64
  · obtain ⟨s, rfl⟩ := Int.eq_ofNat_of_zero_le hs.1
    refine (take_in b A (LR R) s w h.ring (by omega)).mono ?_
    rintro e w' ⟨v, rfl, hr, hq⟩
    exact ⟨v, rfl, hr, rq_of hq (fun k _ => LR_take R s k) (h.good.takeR _) (Nat.le_trans (takeR_len _ _) h.few)⟩
  · refine (take_out b A (LR R) i w h.ring hs).mono ?_
    rintro e w' ⟨v, rfl, hr, hq⟩
    rw [(listR_out h.good hs).1, (listR_out h.good hs).2]
    exact ⟨v, rfl, hr, rq_of hq (fun _ _ => rfl) h.good h.few⟩
theorem list_R (b : Nat) (A : Array Value) (R : List La) (i : Int) (w : World) (h : RingR w b A R) :
    Calls Tryd.prog 59 #[.pointer (some ⟨b, 0, none⟩), .int .i64 i] w (CloneQ (listR R i) w) := by
  by_cases hs : 0 ≤ i ∧ i < 64
  · obtain ⟨s, rfl⟩ := Int.eq_ofNat_of_zero_le hs.1
    exact list_in b A (LR R) s w h.ring (by omega) (h.len s)
  · rw [(listR_out h.good hs).1]
    exact list_out b i w hs
theorem len_R (b : Nat) (A : Array Value) (R : List La) (w : World) (h : RingR w b A R) :
    Calls Tryd.prog 65 #[.pointer (some ⟨b, 0, none⟩)] w fun e w' => e = .returned (.int .i64 (R.length : Nat)) ∧ w = w' := by
  have ht := tot_is h.good
  have := len_any b A (LR R) w h.ring (by rw [ht]; have := h.few; omega)
  rw [ht] at this
  exact this
def mR (R : List La) : Nat := ofL (R.map (·.s))
theorem mask_R (b : Nat) (A : Array Value) (R : List La) (w : World) (h : RingR w b A R) :
    Calls Tryd.prog 80 #[.pointer (some ⟨b, 0, none⟩)] w fun e w' => e = .returned (.int .u64 (mR R : Nat)) ∧ w = w' := by
  have := mask_any b A (LR R) w h.ring
  rw [msk_ofL] at this
  exact this
theorem first_R (b : Nat) (A : Array Value) (R : List La) (f : Int) (v : Int) (o : Bool) (w : World) (h : RingR w b A R) (t : Tab w) (h1 : ov (rnd (mR R) f) = v) (h2 : (rnd (mR R) f).isSome = o) :
    Calls Tryd.prog 58 #[.pointer (some ⟨b, 0, none⟩), .int .i64 f] w fun e w' => e = .returned (.tuple #[.int .i64 v, .bool o]) ∧ w = w' := by
  unfold mR at h1 h2
  rw [← msk_ofL] at h1 h2
  exact first_any b A (LR R) f v o w h.ring t h1 h2
/-- a ring of one's own, made since the world w0. -/
def Mine (w0 : World) (b : Nat) (A : Array Value) : Prop := ∀ q, foot b A q → w0.heap.size ≤ q
theorem mine_new (w : World) : Mine w w.heap.size (Array.replicate 64 (Value.slice none 0 0)) := by
  intro q hq
  rcases hq with rfl | ⟨k, v, hk, hv⟩
  · exact Nat.le_refl _
  · rw [nil64 k v hk] at hv; cases hv
theorem RQ.out {w0 w w' : World} {b : Nat} {A : Array Value} {R : List La} (h : RQ b A w R w') (m : Mine w0 b A) (g : Grw w0 w) : ∃ A', RingR w' b A' R ∧ Mine w0 b A' ∧ Grw w0 w' := by
  obtain ⟨A', h1, h2, h3⟩ := h
  refine ⟨A', h1, fun q hq => ?_, h2.grw g m⟩
  rcases h3 q hq with e | e
  · exact m q e
  · exact Nat.le_trans (Below.size g) e
end Go.Proofs.YtjkhgpdhhnfmlaaDoor
