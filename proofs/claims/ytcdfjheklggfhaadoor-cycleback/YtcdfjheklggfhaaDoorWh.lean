/- The contract of the document's own Parse at this program. -/
import Derived.Test.YtcdfjheklggfhaaDoorWf
import Derived.Test.YtcdfjheklggfhaaDoorMe
namespace Go.Proofs.YtcdfjheklggfhaaDoor
open Go.RowKit SM
set_option linter.unusedSimpArgs false
set_option linter.unusedVariables false

def satT (x : Nat) : Nat := min x 1125899906842625

set_option maxHeartbeats 1000000 in
theorem add_any (x n u : Nat) (w : World) (hn : n < 1000000000000000) (hu : 1 ≤ u) (hu2 : u ≤ 604800) :
    Calls Tryd.prog 40 #[.int .u64 (satT x), .int .u64 n, .int .u64 u] w fun e w' => e = .returned (.int .u64 (satT (x + n * u))) ∧ w = w' := by
  have hz : ((u : Int) == 0) = false := by simp; omega
  have hz' : ((u : Int) != 0) = true := by simp; omega
  have hs : satT x ≤ 1125899906842625 := by unfold satT; omega
  have hq := Nat.div_lt_iff_lt_mul (x := 1125899906842624) (y := n) (show 0 < u by omega)
  have hqi : ((1125899906842624 / u : Nat) : Int) = (1125899906842624 : Int) / u := by simp
  have q0 : 0 ≤ (1125899906842624 : Int) / u := Int.ediv_nonneg (by omega) (by omega)
  have q1 : (1125899906842624 : Int) / u ≤ 1125899906842624 := by rw [← hqi]; have := Nat.div_le_self 1125899906842624 u; omega
  have m0 : (n : Int) * u = ((n * u : Nat) : Int) := by simp
  by_cases h : 1125899906842624 / u < n
  · have e : satT (x + n * u) = 1125899906842625 := by have := hq.1 h; unfold satT; omega
    have g : (1125899906842624 : Int) / u < n := by rw [← hqi]; omega
    rw [e]
    clear e hq hqi m0
    generalize satT x = y at *
    go_enter Tryd.func40, Tryd.ntmps40
    go_wp2_with fail
    go_ret
    exact ⟨rfl, rfl⟩
  · have g : ¬ (1125899906842624 : Int) / u < n := by rw [← hqi]; omega
    have hm : n * u ≤ 1125899906842624 := by have : ¬ 1125899906842624 < n * u := fun e => h (hq.2 e); omega
    have e : ((satT (x + n * u) : Nat) : Int) = min ((satT x : Int) + (n : Int) * u) 1125899906842625 := by rw [m0]; unfold satT; omega
    have m1 : 0 ≤ (n : Int) * u := by rw [m0]; omega
    have m2 : (n : Int) * u ≤ 1125899906842624 := by rw [m0]; omega
    rw [e]
    clear e hq hqi m0 hm h
    generalize satT x = y at *
    go_enter Tryd.func40, Tryd.ntmps40
    go_wp2_with fail
    go_ret
    exact ⟨rfl, rfl⟩

theorem bh_at (l : List UInt8) (p : Nat) : bh (l.drop p) = l.drop (endOf l p) := by
  have e := ds_bh (l.drop p)
  have : (ds (l.drop p) ++ bh (l.drop p)).drop (ds (l.drop p)).length = bh (l.drop p) := by simp
  rw [e, List.drop_drop] at this
  exact this.symm
theorem item_pos_no (l : List UInt8) (p : Nat) (hN : numB (ds (l.drop p)) = false) : item (l.drop p) = none := by
  unfold item; split
  · rfl
  · rw [hN]; rfl
theorem item_pos_end (l : List UInt8) (p : Nat) : ¬ endOf l p < l.length → item (l.drop p) = none := by
  intro h
  have : bh (l.drop p) = [] := by rw [bh_at]; exact List.drop_eq_nil_of_le (by omega)
  unfold item; rw [this]
theorem drop_cons (s : ByteArray) (k : Nat) (h : k < s.size) : s.data.toList.drop k = s[k] :: s.data.toList.drop (k + 1) := by
  rw [List.drop_eq_getElem_cons (by rw [← size_len]; exact h)]; rfl
theorem item_pos_hit (s : ByteArray) (p : Nat) (hN : numB (ds (s.data.toList.drop p)) = true) (h : endOf s.data.toList p < s.size) :
    item (s.data.toList.drop p) = some (nval (ds (s.data.toList.drop p)), s[endOf s.data.toList p], s.data.toList.drop (endOf s.data.toList p + 1)) := by
  have : bh (s.data.toList.drop p) = s[endOf s.data.toList p] :: s.data.toList.drop (endOf s.data.toList p + 1) := by rw [bh_at]; exact drop_cons s _ h
  unfold item; rw [this, hN]; rfl
theorem nval_ds_lt (l : List UInt8) (hN : numB (ds l) = true) : nval (ds l) < 1000000000000000 := by
  have h1 := nval_lt (ds l) (ds_all l)
  have h2 := (numB_len hN).2
  have h3 : 10 ^ (ds l).length ≤ 10 ^ 15 := Nat.pow_le_pow_right (by omega) h2
  omega
def stK (r : List UInt8) (x : Nat) : Nat → List UInt8 × Nat × Bool
  | 0 => (r, x, false)
  | j + 1 => stepL (match j with | 0 => 72 | 1 => 77 | _ => 83) (match j with | 0 => 3600 | 1 => 60 | _ => 1) (stK r x j)
theorem idx0 (w : World) : (Instr.index 9 (.string ⟨#[72, 77, 83]⟩) (.int .i64 0)).run Tryd.prog w = .ok (.int .u8 72) w := by kernel_rfl
theorem idx1 (w : World) : (Instr.index 9 (.string ⟨#[72, 77, 83]⟩) (.int .i64 1)).run Tryd.prog w = .ok (.int .u8 77) w := by kernel_rfl
theorem idx2 (w : World) : (Instr.index 9 (.string ⟨#[72, 77, 83]⟩) (.int .i64 2)).run Tryd.prog w = .ok (.int .u8 83) w := by kernel_rfl
theorem end_of (s : ByteArray) (p x x0 : Nat) (r0 : List UInt8) (b : Bool) (hp : p ≤ s.size) (hc : cal s.data.toList = false) (hd : dur s.data.toList = clock x0 (item r0)) (H : stK r0 x0 3 = (s.data.toList.drop p, x, b)) :
    (b = false → pV s.data.toList = 0 ∧ pE s.data.toList = 2) ∧ (b = true → p ≠ s.size → pV s.data.toList = 0 ∧ pE s.data.toList = 2) ∧ (b = true → p = s.size → x ≤ top → pV s.data.toList = x ∧ pE s.data.toList = 0) ∧ (b = true → p = s.size → ¬ x ≤ top → pV s.data.toList = 0 ∧ pE s.data.toList = 3) := by
  have hcs := clock_steps r0 x0
  have e : stepL 83 1 (stepL 77 60 (stepL 72 3600 (r0, x0, false))) = stK r0 x0 3 := rfl
  rw [e, H] at hcs
  rw [hcs] at hd
  refine ⟨?_, ?_, ?_, ?_⟩
  · rintro rfl; rw [fin_false] at hd; exact p_form hc hd
  · rintro rfl hne
    rw [fin_true, if_neg] at hd
    · exact p_form hc hd
    · intro e; have := congrArg List.length e; rw [List.length_drop, ← size_len] at this; simp at this; omega
  · rintro rfl hps hx
    rw [fin_true, if_pos (List.drop_eq_nil_of_le (by rw [← size_len]; omega))] at hd
    exact p_of hc hd hx
  · rintro rfl hps hx
    rw [fin_true, if_pos (List.drop_eq_nil_of_le (by rw [← size_len]; omega))] at hd
    exact p_over hc hd hx
theorem short_form {l : List UInt8} (h : l.length < 2) : cal l = false ∧ dur l = none := by
  rcases l with _ | ⟨c, t⟩
  · exact ⟨rfl, rfl⟩
  · have ht : t = [] := List.eq_nil_of_length_eq_zero (by simp at h; omega)
    subst ht
    by_cases hc : c = 80
    · subst hc; exact ⟨rfl, rfl⟩
    · have hn : ¬ ∃ t, [c] = 80 :: t := by rintro ⟨t, e⟩; exact hc (List.cons.inj e).1
      exact ⟨cal_noP hn, dur_noP hn⟩


set_option maxHeartbeats 8000000 in
set_option maxRecDepth 100000 in
theorem rparse_short (s : ByteArray) (w : World) (hs : s.size ≤ 9223372036854775807) (h : s.size < 2) :
    Calls Tryd.prog 25 #[.string s] w fun e w' => e = .returned (.tuple #[.int .u64 (pV s.data.toList), .int .i64 (pE s.data.toList)]) ∧ Grw w w' := by
  have ev := p_form (short_form (l := s.data.toList) (by rw [← size_len]; exact h)).1 (short_form (l := s.data.toList) (by rw [← size_len]; exact h)).2
  rw [ev.1, ev.2]
  clear ev
  have h' : (s.size : Int) < 2 := by omega
  go_enter Tryd.func25, Tryd.ntmps25
  go_wp2_with fail
  go_ret2
  exact ⟨rfl, Grw.rfl' _⟩
theorem drop0 (s : ByteArray) (h : 0 < s.size) : s.data.toList = s[0] :: s.data.toList.drop 1 := by
  have := drop_cons s 0 h
  simpa using this

set_option maxHeartbeats 8000000 in
set_option maxRecDepth 100000 in
theorem rparse_noP (s : ByteArray) (w : World) (hs : s.size ≤ 9223372036854775807) (h : 2 ≤ s.size) (h1 : s[0] ≠ 80) :
    Calls Tryd.prog 25 #[.string s] w fun e w' => e = .returned (.tuple #[.int .u64 (pV s.data.toList), .int .i64 (pE s.data.toList)]) ∧ Grw w w' := by
  have ev := p_form (cal_noP (l := s.data.toList) (by rintro ⟨t, e⟩; rw [drop0 s (by omega)] at e; exact h1 (List.cons.inj e).1)) (dur_noP (l := s.data.toList) (by rintro ⟨t, e⟩; rw [drop0 s (by omega)] at e; exact h1 (List.cons.inj e).1))
  rw [ev.1, ev.2]
  clear ev
  have h' : ¬ (s.size : Int) < 2 := by omega
  have q : ((s[0].toNat : Int) != 80) = true := une _ 80 h1
  have hz : 0 < s.size := by omega
  clear h1
  go_enter Tryd.func25, Tryd.ntmps25
  go_wp2_with fail
  go_ret2
  exact ⟨rfl, Grw.rfl' _⟩

end Go.Proofs.YtcdfjheklggfhaaDoor
