/- The contracts of strings.Cut and of cycle.rounds at this program. -/
import Derived.Test.YtcdfjheklggfhaaDoorXc
namespace Go.Proofs.YtcdfjheklggfhaaDoor
open Go.RowKit SM
set_option linter.unusedSimpArgs false

set_option maxHeartbeats 1000000 in
set_option maxRecDepth 100000 in
theorem scut_none (s : ByteArray) (w : World) (hs : s.size ≤ 9223372036854775807) (h : tl s.data.toList = []) :
    Calls Tryd.prog 23 #[.string s, .string ⟨#[47]⟩] w fun e w' => e = .returned (.tuple #[.string s, .string ⟨#[]⟩, .bool false]) ∧ Grw w w' := by
  have I := Lib.hid (fun w => lcut_none s w hs h)
  clear h
  go_enter Tryd.func23, Tryd.ntmps23
  go_wp2_with fail
  refine (I.out _).mono ?_
  rintro _ w1 ⟨rfl, hw1⟩
  go_wp2_with fail
  go_ret3
  exact ⟨rfl, hw1⟩

set_option maxHeartbeats 1000000 in
set_option maxRecDepth 100000 in
theorem scut_some (s d r : ByteArray) (w : World) (hs : s.size ≤ 9223372036854775807) (h : tl s.data.toList = 47 :: r.data.toList) (hd' : d.data.toList = hd s.data.toList) :
    Calls Tryd.prog 23 #[.string s, .string ⟨#[47]⟩] w fun e w' => e = .returned (.tuple #[.string d, .string r, .bool true]) ∧ Grw w w' := by
  have I := Lib.hid (fun w => lcut_some s d r w hs h hd')
  clear h hd'
  go_enter Tryd.func23, Tryd.ntmps23
  go_wp2_with fail
  refine (I.out _).mono ?_
  rintro _ w1 ⟨rfl, hw1⟩
  go_wp2_with fail
  go_ret3
  exact ⟨rfl, hw1⟩

/-- the rounds. -/
def rndV (d : List UInt8) : Nat := if rndB d then nval d else 0
theorem rnd_no {d : List UInt8} (h : rndB d = false) : rndV d = 0 := by unfold rndV; rw [h]; rfl
theorem rnd_yes {d : List UInt8} (h : rndB d = true) : rndV d = nval d := by unfold rndV; rw [h]; rfl
theorem nval_take_lt7 (l : List UInt8) (k : Nat) (h : ∀ c ∈ l.take k, isD c = true) (hk : k ≤ 7) : nval (l.take k) < 10000000 := by
  have h1 := nval_lt (l.take k) h
  have h2 : (l.take k).length ≤ 7 := Nat.le_trans (List.length_take_le _ _) hk
  have h3 : 10 ^ (l.take k).length ≤ 10 ^ 7 := Nat.pow_le_pow_right (by omega) h2
  omega

set_option maxHeartbeats 1000000 in
set_option maxRecDepth 100000 in
theorem rounds_any (d : ByteArray) (w : World) (hs : d.size ≤ 9223372036854775807) :
    Calls Tryd.prog 24 #[.string d] w fun e w' => e = .returned (.tuple #[.int .i64 (rndV d.data.toList), .bool (rndB d.data.toList)]) ∧ Grw w w' := by
  have hl := Lib.hid (size_len d)
  have ht := Lib.hid (Lib.toList_data d)
  by_cases h0 : d.size = 0
  · have h1 : d.toList = [] := by rw [ht.out]; exact List.eq_nil_of_length_eq_zero (by rw [← hl.out]; exact h0)
    have h1' : d.toList.isEmpty = true := by rw [h1]; rfl
    have h2 : rndB d.data.toList = false := by rw [← ht.out, h1]; rfl
    rw [rnd_no h2, h2]
    clear h0 h2 hl ht
    go_enter Tryd.func24, Tryd.ntmps24
    go_wp2_with fail
    go_ret2
    exact ⟨rfl, Grw.rfl' _⟩
  · have h0' : 0 < d.size := by omega
    have h1 : ¬ d.toList = [] := by rw [ht.out]; intro e; rw [hl.out, e] at h0; exact h0 rfl
    have h2 : d.toList.isEmpty = false := by rw [List.isEmpty_eq_false_iff]; exact h1
    have hh := Lib.hid (head_at d h0')
    by_cases h7 : 7 < d.size
    · have e : rndB d.data.toList = false := by
        rw [Bool.eq_false_iff]; intro g
        have := (rndB_all g).2.1
        rw [← hl.out] at this; omega
      have g : (7 : Int) < d.size := by omega
      rw [rnd_no e, e]
      clear e hl ht h0
      go_enter Tryd.func24, Tryd.ntmps24
      go_wp2_with fail
      go_ret2
      exact ⟨rfl, Grw.rfl' _⟩
    · have g : ¬ (7 : Int) < d.size := by omega
      by_cases h48 : d[0] = 48
      · have e : rndB d.data.toList = false := by
          rw [Bool.eq_false_iff]; intro g
          exact (rndB_all g).2.2.1 (by rw [hh.out, h48])
        have g2 : (d[0].toNat : Int) = 48 := by rw [h48]; rfl
        have g3 : (((d[0].toNat : Nat) : Int) == 48) = true := by simp [g2]
        rw [rnd_no e, e]
        clear e hl ht h0 h48 hh
        go_enter Tryd.func24, Tryd.ntmps24
        go_wp2_with fail
        go_ret2
        exact ⟨rfl, Grw.rfl' _⟩
      · have hne := Lib.hid (show d.data.toList.head? ≠ some 48 by rw [hh.out]; simpa using h48)
        have g2 : ¬ (d[0].toNat : Int) = 48 := by
          intro e; apply h48; apply UInt8.toNat_inj.1; have : (48 : UInt8).toNat = 48 := rfl; omega
        have g3 : (((d[0].toNat : Nat) : Int) == 48) = false := by simpa using g2
        obtain ⟨v, hv⟩ : ∃ v, rndV d.data.toList = v := ⟨_, rfl⟩
        obtain ⟨b, hb⟩ : ∃ b, rndB d.data.toList = b := ⟨_, rfl⟩
        rw [hv, hb]
        have HV := Lib.hid hv
        have HB := Lib.hid hb
        obtain ⟨cap, w2, hconv, hg2, hcell⟩ := conv_bytes d w
        have HC := Lib.hid hcell
        have G : Grw w w2 := hg2
        clear hcell hg2 hv hb h48 hh ht h0
        generalize w.heap.size = bl at *
        go_enter Tryd.func24, Tryd.ntmps24
        go_wp2_with fail
        clear hconv
        go_loop [4, 6, 22] (fun v _ i => ∃ k : Nat, k ≤ d.size ∧ i = .int .i64 k ∧ v = .int .i64 (nval (d.data.toList.take k)) ∧ Hid (∀ c ∈ d.data.toList.take k, isD c = true)) (fun _ _ i => d.size - (intOf i).toNat)
        case atStart => exact ⟨0, Nat.zero_le _, rfl, rfl, Lib.hid (by intro c hc; simp at hc)⟩
        case round =>
          obtain ⟨k, hk, rfl, rfl, HA⟩ := hrel
          by_cases hlt : k < d.size
          · have hc := HC.out k hlt
            have hv7 := nval_take_lt7 d.data.toList k HA.out (by omega)
            have hsn := nval_take_succ d k hlt
            have hgd := getElem_data d k hlt
            rcases hdg : isD d[k] with _ | _
            · have e : rndB d.data.toList = false := by
                rw [Bool.eq_false_iff]; intro g
                have := (rndB_all g).2.2.2 d[k] (by rw [← hgd]; exact List.getElem_mem _)
                rw [hdg] at this; cases this
              have e1 : v = 0 := by rw [← HV.out, rnd_no e]
              have e2 : b = false := by rw [← HB.out, e]
              subst e1 e2
              have hnd : ¬ (48 ≤ d[k].toNat ∧ d[k].toNat ≤ 57) := fun g => by rw [← isD_iff] at g; rw [hdg] at g; cases g
              obtain ⟨c, hcc⟩ : ∃ c : Nat, c = d[k].toNat := ⟨_, rfl⟩
              rw [← hcc] at hc hnd
              generalize nval (d.data.toList.take k) = vv at *
              clear hsn hcc HC HV HB HA hv7 hgd e hdg hne hl
              by_cases hlo : (c : Int) < 48
              · go_wp2_with fail
                exact bodyPost_ret (v := .tuple #[.int .i64 0, .bool false]) (by simp [results, Tryd.results24, go_sem]) rfl ⟨rfl, G⟩
              · have hhi : (57 : Int) < c := by omega
                go_wp2_with fail
                exact bodyPost_ret (v := .tuple #[.int .i64 0, .bool false]) (by simp [results, Tryd.results24, go_sem]) rfl ⟨rfl, G⟩
            · have hdg2 := (isD_iff d[k]).1 hdg
              have HA2 : Hid (∀ c ∈ d.data.toList.take (k + 1), isD c = true) := Lib.hid (by
                rw [List.take_succ_eq_append_getElem (by rw [← size_len]; exact hlt)]
                intro c hc
                rcases List.mem_append.1 hc with hc | hc
                · exact HA.out c hc
                · have : c = d[k] := by rw [← hgd]; simpa using hc
                  rw [this]; exact hdg)
              obtain ⟨c, hcc⟩ : ∃ c : Nat, c = d[k].toNat := ⟨_, rfl⟩
              rw [← hcc] at hc hdg2 hsn
              obtain ⟨vv, hvv⟩ : ∃ vv : Nat, vv = nval (d.data.toList.take k) := ⟨_, rfl⟩
              rw [← hvv] at hv7 hsn ⊢
              have HS := Lib.hid hsn
              obtain ⟨c0, c1⟩ := hdg2
              clear hsn hcc hvv HC HV HB HA hgd hdg hne hl
              go_wp2_with fail
              go_round
              case rel => exact ⟨k + 1, by omega, by go_num, by rw [HS.out]; exact int_eq (by omega), HA2⟩
              case measure => simp [intOf]; omega
          · have e : k = d.size := by omega
            have ea : d.data.toList.take k = d.data.toList := by rw [e, size_len, List.take_length]
            have hA := HA.out
            rw [ea] at hA
            rw [ea]
            have er : rndB d.data.toList = true := rndB_mk (by rw [← hl.out]; omega) (by rw [← hl.out]; omega) hne.out hA
            have e1 : nval d.data.toList = v := by rw [← HV.out, rnd_yes er]
            have e2 : b = true := by rw [← HB.out, er]
            rw [e1]
            subst e2
            clear e ea hA HA er e1 HC HV HB hne hl
            go_wp2_with fail
            exact bodyPost_ret (v := .tuple #[.int .i64 v, .bool true]) (by simp [results, Tryd.results24, go_sem]) rfl ⟨rfl, G⟩
end Go.Proofs.YtcdfjheklggfhaaDoor
