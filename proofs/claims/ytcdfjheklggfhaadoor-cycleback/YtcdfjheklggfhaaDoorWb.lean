/- The contracts of span.isNumber and span.item at this program. -/
import Derived.Test.YtcdfjheklggfhaaDoorWa
import Derived.Laws.IdiomStrings
import Derived.Deep.QuietTactic
import Derived.BigQuiet
namespace Go.Proofs.YtcdfjheklggfhaaDoor
open Go.RowKit SM

theorem ret_bool {a b : Bool} (h : a = b) : Ending.returned (.bool a) = .returned (.bool b) := by rw [h]
theorem size_len (s : ByteArray) : s.size = s.data.toList.length := by rw [Array.length_toList]; rfl
theorem head_at (s : ByteArray) (h : 0 < s.size) : s.data.toList.head? = some s[0] := by
  rw [List.head?_eq_getElem?, List.getElem?_eq_getElem (by rw [← size_len]; exact h)]; rfl

set_option maxHeartbeats 400000 in
theorem isNumber_any (s : ByteArray) (w : World) (hs : s.size ≤ 9223372036854775807) :
    Calls Tryd.prog 53 #[.string s] w fun e w' => e = .returned (.bool (numB s.data.toList)) ∧ w = w' := by
  have hl := Lib.hid (size_len s)
  have ht := Lib.hid (Lib.toList_data s)
  by_cases h0 : s.size = 0
  · have h1 : s.toList = [] := by rw [ht.out]; exact List.eq_nil_of_length_eq_zero (by rw [← hl.out]; exact h0)
    have h2 : numB s.data.toList = false := by rw [← ht.out, h1]; rfl
    rw [h2]
    clear h0 h2 hl ht
    go_enter Tryd.func53, Tryd.ntmps53
    go_wp2
    go_ret
    exact ⟨rfl, rfl⟩
  · have h0' : 0 < s.size := by omega
    have h1 : ¬ s.toList = [] := by rw [ht.out]; intro e; rw [hl.out, e] at h0; exact h0 rfl
    have h2 : s.toList.isEmpty = false := by rw [List.isEmpty_eq_false_iff]; exact h1
    have hh := Lib.hid (head_at s h0')
    by_cases h15 : 15 < s.size
    · have e : numB s.data.toList = false := by unfold numB; rw [← hl.out]; simp; omega
      have g : (15 : Int) < s.size := by omega
      rw [e]
      clear e hl ht h0
      go_enter Tryd.func53, Tryd.ntmps53
      go_wp2
      go_ret
      exact ⟨rfl, rfl⟩
    · have g : ¬ (15 : Int) < s.size := by omega
      by_cases h48 : s[0] = 48
      · have e : numB s.data.toList = ((s.size : Int) == 1) := by
          unfold numB; rw [← hl.out, hh.out, h48, Bool.eq_iff_iff]; simp; omega
        have g2 : (s[0].toNat : Int) = 48 := by rw [h48]; rfl
        have g3 : (((s[0].toNat : Nat) : Int) != 48) = false := by simp [g2]
        rw [e]
        clear e hl ht h0 h48 hh
        go_enter Tryd.func53, Tryd.ntmps53
        go_wp2
        go_ret
        exact ⟨rfl, rfl⟩
      · have e : numB s.data.toList = true := by
          unfold numB; rw [← hl.out, hh.out]; simp [h48]; omega
        have g2 : ¬ (s[0].toNat : Int) = 48 := by
          intro e; apply h48; apply UInt8.toNat_inj.1; have : (48 : UInt8).toNat = 48 := rfl; omega
        have g3 : (((s[0].toNat : Nat) : Int) != 48) = true := by simpa using g2
        rw [e]
        clear e hl ht h0 h48 hh
        go_enter Tryd.func53, Tryd.ntmps53
        go_wp2
        go_ret
        exact ⟨rfl, rfl⟩

theorem conv_bytes (s : ByteArray) (w : World) : ∃ (cap : Nat) (w2 : World), (convert 9 61 (.string s)).run Tryd.prog w = .ok (.slice (some ⟨w.heap.size, 0, none⟩) s.size cap) w2 ∧ Grw w w2 ∧
    ∀ j (h : j < s.size), w2.cell? ⟨w.heap.size, j, none⟩ = some (.int .u8 (s[j].toNat : Int)) := by
  refine ⟨_, _, run_bytes_of_string w 9 61 5 s Tryd.underlying9 Tryd.underlying61 Tryd.underlying5, ((Grw.rfl' w).drew).alloc _, fun j h => ?_⟩
  have := World.cell?_alloc_mark w.drew (bytesRow s (grownCap w s.size 0 5)) 5 ((bytesRow s (grownCap w s.size 0 5)).size, (bytesRow s (grownCap w s.size 0 5)).size + 1) j
  have e : w.drew.heap.size = w.heap.size := rfl
  rw [e] at this
  rw [this, bytesRow_at s _ j h]
  rfl

theorem itemFacts {s : ByteArray} {n : Nat} {u : UInt8} {r : List UInt8} (h : item s.data.toList = some (n, u, r)) :
    ∃ (b d : ByteArray), (⟨(Lib.trimLeftS s.data.toList [48, 49, 50, 51, 52, 53, 54, 55, 56, 57]).toArray⟩ : ByteArray) = b ∧ b.size ≤ s.size ∧ s.extract 0 (s.size - b.size) = d ∧ d.size ≤ 15 ∧ numB d.data.toList = true ∧ nval d.data.toList = n ∧
      b.data.toList = u :: r ∧ (∀ c ∈ d.data.toList, isD c = true) := by
  obtain ⟨t, hl, hd, hn, hu, rfl⟩ := item_of h
  have h2 : Lib.trimLeftS s.data.toList [48, 49, 50, 51, 52, 53, 54, 55, 56, 57] = u :: r := by
    show s.data.toList.dropWhile isD = _
    rw [hl, List.dropWhile_append_of_pos hd, List.dropWhile_cons, hu]; simp
  have e0 : s.size = t.length + (r.length + 1) := by rw [size_len, hl]; simp
  have e1 : (⟨(u :: r).toArray⟩ : ByteArray).size = r.length + 1 := by rw [size_len]; simp
  have e2 : (s.extract 0 (s.size - (⟨(u :: r).toArray⟩ : ByteArray).size)).data.toList = t := by
    rw [Lib.extract_data, e1, e0, hl]; simp
  refine ⟨_, _, rfl, ?_, rfl, ?_, ?_, ?_, ?_, ?_⟩
  · rw [h2, e1]; omega
  · rw [size_len, h2, e2]; exact (numB_len hn).2
  · rw [h2, e2]; exact hn
  · rw [h2, e2]
  · rw [h2]
  · rw [h2, e2]; exact hd

theorem int_eq {k : IntKind} {a b : Int} (h : a = b) : Value.int k a = .int k b := by rw [h]
theorem getElem_data (d : ByteArray) (k : Nat) (h : k < d.size) : d.data.toList[k]'(by rw [← size_len]; exact h) = d[k] := rfl
theorem ba_ext {a b : ByteArray} (h : a.data.toList = b.data.toList) : a = b := by
  cases a; cases b; simp at h; rw [h]
theorem nval_take_lt (l : List UInt8) (k : Nat) (h : ∀ c ∈ l, isD c = true) (hk : k ≤ 15) : nval (l.take k) < 1000000000000000 := by
  have h1 := nval_lt (l.take k) (fun c hc => h c (List.mem_of_mem_take hc))
  have h2 : (l.take k).length ≤ 15 := Nat.le_trans (List.length_take_le _ _) hk
  have h3 : 10 ^ (l.take k).length ≤ 10 ^ 15 := Nat.pow_le_pow_right (by omega) h2
  omega
theorem nval_take_succ (d : ByteArray) (k : Nat) (h : k < d.size) : nval (d.data.toList.take (k + 1)) = 10 * nval (d.data.toList.take k) + (d[k].toNat - 48) := by
  rw [List.take_succ_eq_append_getElem (by rw [← size_len]; exact h), nval_snoc]; rfl

set_option maxHeartbeats 1000000 in
theorem item_yes (s : ByteArray) (n : Nat) (u : UInt8) (r : List UInt8) (w : World) (hs : s.size ≤ 9223372036854775807) (h : item s.data.toList = some (n, u, r)) :
    Calls Tryd.prog 46 #[.string s] w fun e w' => e = .returned (.tuple #[.int .u64 n, .int .u8 u.toNat, .string ⟨r.toArray⟩]) ∧ Grw w w' := by
  obtain ⟨b, d, hb, hbs, hd, hd15, hnum, hval, hbl, hdig⟩ := itemFacts h
  have T := Tryd.strings_TrimLeft_digits s w
  rw [hb] at T
  have T := Lib.hid T
  have I := fun w => isNumber_any d w (by omega)
  rw [hnum] at I
  have I := Lib.hid I
  have D := Lib.hid hd
  have HV := Lib.hid hval
  have HB := Lib.hid hbl
  have HD := Lib.hid hdig
  have k1 : b.toList.isEmpty = false := by rw [Lib.toList_data, hbl]; rfl
  have k2 : ¬ b.toList = [] := by rw [Lib.toList_data, hbl]; simp
  have k3 : 0 < b.size := by rw [size_len, hbl]; simp
  clear hb hd hnum hval hbl hdig h
  go_enter Tryd.func46, Tryd.ntmps46
  go_wp2_with fail
  refine T.out.mono ?_
  rintro _ w1 ⟨rfl, hw1⟩
  go_wp2_with fail
  rw [D.out]
  refine (I.out _).mono ?_
  rintro _ _ ⟨rfl, rfl⟩
  obtain ⟨cap, w2, hconv, hg2, hcell⟩ := conv_bytes d w1
  have HC := Lib.hid hcell
  clear hcell I T D
  have G : Grw w w2 := Grw.trans hw1 hg2
  clear hw1 hg2
  generalize w1.heap.size = bl at *
  go_wp2_with fail
  clear hconv
  go_loop [7, 9, 29] (fun v _ i => ∃ k : Nat, k ≤ d.size ∧ i = .int .i64 k ∧ v = .int .u64 (nval (d.data.toList.take k))) (fun _ _ i => d.size - (intOf i).toNat)
  case atStart => exact ⟨0, Nat.zero_le _, rfl, rfl⟩
  case round =>
    obtain ⟨k, hk, rfl, rfl⟩ := hrel
    by_cases hlt : k < d.size
    · have hc := HC.out k hlt
      have hdg := (isD_iff d[k]).1 (HD.out d[k] (by rw [← getElem_data d k hlt]; exact List.getElem_mem _))
      have hv := nval_take_lt d.data.toList k (fun c hc => HD.out c hc) (by omega)
      have hsn := nval_take_succ d k hlt
      obtain ⟨c, hcc⟩ : ∃ c : Nat, c = d[k].toNat := ⟨_, rfl⟩
      rw [← hcc] at hc hdg hsn
      obtain ⟨v, hvv⟩ : ∃ v : Nat, v = nval (d.data.toList.take k) := ⟨_, rfl⟩
      rw [← hvv] at hv hsn ⊢
      have HS := Lib.hid hsn
      obtain ⟨c0, c1⟩ := hdg
      clear hsn hcc hvv HC HD HV HB
      go_wp2_with fail
      go_round
      case rel => exact ⟨k + 1, by omega, by go_num, by rw [HS.out]; exact int_eq (by omega)⟩
      case measure => simp [intOf]; omega
    · have e : k = d.size := by omega
      have hv : nval (d.data.toList.take k) = n := by rw [e, size_len, List.take_length]; exact HV.out
      rw [hv]
      have hu : b[0] = u := by
        have g := head_at b k3
        rw [HB.out] at g
        simpa using g.symm
      have hr : b.extract 1 b.size = ⟨r.toArray⟩ := by
        apply ba_ext
        rw [Lib.extract_to_end, HB.out]; simp
      have hu' : (b[0].toNat : Int) = u.toNat := by rw [hu]
      have HU := Lib.hid hu'
      have HR := Lib.hid hr
      clear e hv HC HD HV HB hu hr hu'
      go_wp2_with fail
      go_quiet (fail)
      go_wp2_with fail
      exact bodyPost_ret (v := .tuple #[.int .u64 n, .int .u8 (b[0].toNat), .string (b.extract 1 b.size)]) (by simp [results, Tryd.results46, go_sem]) rfl ⟨by rw [HU.out, HR.out], G.drewN _⟩

theorem itemNone {s : ByteArray} (h : item s.data.toList = none) :
    ∃ (b d : ByteArray), (⟨(Lib.trimLeftS s.data.toList [48, 49, 50, 51, 52, 53, 54, 55, 56, 57]).toArray⟩ : ByteArray) = b ∧ b.size ≤ s.size ∧ s.extract 0 (s.size - b.size) = d ∧ d.size ≤ s.size ∧
      (b.data.toList = [] ∨ (b.data.toList ≠ [] ∧ numB d.data.toList = false)) := by
  have h2 : Lib.trimLeftS s.data.toList [48, 49, 50, 51, 52, 53, 54, 55, 56, 57] = bh s.data.toList := rfl
  have hl := congrArg List.length (ds_bh s.data.toList)
  rw [List.length_append, ← size_len] at hl
  have e1 : (⟨(bh s.data.toList).toArray⟩ : ByteArray).size = (bh s.data.toList).length := by rw [size_len]
  have e2 : (s.extract 0 (s.size - (⟨(bh s.data.toList).toArray⟩ : ByteArray).size)).data.toList = ds s.data.toList := by
    rw [Lib.extract_data, e1]
    have g : s.size - (bh s.data.toList).length - 0 = (ds s.data.toList).length := by omega
    rw [g, List.drop_zero]
    have := ds_bh s.data.toList
    calc s.data.toList.take (ds s.data.toList).length = (ds s.data.toList ++ bh s.data.toList).take (ds s.data.toList).length := by rw [this]
      _ = ds s.data.toList := by simp
  refine ⟨_, _, rfl, ?_, rfl, ?_, ?_⟩
  · rw [h2, e1]; omega
  · rw [h2, size_len, e2]; omega
  · rw [h2, e2]
    unfold item at h
    split at h
    · rename_i hb; left; exact hb
    · rename_i u r hb
      right
      refine ⟨by show bh s.data.toList ≠ []; rw [hb]; simp, ?_⟩
      split at h
      · cases h
      · rename_i hn; simpa using hn

set_option maxHeartbeats 1000000 in
theorem item_no (s : ByteArray) (w : World) (hs : s.size ≤ 9223372036854775807) (h : item s.data.toList = none) :
    Calls Tryd.prog 46 #[.string s] w fun e w' => e = .returned (.tuple #[.int .u64 0, .int .u8 0, .string ⟨#[]⟩]) ∧ Grw w w' := by
  obtain ⟨b, d, hb, hbs, hd, hds, hor⟩ := itemNone h
  have T := Tryd.strings_TrimLeft_digits s w
  rw [hb] at T
  have T := Lib.hid T
  have D := Lib.hid hd
  clear hb hd h
  rcases hor with hbl | ⟨hbl, hnum⟩
  · have k1 : b.toList.isEmpty = true := by rw [Lib.toList_data, hbl]; rfl
    have k2 : b.toList = [] := by rw [Lib.toList_data, hbl]
    clear hbl
    go_enter Tryd.func46, Tryd.ntmps46
    go_wp2_with fail
    refine T.out.mono ?_
    rintro _ w1 ⟨rfl, hw1⟩
    go_wp2_with fail
    exact bodyPost_ret (v := .tuple #[.int .u64 0, .int .u8 0, .string ⟨#[]⟩]) (by simp [results, Tryd.results46, go_sem]) rfl ⟨rfl, hw1⟩
  · have k1 : b.toList.isEmpty = false := by rw [Lib.toList_data, List.isEmpty_eq_false_iff]; exact hbl
    have k2 : ¬ b.toList = [] := by rw [Lib.toList_data]; exact hbl
    have I := fun w => isNumber_any d w (by omega)
    rw [hnum] at I
    have I := Lib.hid I
    clear hbl hnum
    go_enter Tryd.func46, Tryd.ntmps46
    go_wp2_with fail
    refine T.out.mono ?_
    rintro _ w1 ⟨rfl, hw1⟩
    go_wp2_with fail
    rw [D.out]
    refine (I.out _).mono ?_
    rintro _ _ ⟨rfl, rfl⟩
    go_wp2_with fail
    exact bodyPost_ret (v := .tuple #[.int .u64 0, .int .u8 0, .string ⟨#[]⟩]) (by simp [results, Tryd.results46, go_sem]) rfl ⟨rfl, hw1⟩
end Go.Proofs.YtcdfjheklggfhaaDoor
