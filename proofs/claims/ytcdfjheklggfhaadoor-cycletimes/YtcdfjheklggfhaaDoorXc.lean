/- The contracts of strings.Cut at a slash and of cycle.rounds at this program. -/
import Derived.Test.YtcdfjheklggfhaaDoorWe
import Derived.Test.YtcdfjheklggfhaaDoorXb
namespace Go.Proofs.YtcdfjheklggfhaaDoor
open Go.RowKit SM
set_option linter.unusedSimpArgs false

theorem index_hd : ∀ t : List UInt8, Lib.indexByte t 47 = if tl t = [] then -1 else ((hd t).length : Int)
  | [] => rfl
  | c :: t => by
    have ih := index_hd t
    unfold Lib.indexByte
    by_cases hc : c = 47
    · subst hc
      have e : tl (47 :: t) = 47 :: t := rfl
      have e2 : hd (47 :: t) = [] := rfl
      rw [e, e2]; simp
    · have h1 : noSl c = true := by simp [noSl, hc]
      have e : tl (c :: t) = tl t := by unfold tl; rw [List.dropWhile_cons, h1]; rfl
      have e2 : hd (c :: t) = c :: hd t := by unfold hd; rw [List.takeWhile_cons, h1]; rfl
      have e3 : (c == 47) = false := by simpa using hc
      rw [e, e2, e3, ih]
      by_cases ht : tl t = []
      · rw [if_pos ht, if_pos ht]; rfl
      · rw [if_neg ht, if_neg ht]
        have : (((hd t).length : Int) == -1) = false := by simp
        rw [this]; simp

theorem iseq (a b : ByteArray) (h : a = b) : a.data.toList = b.data.toList := by rw [h]

set_option maxHeartbeats 1000000 in
set_option maxRecDepth 100000 in
theorem index_slash (s : ByteArray) (w : World) (k : Int) (hs : s.size ≤ 9223372036854775807) (hk : Lib.indexByte s.data.toList 47 = k) :
    Calls Tryd.prog 49 #[.string s, .string ⟨#[47]⟩] w fun e w' => e = .returned (.int .i64 k) ∧ w = w' := by
  by_cases h : s = ⟨#[47]⟩
  · subst h
    have : k = 0 := by rw [← hk]; rfl
    subst this
    clear hk
    go_enter Tryd.func49, Tryd.ntmps49
    go_wp2_with fail
    go_ret
    exact ⟨rfl, rfl⟩
  · have I := fun w => Tryd.stringslite_IndexByte s 47 w
    have e : ((47 : Int).toNat.toUInt8) = 47 := rfl
    rw [e, hk] at I
    replace I := Lib.hid I
    have h1 : ¬ [47] = s.toList := fun e => h (ba_ext (by rw [← Lib.toList_data s, ← e]))
    have h2 : ([47] == s.toList) = false := by rw [Bool.eq_false_iff]; intro g; exact h1 (eq_of_beq g)
    clear hk e h
    go_enter Tryd.func49, Tryd.ntmps49
    go_wp2_with fail
    refine (I.out _).mono ?_
    rintro _ w1 ⟨rfl, rfl⟩
    go_wp2_with fail
    go_ret
    exact ⟨rfl, rfl⟩

set_option maxHeartbeats 1000000 in
set_option maxRecDepth 100000 in
theorem lcut_none (s : ByteArray) (w : World) (hs : s.size ≤ 9223372036854775807) (h : tl s.data.toList = []) :
    Calls Tryd.prog 38 #[.string s, .string ⟨#[47]⟩] w fun e w' => e = .returned (.tuple #[.string s, .string ⟨#[]⟩, .bool false]) ∧ Grw w w' := by
  have I := Lib.hid (fun w => index_slash s w (-1) hs (by rw [index_hd, if_pos h]))
  clear h
  go_enter Tryd.func38, Tryd.ntmps38
  go_wp2_with fail
  refine (I.out _).mono ?_
  rintro _ _ ⟨rfl, rfl⟩
  go_wp2_with fail
  go_ret3
  exact ⟨rfl, Grw.rfl' _⟩

set_option maxHeartbeats 1000000 in
set_option maxRecDepth 100000 in
theorem lcut_some (s d r : ByteArray) (w : World) (hs : s.size ≤ 9223372036854775807) (h : tl s.data.toList = 47 :: r.data.toList) (hd' : d.data.toList = hd s.data.toList) :
    Calls Tryd.prog 38 #[.string s, .string ⟨#[47]⟩] w fun e w' => e = .returned (.tuple #[.string d, .string r, .bool true]) ∧ Grw w w' := by
  obtain ⟨k, hk⟩ : ∃ k, (hd s.data.toList).length = k := ⟨_, rfl⟩
  have I := Lib.hid (fun w => index_slash s w k hs (by rw [index_hd, if_neg (by rw [h]; simp), hk]))
  have hsz : s.size = k + 1 + r.size := by
    have := congrArg List.length (hd_tl s.data.toList)
    rw [List.length_append, h, hk, ← size_len] at this
    rw [← this, List.length_cons, ← size_len]; omega
  have e1 : s.extract 0 k = d := by
    apply ba_ext
    rw [Lib.extract_data, hd']
    have := hd_tl s.data.toList
    calc (s.data.toList.drop 0).take (k - 0) = (hd s.data.toList ++ tl s.data.toList).take (hd s.data.toList).length := by rw [this, hk]; simp
      _ = hd s.data.toList := by simp
  have e2 : s.extract (k + 1) s.size = r := by
    apply ba_ext
    rw [Lib.extract_to_end]
    have := hd_tl s.data.toList
    calc s.data.toList.drop (k + 1) = (hd s.data.toList ++ tl s.data.toList).drop ((hd s.data.toList).length + 1) := by rw [this, hk]
      _ = r.data.toList := by rw [h]; simp
  have c1 : (k : Int) ≤ s.size := by omega
  have c2 : (k : Int) + 1 ≤ s.size := by omega
  have E1 := Lib.hid e1
  have E2 := Lib.hid e2
  clear h hd' hk e1 e2 hsz
  go_enter Tryd.func38, Tryd.ntmps38
  go_wp2_with fail
  refine (I.out _).mono ?_
  rintro _ _ ⟨rfl, rfl⟩
  clear I
  go_wp2_with fail
  go_quiet (fail)
  go_wp2_with fail
  rw [E1.out, E2.out]
  go_ret3
  exact ⟨rfl, (Grw.rfl' _).drewN _⟩
end Go.Proofs.YtcdfjheklggfhaaDoor
