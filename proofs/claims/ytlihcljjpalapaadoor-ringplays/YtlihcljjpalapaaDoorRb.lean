/- The contract of ring.find at this program. -/
import Derived.Test.YtlihcljjpalapaaDoorRa
namespace Go.Proofs.YtlihcljjpalapaaDoor
open Go.RowKit MK
open RG (Du)
set_option linter.unusedSimpArgs false

/-- what find tells: where it is, or that it is nowhere. -/
def Fnd (L : Nat → List Du) (id : Int) (s p : Int) (o : Bool) : Prop :=
  (∃ (k j : Nat) (h : j < (L k).length), k < 64 ∧ s = k ∧ p = j ∧ o = true ∧ ((L k)[j]).id = id) ∨
  (s = 0 ∧ p = 0 ∧ o = false ∧ ∀ k, k < 64 → ∀ j (h : j < (L k).length), ((L k)[j]).id ≠ id)
def FindQ (L : Nat → List Du) (id : Int) (w : World) (e : Ending) (w' : World) : Prop := ∃ s p o, e = .returned (.tuple #[.int .i64 s, .int .i64 p, .bool o]) ∧ Fnd L id s p o ∧ Grw w w'
theorem findQ_yes {L : Nat → List Du} {id : Int} {w w' : World} {k j : Nat} (hk : k < 64) {m : List Du} (hm : L k = m) (hj : j < m.length) (h : m[j].id = id) (g : Grw w w') : FindQ L id w (.returned (.tuple #[.int .i64 k, .int .i64 j, .bool true])) w' := by
  subst hm
  exact ⟨k, j, true, rfl, Or.inl ⟨k, j, hj, hk, rfl, rfl, rfl, h⟩, g⟩
theorem findQ_no {L : Nat → List Du} {id : Int} {w w' : World} (h : ∀ k, k < 64 → ∀ j (h : j < (L k).length), ((L k)[j]).id ≠ id) (g : Grw w w') : FindQ L id w (.returned (.tuple #[.int .i64 0, .int .i64 0, .bool false])) w' :=
  ⟨0, 0, false, rfl, Or.inr ⟨rfl, rfl, rfl, h⟩, g⟩
set_option maxHeartbeats 2000000 in
set_option maxRecDepth 100000 in
theorem find_any (b : Nat) (A : Array Value) (L : Nat → List Du) (id : Int) (w : World) (h : RingL w b A L) (hb : ∀ k, (L k).length ≤ 1000000) :
    Calls Tryd.prog 23 #[.pointer (some ⟨b, 0, none⟩), .int .i64 id] w (FindQ L id w) := by
  have R := Lib.hid h
  have hr := Lib.hid (ring_range h)
  have hz : (Tryd.prog.info? 51).map (·.size) = some A.toList.length := by rw [Tryd.size51, Array.length_toList, h.size]
  have HZ := Lib.hid hz
  obtain ⟨l, hl⟩ : ∃ l, A.toList = l := ⟨_, rfl⟩
  rw [hl] at hr HZ
  have hA : A = l.toArray := by rw [← hl]
  have HA := Lib.hid hA
  have HB := Lib.hid hb
  clear h hz hl hA hb
  go_enter Tryd.func23, Tryd.ntmps23
  go_wp2_with (refine wpList_load_mid rfl 51 _ rfl b 0 rfl l _ hr.out Tryd.underlying51 rfl HZ.out ?_)
  go_loopw [17] (fun i wr => ∃ k : Nat, k ≤ 64 ∧ i = .int .i64 k ∧ Grw w wr ∧ ∀ q, q < k → ∀ j (h : j < (L q).length), ((L q)[j]).id ≠ id) (fun i _ => 64 - (intOf i).toNat)
  case atStart => exact ⟨0, Nat.zero_le _, rfl, Grw.rfl' _, fun q hq => by omega⟩
  case round =>
    obtain ⟨k, hk, rfl, hg, hno⟩ := hrel
    have G := Lib.hid hg
    have NO := Lib.hid hno
    clear hg hno
    by_cases hk' : k < 64
    · have hki : (k : Int) < 64 := by omega
      obtain ⟨ao, cap, hcell, hlies⟩ := R.out.row hk'
      rw [HA.out] at hcell
      have hix := run_index64 l k _ hk' hcell
      have hb := HB.out k
      have LI := Lib.hid hlies
      obtain ⟨m, hm⟩ : ∃ m, L k = m := ⟨_, rfl⟩
      rw [hm] at hix hb LI
      obtain ⟨n, hn⟩ : ∃ n, m.length = n := ⟨_, rfl⟩
      rw [hn] at hix hb
      have HM := Lib.hid hm
      have HN := Lib.hid hn
      clear hcell hlies hm hn
      go_wp2_with fail
      go_loopw [23] (fun i wi => ∃ j : Nat, j ≤ n ∧ i = .int .i64 j ∧ Grw w wi ∧ ∀ q (h : q < m.length), q < j → (m[q]).id ≠ id) (fun i _ => n - (intOf i).toNat)
      case atStart => exact ⟨0, Nat.zero_le _, rfl, G.out, fun q _ hq => by omega⟩
      case round =>
        obtain ⟨j, hj, rfl, hg, hno⟩ := hrel
        have GI := Lib.hid hg
        have NI := Lib.hid hno
        clear hg hno
        by_cases hj' : j < n
        · have hji : (j : Int) < (n : Int) := by omega
          have hjm : j < m.length := by rw [HN.out]; exact hj'
          obtain ⟨bb, off, rfl, c0, c1⟩ := lies_at (LI.out.later GI.out) hjm
          obtain ⟨d, hd⟩ : ∃ d, m[j] = d := ⟨_, rfl⟩
          rw [hd] at c0 c1
          obtain ⟨di, dt⟩ := d
          simp only at c0 c1
          have HD := Lib.hid hd
          clear hd
          by_cases he : di = id
          · have ht : (di == id) = true := by simp [he]
            have HE := Lib.hid he
            clear he
            go_wp2_with fail
            refine bodyPost_ret (v := .tuple #[.int .i64 k, .int .i64 j, .bool true]) (by simp [results, Tryd.results23, go_sem]) rfl ?_
            exact findQ_yes hk' HM.out hjm (by rw [HD.out]; exact HE.out) (GI.out.alloc _)
          · have ht : (di == id) = false := by simp [he]
            have HE := Lib.hid he
            clear he
            go_wp2_with fail
            go_roundw
            case rel => exact ⟨j + 1, by omega, by go_num, GI.out.alloc _, fun q h1 h2 => by
              rcases (by omega : q < j ∨ q = j) with h | h
              · exact NI.out q h1 h
              · subst h; rw [HD.out]; exact HE.out⟩
            case measure => simp [intOf]; omega
        · have hji : ¬ (j : Int) < (n : Int) := by omega
          go_wp2_with fail
          refine ⟨⟨k + 1, by omega, by go_num, GI.out, fun q hq i hi => ?_⟩, by simp [intOf]; omega⟩
          rcases (by omega : q < k ∨ q = k) with h | h
          · exact NO.out q h i hi
          · subst h
            have hi' : i < m.length := by rw [← HM.out]; exact hi
            have := NI.out i hi' (by rw [HN.out] at hi'; omega)
            simpa [HM.out] using this
    · have hki : ¬ (k : Int) < 64 := by omega
      have hke : k = 64 := by omega
      subst hke
      go_wp2_with fail
      refine bodyPost_ret (v := .tuple #[.int .i64 0, .int .i64 0, .bool false]) (by simp [results, Tryd.results23, go_sem]) rfl ?_
      exact findQ_no NO.out G.out
end Go.Proofs.YtlihcljjpalapaaDoor
