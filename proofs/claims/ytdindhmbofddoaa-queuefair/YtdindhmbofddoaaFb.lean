/- The law QueueFair, walked. -/
import Derived.Test.YtdindhmbofddoaaFa
namespace Go.Proofs.Ytdindhmbofddoaa
open Go.RowKit
set_option linter.unusedSimpArgs false

theorem fq_take {w0 w : World} {fb p : Nat} {ao : Option Addr} {n cap k id room : Nat} {a count : Int} {v : Value} {L : List Wt} (h : FQ w0 w fb p ao n cap k id room a count v L) (hl : 0 < L.length) (h0 : 0 ≤ count) (h1 : count ≤ 1000000) :
    ∃ j, Fst a L j ∧ Calls Try.prog 14 #[.pointer (some ⟨p, 0, none⟩)] w fun e w' => e = .returned (.tuple #[wv (gt L j), .int .i64 0]) ∧ ∃ v', FQ w0 w' fb p ao n cap k id room a (count + 1) v' (rem L j) := by
  obtain ⟨j, _, hf⟩ := frs_spec a hl
  exact ⟨j, hf, (m_take h.m hf h0 (by omega)).mono fun _ _ ⟨he, v', m, f, hn⟩ => ⟨he, v', h.step m f hn⟩⟩
/-- between the rounds of the first loop. -/
structure P1 (w0 w : World) (fb p : Nat) (ao : Option Addr) (n cap room : Nat) (a : Int) (i : Nat) (c : Nat) (L : List Wt) : Prop where
  fq : ∃ k id v, FQ w0 w fb p ao n cap k id room a c v L ∧ k ≤ n ∧ 1 ≤ id ∧ id ≤ 1 + 1000 * i ∧ J id L
  len : L.length ≤ room
  cc : c ≤ i
  no : ∀ x ∈ L, x.id ≠ 1
theorem Fed.no {L L' : List Wt} {count : Int} {room id id' : Nat} (h : Fed L L' count room id id') (hn : ∀ x ∈ L, x.id ≠ 1) : ∀ x ∈ L', x.id ≠ 1 := fun x hx => by
  obtain ⟨N, e, hN⟩ := h.app
  rw [e] at hx
  rcases List.mem_append.1 hx with g | g
  · exact hn x g
  · exact (hN x g).2.2.2
theorem no_rem {L : List Wt} (hn : ∀ x ∈ L, x.id ≠ 1) {j : Nat} (hj : j < L.length) : ∀ x ∈ rem L j, x.id ≠ 1 := fun x hx => hn x ((rem_perm hj).mem_iff.2 (List.mem_append.2 (Or.inl hx)))

theorem p1_on {w0 w : World} {fb p : Nat} {ao : Option Addr} {n cap room : Nat} {a : Int} {i c : Nat} {L acts : List Wt} (h : P1 w0 w fb p ao n cap room a i c L) (ha : Lies w0 ao (cw acts)) (hn : acts.length = n) (hnn : n ≤ 9223372036854775807) (hr : room ≤ 1000) (hi : i ≤ 1000) :
    Calls Try.prog 24 #[.pointer (some ⟨fb, 0, none⟩)] w fun e w' => e = .returned (.bool true) ∧ ∃ L', P1 w0 w' fb p ao n cap room a (i + 1) c L' := by
  obtain ⟨k, id, v, hf, hk, h1, h2, hj⟩ := h.fq
  refine (on_is w0 w fb p ao n cap k id room a c v L acts ha hn hf hk h.len hr h1 (by omega) hj hnn).mono ?_
  rintro e w' ⟨he, k', id', v', L', hf', hk', hd⟩
  exact ⟨he, L', ⟨k', id', v', hf', hk', hd.one, by have := hd.ids; have := hd.len; omega, hd.jj⟩, hd.len, by have := h.cc; omega, hd.no h.no⟩
theorem p1_take {w0 w : World} {fb p : Nat} {ao : Option Addr} {n cap room : Nat} {a : Int} {i c : Nat} {L : List Wt} (h : P1 w0 w fb p ao n cap room a i c L) (hi : i ≤ 1000) :
    Calls Try.prog 14 #[.pointer (some ⟨p, 0, none⟩)] w fun e w' => ∃ u, e = .returned u ∧ ∃ c' L', P1 w0 w' fb p ao n cap room a (i + 1) c' L' ∧ (0 < L.length → L'.length < L.length) := by
  obtain ⟨k, id, v, hf, hk, h1, h2, hj⟩ := h.fq
  by_cases hl : 0 < L.length
  · obtain ⟨j, hfst, C⟩ := fq_take hf hl (by omega) (by have := h.cc; omega)
    refine C.mono ?_
    rintro e w' ⟨he, v', hf'⟩
    have := rem_len hfst.lt
    exact ⟨_, he, c + 1, rem L j, ⟨⟨k, id, v', hf', hk, h1, by omega, hj.tak j hfst.lt⟩, by have := h.len; omega, by have := h.cc; omega, no_rem h.no hfst.lt⟩, fun _ => by omega⟩
  · have e0 : L = [] := List.eq_nil_of_length_eq_zero (by omega)
    subst e0
    refine (take_none hf.m.q).mono ?_
    rintro e w' ⟨he, g⟩
    exact ⟨_, he, c, [], ⟨⟨k, id, v, hf.later g, hk, h1, by omega, hj⟩, h.len, by have := h.cc; omega, h.no⟩, fun e => absurd e hl⟩
theorem p1_put {w0 w : World} {fb p : Nat} {ao : Option Addr} {n cap room : Nat} {a : Int} {i c : Nat} {L : List Wt} (h : P1 w0 w fb p ao n cap room a i c L) (hl : L.length < room) (hr : room ≤ 1000) (cl : Nat) (hcl : cl < 8) :
    Calls Try.prog 12 #[.pointer (some ⟨p, 0, none⟩), .int .i64 1, .int .i64 (cl : Nat)] w fun e w' => e = .returned (.int .i64 0) ∧ ∃ k id v, FQ w0 w' fb p ao n cap k id room a c v (L ++ [⟨1, cl, c⟩]) ∧ k ≤ n ∧ 1 ≤ id ∧ id ≤ 1 + 1000 * i ∧ J id (L ++ [⟨1, cl, c⟩]) := by
  obtain ⟨k, id, v, hf, hk, h1, h2, hj⟩ := h.fq
  refine (m_put hf.m 1 cl (by omega) (by omega) (fun j hj => h.no _ (gt_mem hj)) (by omega) (by omega)).mono ?_
  rintro e w' ⟨he, v', m, f, hn⟩
  exact ⟨he, k, id, v', hf.step m f hn, hk, h1, h2, hj.one _ _⟩
/-- between the rounds of the second. -/
structure P2 (w0 w : World) (fb p : Nat) (ao : Option Addr) (n cap room : Nat) (a cl c i : Nat) (L : List Wt) : Prop where
  fq : ∃ k id v, FQ w0 w fb p ao n cap k id room (a : Int) ((c + i : Nat) : Int) v L ∧ k ≤ n ∧ 1 ≤ id ∧ id ≤ 1000000 + 1000 * i ∧ J id L
  inv : InvQ (a : Int) room (a * cl + 1) ⟨1, cl, c⟩ i L
theorem p2_on {w0 w : World} {fb p : Nat} {ao : Option Addr} {n cap room : Nat} {a cl c i : Nat} {L acts : List Wt} (h : P2 w0 w fb p ao n cap room a cl c i L) (ha : Lies w0 ao (cw acts)) (hn : acts.length = n) (hnn : n ≤ 9223372036854775807) (hr : room ≤ 1000) (hi : i ≤ 100000) (a1 : 1 ≤ a) (a2 : a ≤ 1000) (hcl : cl < 8) (hc : c ≤ 1000) :
    Calls Try.prog 24 #[.pointer (some ⟨fb, 0, none⟩)] w fun e w' => e = .returned (.bool true) ∧ ∃ L', (∃ k id v, FQ w0 w' fb p ao n cap k id room (a : Int) ((c + i : Nat) : Int) v L' ∧ k ≤ n ∧ 1 ≤ id ∧ id ≤ 1000000 + 1000 * (i + 1) ∧ J id L') ∧ InvQ (a : Int) room (a * cl + 1) ⟨1, cl, c⟩ i L' := by
  obtain ⟨k, id, v, hf, hk, h1, h2, hj⟩ := h.fq
  refine (on_is w0 w fb p ao n cap k id room a _ v L acts ha hn hf hk h.inv.len hr h1 (by omega) hj hnn).mono ?_
  rintro e w' ⟨he, k', id', v', L', hf', hk', hd⟩
  obtain ⟨N, e, hN⟩ := hd.app
  refine ⟨he, L', ⟨k', id', v', hf', hk', hd.one, by have := hd.ids; have := hd.len; omega, hd.jj⟩, ?_⟩
  subst e
  exact h.inv.add hd.len (fun ht y hy => later a1 a2 rfl hcl hc (hN y hy).1 (hN y hy).2.1 (by rw [(hN y hy).2.2.1]; omega) (by omega) ht)
theorem p2_take {w0 w : World} {fb p : Nat} {ao : Option Addr} {n cap room : Nat} {a cl c i : Nat} {L : List Wt} (h : (∃ k id v, FQ w0 w fb p ao n cap k id room (a : Int) ((c + i : Nat) : Int) v L ∧ k ≤ n ∧ 1 ≤ id ∧ id ≤ 1000000 + 1000 * (i + 1) ∧ J id L) ∧ InvQ (a : Int) room (a * cl + 1) ⟨1, cl, c⟩ i L) (hi : i ≤ 100000) (hc : c ≤ 1000) :
    Calls Try.prog 14 #[.pointer (some ⟨p, 0, none⟩)] w fun e w' => ∃ x, e = .returned (.tuple #[wv x, .int .i64 0]) ∧ Grw w0 w' ∧ (x.id ≠ 1 → ∃ L', P2 w0 w' fb p ao n cap room a cl c (i + 1) L') := by
  obtain ⟨⟨k, id, v, hf, hk, h1, h2, hj⟩, hi⟩ := h
  have hl : 0 < L.length := List.length_pos_of_mem hi.mem
  obtain ⟨j, hfst, C⟩ := fq_take hf hl (by omega) (by omega)
  refine C.mono ?_
  rintro e w' ⟨he, v', hf'⟩
  refine ⟨_, he, hf'.m.g, fun hne => ⟨rem L j, ⟨k, id, v', by rw [show ((c + (i + 1) : Nat) : Int) = ((c + i : Nat) : Int) + 1 by omega]; exact hf', hk, h1, by omega, hj.tak j hfst.lt⟩, hi.tak hfst hne⟩⟩
theorem P2.no {w0 w : World} {fb p : Nat} {ao : Option Addr} {n cap room a cl c i : Nat} {L : List Wt} (h : P2 w0 w fb p ao n cap room a cl c i L) (a1 : 1 ≤ a) (hcl : cl < 8) (hi : a * 8 + room ≤ i) : False :=
  h.inv.no (z := a) (by have : a * cl ≤ a * 7 := Nat.mul_le_mul_left a (by omega)
                        omega) a1 hi
end Go.Proofs.Ytdindhmbofddoaa
