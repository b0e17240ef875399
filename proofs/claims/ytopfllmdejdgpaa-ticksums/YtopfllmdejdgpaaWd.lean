/- The walk of TickSums: the law's text over the contracts of Sum, Times and Held. -/
import Derived.Test.YtopfllmdejdgpaaWc
import Derived.Deep.CutRange
namespace Go.Proofs.Ytopfllmdejdgpaa
open Go.RowKit TM

set_option maxHeartbeats 2000000 in
set_option maxRecDepth 100000 in
theorem sums_core (a b c x z u v s g y t held : Int) (p r m n i f d q : Bool) (w : World)
    (H1 : Hid (∀ w, Calls Try.prog 8 #[.int .u64 a, .int .u64 b] w fun e w' => e = .returned (.tuple #[.int .u64 x, .bool p]) ∧ w = w'))
    (H2 : Hid (∀ w, Calls Try.prog 8 #[.int .u64 b, .int .u64 a] w fun e w' => e = .returned (.tuple #[.int .u64 x, .bool p]) ∧ w = w'))
    (H3 : Hid (∀ w, Calls Try.prog 14 #[.int .u64 a, .int .u64 b] w fun e w' => e = .returned (.int .u64 held) ∧ w = w'))
    (H4 : Hid (∀ w, Calls Try.prog 8 #[.int .u64 b, .int .u64 c] w fun e w' => e = .returned (.tuple #[.int .u64 z, .bool r]) ∧ w = w'))
    (H5 : Hid (∀ w, Calls Try.prog 8 #[.int .u64 x, .int .u64 c] w fun e w' => e = .returned (.tuple #[.int .u64 u, .bool m]) ∧ w = w'))
    (H6 : Hid (∀ w, Calls Try.prog 8 #[.int .u64 a, .int .u64 z] w fun e w' => e = .returned (.tuple #[.int .u64 v, .bool n]) ∧ w = w'))
    (H7 : Hid (∀ w, Calls Try.prog 9 #[.int .u64 a, .int .u64 b] w fun e w' => e = .returned (.tuple #[.int .u64 s, .bool i]) ∧ w = w'))
    (H8 : Hid (∀ w, Calls Try.prog 9 #[.int .u64 b, .int .u64 a] w fun e w' => e = .returned (.tuple #[.int .u64 s, .bool i]) ∧ w = w'))
    (H9 : Hid (∀ w, Calls Try.prog 9 #[.int .u64 a, .int .u64 c] w fun e w' => e = .returned (.tuple #[.int .u64 g, .bool f]) ∧ w = w'))
    (H10 : Hid (∀ w, Calls Try.prog 9 #[.int .u64 a, .int .u64 z] w fun e w' => e = .returned (.tuple #[.int .u64 y, .bool d]) ∧ w = w'))
    (H11 : Hid (∀ w, Calls Try.prog 8 #[.int .u64 s, .int .u64 g] w fun e w' => e = .returned (.tuple #[.int .u64 t, .bool q]) ∧ w = w'))
    (K1 : Hid (p = true ∧ held = x ∨ p = false ∧ x = 0 ∧ held = 18446744073709551615))
    (K2 : Hid ((p && m) = (r && n) ∧ ((p && m) = true → u = v)))
    (K3 : Hid (a = 0 → i = true ∧ s = 0))
    (K4 : Hid ((r && i && f) = true → d = q ∧ (d = true → y = t))) :
    Calls Try.prog 4 #[.int .u64 a, .int .u64 b, .int .u64 c] w fun e w' => e = .returned (.bool true) ∧ Grw w w' := by
  go_enter Try.func4, Try.ntmps4
  go_wp2_with fail
  refine (H1.out _).mono ?_
  rintro _ _ ⟨rfl, rfl⟩
  go_wp2_with fail
  refine (H2.out _).mono ?_
  rintro _ _ ⟨rfl, rfl⟩
  go_upto_region 3 with (fail)
  go_cut [70] from 27 (fun v wx => v = .bool false ∧ wx = w)
  case first =>
    rcases K1.out with ⟨rfl, rfl⟩ | ⟨rfl, rfl, rfl⟩
    · go_wp2_with (go_at_call 14; refine (H3.out _).mono ?_; rintro _ _ ⟨rfl, rfl⟩)
      go_meet
      case rel => exact ⟨rfl, rfl⟩
    · go_wp2_with (go_at_call 14; refine (H3.out _).mono ?_; rintro _ _ ⟨rfl, rfl⟩)
      go_meet
      case rel => exact ⟨rfl, rfl⟩
  case rest =>
    obtain ⟨rfl, rfl⟩ := hcut
    go_wp2_with fail
    refine (H4.out _).mono ?_
    rintro _ _ ⟨rfl, rfl⟩
    go_wp2_with fail
    refine (H5.out _).mono ?_
    rintro _ _ ⟨rfl, rfl⟩
    go_wp2_with fail
    refine (H6.out _).mono ?_
    rintro _ _ ⟨rfl, rfl⟩
    go_upto_region 8 with (fail)
    go_cut [108] from 27 (fun v wx => v = .bool false ∧ wx = wc)
    case first =>
      obtain ⟨k1, k2⟩ := K2.out
      clear H1 H2 H3 H4 H5 H6 H7 H8 H9 H10 H11 K1 K2 K3 K4
      have hp : p = false ∨ p = true ∧ m = false ∨ p = true ∧ m = true := by cases p <;> cases m <;> simp
      have hr : r = false ∨ r = true ∧ n = false ∨ r = true ∧ n = true := by cases r <;> cases n <;> simp
      rcases hp with rfl | ⟨rfl, rfl⟩ | ⟨rfl, rfl⟩ <;> rcases hr with rfl | ⟨rfl, rfl⟩ | ⟨rfl, rfl⟩ <;> simp at k1 k2
      all_goals (try subst k2)
      all_goals go_wp2_with fail
      all_goals go_meet
      all_goals exact ⟨rfl, rfl⟩
    case rest =>
      obtain ⟨rfl, rfl⟩ := hcut
      go_wp2_with fail
      refine (H7.out _).mono ?_
      rintro _ _ ⟨rfl, rfl⟩
      go_wp2_with fail
      refine (H8.out _).mono ?_
      rintro _ _ ⟨rfl, rfl⟩
      go_upto_region 12 with (fail)
      go_cut [140] from 27 (fun v wx => v = .bool false ∧ wx = wc)
      case first =>
        have k3 := K3.out
        clear H1 H2 H3 H4 H5 H6 H7 H8 H9 H10 H11 K1 K2 K3 K4
        by_cases h : a = 0
        · obtain ⟨rfl, rfl⟩ := k3 h
          subst h
          clear k3
          go_wp2_with fail
          go_meet
          case rel => exact ⟨rfl, rfl⟩
        · have hb : (a == 0) = false := by simpa using h
          clear k3 h
          go_wp2_with fail
          go_meet
          case rel => exact ⟨rfl, rfl⟩
      case rest =>
        obtain ⟨rfl, rfl⟩ := hcut
        go_wp2_with fail
        refine (H9.out _).mono ?_
        rintro _ _ ⟨rfl, rfl⟩
        go_upto_region 15 with (fail)
        go_cut [153] from 27 (fun v wx => v = .bool (r && i && f) ∧ wx = wc)
        case first =>
          clear H1 H2 H3 H4 H5 H6 H7 H8 H9 H10 H11 K1 K2 K3 K4
          have hr : r = false ∨ r = true ∧ i = false ∨ r = true ∧ i = true := by cases r <;> cases i <;> simp
          rcases hr with rfl | ⟨rfl, rfl⟩ | ⟨rfl, rfl⟩
          all_goals go_wp2_with fail
          all_goals go_meet
          all_goals exact ⟨rfl, rfl⟩
        case rest =>
          obtain ⟨rfl, rfl⟩ := hcut
          have k4 := K4.out
          clear H1 H2 H3 H4 H5 H6 H7 H8 H9 K1 K2 K3 K4
          generalize (r && i && f) = all at *
          go_upto_if 153 with (fail)
          go_cut [] from 27 (fun wx => wx = wc)
          case first =>
            cases all
            · clear k4 H10 H11
              go_wp2_with fail
              go_meet
              case rel => rfl
            · obtain ⟨rfl, k5⟩ := k4 rfl
              clear k4
              have K5 := Lib.hid k5
              clear k5
              go_wp2_with fail
              refine (H10.out _).mono ?_
              rintro _ _ ⟨rfl, rfl⟩
              go_wp2_with fail
              refine (H11.out _).mono ?_
              rintro _ _ ⟨rfl, rfl⟩
              clear H10 H11
              cases d
              · clear K5
                go_wp2_with fail
                go_meet
                case rel => rfl
              · obtain rfl := K5.out rfl
                clear K5
                go_wp2_with fail
                go_meet
                case rel => rfl
          case rest =>
            subst hcut
            clear k4 H10 H11
            go_wp2_with (go_at_call 20; refine (wakes_any _).mono ?_; rintro _ _ ⟨rfl, c1, c2, c3, rfl⟩)
            go_ret
            exact ⟨rfl, (((Grw.rfl' _).alloc _).alloc _).alloc _⟩
end Go.Proofs.Ytopfllmdejdgpaa
