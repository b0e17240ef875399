/- Durations as lists of bytes, third part: what is read of the texts that the laws put together. Nothing of the program is named here. -/
import Derived.Test.YtcdfjheklggfhaaDoorMb
namespace Go.Proofs.YtcdfjheklggfhaaDoor
namespace SM
set_option linter.unusedSimpArgs false

theorem p_of {l : List UInt8} {x : Nat} (hc : cal l = false) (hd : dur l = some x) (hx : x ≤ top) : pV l = x ∧ pE l = 0 := by
  unfold pV pE; simp [hc, hd, hx]
theorem p_over {l : List UInt8} {x : Nat} (hc : cal l = false) (hd : dur l = some x) (hx : ¬ x ≤ top) : pV l = 0 ∧ pE l = 3 := by
  unfold pV pE; simp [hc, hd, hx]
theorem p_form {l : List UInt8} (hc : cal l = false) (hd : dur l = none) : pV l = 0 ∧ pE l = 2 := by
  unfold pV pE; simp [hc, hd]
theorem p_cal {l : List UInt8} (hc : cal l = true) : pV l = 0 ∧ pE l = 4 := by
  unfold pV pE; simp [hc]
theorem p_ok {l : List UInt8} (h : pE l = 0) : ∃ x, cal l = false ∧ dur l = some x ∧ x ≤ top ∧ pV l = x := by
  unfold pE at h
  rcases hc : cal l with _ | _
  · rw [hc] at h
    rcases hd : dur l with _ | x
    · rw [hd] at h; simp at h
    · rw [hd] at h
      by_cases hx : x ≤ top
      · exact ⟨x, rfl, rfl, hx, (p_of hc hd hx).1⟩
      · simp [hx] at h
  · rw [hc] at h; simp at h

/-! ### years, months, a small p, a nought ahead, weeks -/
theorem p_years (n : Nat) (u : UInt8) (r : List UInt8) (h : n < 1000000000000000) (hu : u = 89 ∨ u = 77) : pV (80 :: (Lib.decDigits n ++ u :: r)) = 0 ∧ pE (80 :: (Lib.decDigits n ++ u :: r)) = 4 := by
  apply p_cal
  rcases hu with rfl | rfl
  · rw [cal_dec n 89 r h (by decide)]; rfl
  · rw [cal_dec n 77 r h (by decide)]; rfl
theorem p_noP (c : UInt8) (t : List UInt8) (h : c ≠ 80) : pV (c :: t) = 0 ∧ pE (c :: t) = 2 := by
  apply p_form
  · unfold cal; split
    · rename_i e; exact absurd (List.cons.inj e).1 h
    · rfl
  · unfold dur; split
    · rename_i e; exact absurd (List.cons.inj e).1 h
    · rfl
theorem p_nought (n : Nat) : pV (80 :: 48 :: (Lib.decDigits n ++ [87])) = 0 ∧ pE (80 :: 48 :: (Lib.decDigits n ++ [87])) = 2 := by
  have i := item_nought n 87 [] (by decide)
  apply p_form
  · exact cal_no _ i
  · show body (48 :: (Lib.decDigits n ++ [87])) = none
    unfold body
    split
    · rename_i e; exact absurd (List.cons.inj e).1 (by decide)
    · rw [i]
theorem p_week (n : Nat) (h : n < 1000000000000000) : (n * 604800 ≤ top ∧ pV (80 :: (Lib.decDigits n ++ [87])) = n * 604800 ∧ pE (80 :: (Lib.decDigits n ++ [87])) = 0) ∨ (¬ n * 604800 ≤ top ∧ pV (80 :: (Lib.decDigits n ++ [87])) = 0 ∧ pE (80 :: (Lib.decDigits n ++ [87])) = 3) := by
  have hc : cal (80 :: (Lib.decDigits n ++ [87])) = false := by rw [cal_dec n 87 [] h (by decide)]; rfl
  have hd : dur (80 :: (Lib.decDigits n ++ [87])) = some (n * 604800) := body_week n h
  by_cases hx : n * 604800 ≤ top
  · exact Or.inl ⟨hx, p_of hc hd hx⟩
  · exact Or.inr ⟨hx, p_over hc hd hx⟩

/-! ### a length that was written is read as it was -/
theorem cnt_opt (n : Nat) (c : UInt8) : cnt n c = opt (decide (n ≠ 0)) n c := by
  unfold cnt opt; by_cases h : n = 0 <;> simp [h]
theorem lst_cnt (n u : Nat) : lst (decide (n ≠ 0)) n u = n * u := by
  unfold lst; by_cases h : n = 0 <;> simp [h]
theorem opt_nil (b : Bool) (n : Nat) (c : UInt8) : opt b n c = [] ↔ b = false := by
  unfold opt; rcases b with _ | _ <;> simp
theorem clk_opt (x : Nat) : clk x = opt (decide (x % 86400 / 3600 ≠ 0)) (x % 86400 / 3600) 72 ++ (opt (decide (x % 3600 / 60 ≠ 0)) (x % 3600 / 60) 77 ++ (opt (decide (x % 60 ≠ 0)) (x % 60) 83 ++ [])) := by
  unfold clk; rw [cnt_opt, cnt_opt, cnt_opt]; simp
theorem clk_nil (x : Nat) : clk x = [] ↔ (decide (x % 86400 / 3600 ≠ 0) || decide (x % 3600 / 60 ≠ 0) || decide (x % 60 ≠ 0)) = false := by
  rw [clk_opt]; simp only [List.append_eq_nil_iff, opt_nil, Bool.or_eq_false_iff]
  constructor
  · rintro ⟨a, b, c, _⟩; exact ⟨⟨a, b⟩, c⟩
  · rintro ⟨⟨a, b⟩, c⟩; exact ⟨a, b, c, trivial⟩
theorem print_read (x : Nat) (h : x ≤ top) : pV (printS x) = x ∧ pE (printS x) = 0 := by
  unfold printS
  by_cases h0 : x = 0
  · subst h0; decide
  · rw [if_neg h0]
    unfold top at h
    by_cases hw : x % 604800 = 0
    · rw [if_pos hw]
      have hn : x / 604800 < 1000000000000000 := by omega
      have e : cnt (x / 604800) 87 = Lib.decDigits (x / 604800) ++ [87] := by unfold cnt; rw [if_neg (by omega)]
      rw [e]
      have hm : x / 604800 * 604800 = x := by omega
      rcases p_week (x / 604800) hn with ⟨_, g⟩ | ⟨g, _⟩
      · rw [hm] at g; exact g
      · exfalso; apply g; unfold top; omega
    · rw [if_neg hw]
      have e : (if clk x = [] then [] else 84 :: clk x) = (if (decide (x % 86400 / 3600 ≠ 0) || decide (x % 3600 / 60 ≠ 0) || decide (x % 60 ≠ 0)) then 84 :: clk x else []) := by
        by_cases g : clk x = []
        · rw [if_pos g, (clk_nil x).1 g]; rfl
        · rw [if_neg g]
          rcases hb : (decide (x % 86400 / 3600 ≠ 0) || decide (x % 3600 / 60 ≠ 0) || decide (x % 60 ≠ 0)) with _ | _
          · exact absurd ((clk_nil x).2 hb) g
          · rfl
      rw [e, cnt_opt, clk_opt]
      have hb := body_opt (decide (x / 86400 ≠ 0)) (decide (x % 86400 / 3600 ≠ 0)) (decide (x % 3600 / 60 ≠ 0)) (decide (x % 60 ≠ 0)) (x / 86400) (x % 86400 / 3600) (x % 3600 / 60) (x % 60) (by omega) (by omega) (by omega) (by omega)
      have hany : (decide (x / 86400 ≠ 0) || decide (x % 86400 / 3600 ≠ 0) || decide (x % 3600 / 60 ≠ 0) || decide (x % 60 ≠ 0)) = true := by
        simp only [Bool.or_eq_true, decide_eq_true_eq]; omega
      rw [lst_cnt, lst_cnt, lst_cnt, lst_cnt, hany, if_pos rfl] at hb
      refine p_of (x := x) (cal_opt _ _ _ _ (by omega)) ?_ (by unfold top; omega)
      show body _ = _
      rw [hb]
      congr 1
      omega
theorem dec_le (n k : Nat) (hk : 1 ≤ k) (h : n < 10 ^ k) : (Lib.decDigits n).length ≤ k := by rw [Lib.decDigits_length]; exact nDigits_le n k hk h
theorem cnt_le (n k : Nat) (c : UInt8) (hk : 1 ≤ k) (h : n < 10 ^ k) : (cnt n c).length ≤ k + 1 := by
  have := dec_le n k hk h
  unfold cnt; split <;> simp; omega
theorem print_len (x : Nat) (h : x ≤ top) : (printS x).length ≤ 40 := by
  unfold top at h
  have h1 := cnt_le (x / 604800) 15 87 (by omega) (by omega)
  have h2 := cnt_le (x / 86400) 15 68 (by omega) (by omega)
  have h3 := cnt_le (x % 86400 / 3600) 2 72 (by omega) (by omega)
  have h4 := cnt_le (x % 3600 / 60) 2 77 (by omega) (by omega)
  have h5 := cnt_le (x % 60) 2 83 (by omega) (by omega)
  have h6 : (clk x).length ≤ 9 := by unfold clk; simp; omega
  unfold printS
  split
  · simp
  · split
    · simp; omega
    · split <;> simp <;> omega

/-! ### texts that are cut -/
theorem secs_ge {len x : Nat} {i : Option (Nat × UInt8 × List UInt8)} (h : secs len i = some x) : len ≤ x := by
  rcases i with _ | ⟨n, u, r⟩
  · simp [secs] at h
  · simp only [secs] at h
    split at h
    · cases h; omega
    · cases h
theorem mins_ge {len x : Nat} {i : Option (Nat × UInt8 × List UInt8)} (h : mins len i = some x) : len ≤ x := by
  rcases i with _ | ⟨n, u, r⟩
  · simp [mins] at h
  · simp only [mins] at h
    split at h
    · split at h
      · cases h; omega
      · have := secs_ge h; omega
    · exact secs_ge h
theorem clock_ge {len x : Nat} {i : Option (Nat × UInt8 × List UInt8)} (h : clock len i = some x) : len ≤ x := by
  rcases i with _ | ⟨n, u, r⟩
  · simp [clock] at h
  · simp only [clock] at h
    split at h
    · split at h
      · cases h; omega
      · have := mins_ge h; omega
    · exact mins_ge h

theorem pre_nil {r' r : List UInt8} (h : r' <+: r) (hr : r = []) : r' = [] := by subst hr; exact List.prefix_nil.1 h

theorem secs_cut {len x y n : Nat} {u : UInt8} {r' r : List UInt8} (_h : r' <+: r) (hy : secs len (some (n, u, r')) = some y) (hx : secs len (some (n, u, r)) = some x) : y ≤ x := by
  simp only [secs] at hy hx
  split at hy
  · split at hx
    · cases hx; cases hy; omega
    · cases hx
  · cases hy
theorem secs_item_cut {len x y : Nat} {p l : List UInt8} (h : p <+: l) (hy : secs len (item p) = some y) (hx : secs len (item l) = some x) : y ≤ x := by
  rcases hi : item p with _ | ⟨n, u, r'⟩
  · rw [hi] at hy; simp [secs] at hy
  · obtain ⟨r, hr, hp⟩ := item_prefix h hi
    rw [hi] at hy; rw [hr] at hx
    exact secs_cut hp hy hx
theorem mins_cut {len x y n : Nat} {u : UInt8} {r' r : List UInt8} (h : r' <+: r) (hy : mins len (some (n, u, r')) = some y) (hx : mins len (some (n, u, r)) = some x) : y ≤ x := by
  simp only [mins] at hy hx
  by_cases hu : u = 77
  · rw [if_pos hu] at hy hx
    by_cases hr : r = []
    · rw [if_pos hr] at hx; rw [if_pos (pre_nil h hr)] at hy
      cases hx; cases hy; omega
    · rw [if_neg hr] at hx
      by_cases hr' : r' = []
      · rw [if_pos hr'] at hy; cases hy; exact secs_ge hx
      · rw [if_neg hr'] at hy; exact secs_item_cut h hy hx
  · rw [if_neg hu] at hy hx; exact secs_cut h hy hx
theorem mins_item_cut {len x y : Nat} {p l : List UInt8} (h : p <+: l) (hy : mins len (item p) = some y) (hx : mins len (item l) = some x) : y ≤ x := by
  rcases hi : item p with _ | ⟨n, u, r'⟩
  · rw [hi] at hy; simp [mins] at hy
  · obtain ⟨r, hr, hp⟩ := item_prefix h hi
    rw [hi] at hy; rw [hr] at hx
    exact mins_cut hp hy hx
theorem clock_cut {len x y n : Nat} {u : UInt8} {r' r : List UInt8} (h : r' <+: r) (hy : clock len (some (n, u, r')) = some y) (hx : clock len (some (n, u, r)) = some x) : y ≤ x := by
  simp only [clock] at hy hx
  by_cases hu : u = 72
  · rw [if_pos hu] at hy hx
    by_cases hr : r = []
    · rw [if_pos hr] at hx; rw [if_pos (pre_nil h hr)] at hy
      cases hx; cases hy; omega
    · rw [if_neg hr] at hx
      by_cases hr' : r' = []
      · rw [if_pos hr'] at hy; cases hy; exact mins_ge hx
      · rw [if_neg hr'] at hy; exact mins_item_cut h hy hx
  · rw [if_neg hu] at hy hx; exact mins_cut h hy hx
theorem clock_item_cut {len x y : Nat} {p l : List UInt8} (h : p <+: l) (hy : clock len (item p) = some y) (hx : clock len (item l) = some x) : y ≤ x := by
  rcases hi : item p with _ | ⟨n, u, r'⟩
  · rw [hi] at hy; simp [clock] at hy
  · obtain ⟨r, hr, hp⟩ := item_prefix h hi
    rw [hi] at hy; rw [hr] at hx
    exact clock_cut hp hy hx
/-- a text to which nothing can be joined: it is not empty, begins with no number and no T. -/
def Stop (t : List UInt8) : Prop := ∃ c x, t = c :: x ∧ isD c = false ∧ c ≠ 84
theorem Stop.item {t : List UInt8} (h : Stop t) : item t = none := by obtain ⟨c, x, rfl, hc, _⟩ := h; exact item_nodigit c x hc
theorem Stop.ne {t : List UInt8} (h : Stop t) : t ≠ [] := by obtain ⟨c, x, rfl, _⟩ := h; simp
theorem secs_more {len x n : Nat} {u : UInt8} {r t : List UInt8} (ht : Stop t) (_h : secs len (some (n, u, r)) = some x) : secs len (some (n, u, r ++ t)) = none := by
  simp only [secs]
  rw [if_neg]
  rintro ⟨_, e⟩
  exact ht.ne (List.append_eq_nil_iff.1 e).2
theorem secs_item_more {len x : Nat} {l t : List UInt8} (ht : Stop t) (h : secs len (item l) = some x) : secs len (item (l ++ t)) = none := by
  rcases hi : SM.item l with _ | ⟨n, u, r⟩
  · rw [hi] at h; simp [secs] at h
  · rw [item_append hi t]; rw [hi] at h; exact secs_more ht h
theorem mins_more {len x n : Nat} {u : UInt8} {r t : List UInt8} (ht : Stop t) (h : mins len (some (n, u, r)) = some x) : mins len (some (n, u, r ++ t)) = none := by
  simp only [mins] at h ⊢
  have hne : r ++ t ≠ [] := fun e => ht.ne (List.append_eq_nil_iff.1 e).2
  by_cases hu : u = 77
  · rw [if_pos hu] at h ⊢
    rw [if_neg hne]
    by_cases hr : r = []
    · subst hr; rw [List.nil_append, ht.item]; rfl
    · rw [if_neg hr] at h; exact secs_item_more ht h
  · rw [if_neg hu] at h ⊢; exact secs_more ht h
theorem mins_item_more {len x : Nat} {l t : List UInt8} (ht : Stop t) (h : mins len (item l) = some x) : mins len (item (l ++ t)) = none := by
  rcases hi : SM.item l with _ | ⟨n, u, r⟩
  · rw [hi] at h; simp [mins] at h
  · rw [item_append hi t]; rw [hi] at h; exact mins_more ht h
theorem clock_more {len x n : Nat} {u : UInt8} {r t : List UInt8} (ht : Stop t) (h : clock len (some (n, u, r)) = some x) : clock len (some (n, u, r ++ t)) = none := by
  simp only [clock] at h ⊢
  have hne : r ++ t ≠ [] := fun e => ht.ne (List.append_eq_nil_iff.1 e).2
  by_cases hu : u = 72
  · rw [if_pos hu] at h ⊢
    rw [if_neg hne]
    by_cases hr : r = []
    · subst hr; rw [List.nil_append, ht.item]; rfl
    · rw [if_neg hr] at h; exact mins_item_more ht h
  · rw [if_neg hu] at h ⊢; exact mins_more ht h
theorem clock_item_more {len x : Nat} {l t : List UInt8} (ht : Stop t) (h : clock len (item l) = some x) : clock len (item (l ++ t)) = none := by
  rcases hi : SM.item l with _ | ⟨n, u, r⟩
  · rw [hi] at h; simp [clock] at h
  · rw [item_append hi t]; rw [hi] at h; exact clock_more ht h

/-- behind a number and D. -/
def days (n : Nat) (r : List UInt8) : Option Nat := match r with | [] => some (n * 86400) | 84 :: t => clock (n * 86400) (item t) | _ => none
theorem body_cases (l : List UInt8) : (∃ t, l = 84 :: t ∧ body l = clock 0 (item t)) ∨ ((¬ ∃ t, l = 84 :: t) ∧ ((item l = none ∧ body l = none) ∨ ∃ n u r, item l = some (n, u, r) ∧ body l = if u = 87 then (if r = [] then some (n * 604800) else none) else if u = 68 then days n r else none)) := by
  by_cases h : ∃ t, l = 84 :: t
  · obtain ⟨t, rfl⟩ := h; exact Or.inl ⟨t, rfl, rfl⟩
  · refine Or.inr ⟨h, ?_⟩
    have hb : body l = (match item l with
      | some (n, u, r) => if u = 87 then (if r = [] then some (n * 604800) else none) else if u = 68 then days n r else none
      | none => none) := by
      unfold body; split
      · rename_i t; exact absurd ⟨t, rfl⟩ h
      · rfl
    rcases hi : item l with _ | ⟨n, u, r⟩
    · left; rw [hi] at hb; exact ⟨rfl, hb⟩
    · right; rw [hi] at hb; exact ⟨n, u, r, rfl, hb⟩
theorem days_cases (n : Nat) (r : List UInt8) : (r = [] ∧ days n r = some (n * 86400)) ∨ (∃ t, r = 84 :: t ∧ days n r = clock (n * 86400) (item t)) ∨ days n r = none := by
  unfold days
  split
  · exact Or.inl ⟨rfl, rfl⟩
  · exact Or.inr (Or.inl ⟨_, rfl, rfl⟩)
  · exact Or.inr (Or.inr rfl)
theorem days_ge {n x : Nat} {r : List UInt8} (h : days n r = some x) : n * 86400 ≤ x := by
  rcases days_cases n r with ⟨_, e⟩ | ⟨t, _, e⟩ | e
  · rw [e] at h; cases h; omega
  · rw [e] at h; exact clock_ge h
  · rw [e] at h; cases h
theorem days_cut {n x y : Nat} {r' r : List UInt8} (h : r' <+: r) (hy : days n r' = some y) (hx : days n r = some x) : y ≤ x := by
  rcases days_cases n r' with ⟨_, e⟩ | ⟨t', rfl, e⟩ | e
  · rw [e] at hy; cases hy; exact days_ge hx
  · rw [e] at hy
    obtain ⟨t, rfl⟩ := h
    have e2 : days n (84 :: t' ++ t) = clock (n * 86400) (item (t' ++ t)) := rfl
    rw [e2] at hx
    exact clock_item_cut ⟨t, rfl⟩ hy hx
  · rw [e] at hy; cases hy
theorem body_cut {x y : Nat} {p l : List UInt8} (h : p <+: l) (hy : body p = some y) (hx : body l = some x) : y ≤ x := by
  rcases body_cases p with ⟨t', rfl, e⟩ | ⟨_, ⟨_, e⟩ | ⟨n, u, r', hi, e⟩⟩
  · obtain ⟨t, rfl⟩ := h
    rw [e] at hy
    have e2 : body (84 :: t' ++ t) = clock 0 (item (t' ++ t)) := rfl
    rw [e2] at hx
    exact clock_item_cut ⟨t, rfl⟩ hy hx
  · rw [e] at hy; cases hy
  · rw [e] at hy
    obtain ⟨r, hr, hp⟩ := item_prefix h hi
    rcases body_cases l with ⟨t, rfl, _⟩ | ⟨_, ⟨g, _⟩ | ⟨n2, u2, r2, hi2, e2⟩⟩
    · rw [item_nodigit 84 t (by decide)] at hr; cases hr
    · rw [g] at hr; cases hr
    · rw [hi2] at hr
      obtain ⟨rfl, rfl, rfl⟩ : n2 = n ∧ u2 = u ∧ r2 = r := by simpa using hr
      rw [e2] at hx
      by_cases hu : u2 = 87
      · rw [if_pos hu] at hx hy
        split at hx
        · split at hy
          · cases hx; cases hy; omega
          · cases hy
        · cases hx
      · rw [if_neg hu] at hx hy
        by_cases hv : u2 = 68
        · rw [if_pos hv] at hx hy; exact days_cut hp hy hx
        · rw [if_neg hv] at hy; cases hy
theorem dur_cut {x y : Nat} {p l : List UInt8} (h : p <+: l) (hy : dur p = some y) (hx : dur l = some x) : y ≤ x := by
  rcases p with _ | ⟨c, p⟩
  · simp [dur] at hy
  · by_cases hc : c = 80
    · subst hc
      obtain ⟨t, rfl⟩ := h
      exact body_cut (p := p) (l := p ++ t) ⟨t, rfl⟩ hy hx
    · unfold dur at hy
      split at hy
      · rename_i e; exact absurd (List.cons.inj e).1 hc
      · cases hy
theorem days_more {n x : Nat} {r t : List UInt8} (ht : Stop t) (h : days n r = some x) : days n (r ++ t) = none := by
  rcases days_cases n r with ⟨rfl, _⟩ | ⟨q, rfl, e⟩ | e
  · obtain ⟨c, y, rfl, _, hc⟩ := ht
    show days n (c :: y) = none
    unfold days
    split
    · rename_i e; cases e
    · rename_i e; exact absurd (List.cons.inj e).1 hc
    · rfl
  · rw [e] at h
    show clock (n * 86400) (item (q ++ t)) = none
    exact clock_item_more ht h
  · rw [e] at h; cases h
theorem body_more {x : Nat} {l t : List UInt8} (ht : Stop t) (h : body l = some x) : body (l ++ t) = none := by
  rcases body_cases l with ⟨q, rfl, e⟩ | ⟨_, ⟨_, e⟩ | ⟨n, u, r, hi, e⟩⟩
  · rw [e] at h
    show clock 0 (item (q ++ t)) = none
    exact clock_item_more ht h
  · rw [e] at h; cases h
  · rw [e] at h
    have hr := item_append hi t
    have hne : r ++ t ≠ [] := fun e => ht.ne (List.append_eq_nil_iff.1 e).2
    rcases body_cases (l ++ t) with ⟨q, g, _⟩ | ⟨_, ⟨_, g⟩ | ⟨n2, u2, r2, hi2, e2⟩⟩
    · rw [g, item_nodigit 84 q (by decide)] at hr; cases hr
    · exact g
    · rw [hi2] at hr
      obtain ⟨rfl, rfl, rfl⟩ : n2 = n ∧ u2 = u ∧ r2 = r ++ t := by simpa using hr
      rw [e2]
      by_cases hu : u2 = 87
      · rw [if_pos hu, if_neg hne]
      · rw [if_neg hu] at h ⊢
        by_cases hv : u2 = 68
        · rw [if_pos hv] at h ⊢; exact days_more ht h
        · rw [if_neg hv]
theorem dur_P {l : List UInt8} {x : Nat} (h : dur l = some x) : ∃ t, l = 80 :: t ∧ body t = some x := by
  unfold dur at h
  split at h
  · exact ⟨_, rfl, h⟩
  · cases h
theorem cal_more {l t : List UInt8} {x : Nat} (_ht : Stop t) (hc : cal l = false) (h : dur l = some x) : cal (l ++ t) = false := by
  obtain ⟨b, rfl, hb⟩ := dur_P h
  rcases body_cases b with ⟨q, rfl, _⟩ | ⟨_, ⟨_, e⟩ | ⟨n, u, r, hi, _⟩⟩
  · exact cal_no _ (item_nodigit 84 (q ++ t) (by decide))
  · rw [e] at hb; cases hb
  · have hr := item_append hi t
    simp only [cal, List.cons_append] at hc ⊢
    rw [hi] at hc
    rw [hr]; exact hc
/-- a duration with more behind it is none. -/
theorem p_more {l t : List UInt8} (ht : Stop t) (h : pE l = 0) : pV (l ++ t) = 0 ∧ pE (l ++ t) = 2 := by
  obtain ⟨x, hc, hd, _, _⟩ := p_ok h
  refine p_form (cal_more ht hc hd) ?_
  obtain ⟨b, rfl, hb⟩ := dur_P hd
  exact body_more ht hb
theorem p_cut {p l : List UInt8} (h : p <+: l) (hp : pE p = 0) (hl : pE l = 0) : pV p ≤ pV l := by
  obtain ⟨y, _, hy, _, ey⟩ := p_ok hp
  obtain ⟨x, _, hx, _, ex⟩ := p_ok hl
  rw [ey, ex]; exact dur_cut h hy hx
theorem stop_P : Stop [80] := ⟨80, [], rfl, by decide, by decide⟩
theorem stop_blank : Stop [32] := ⟨32, [], rfl, by decide, by decide⟩
theorem stop_self {l : List UInt8} (h : pE l = 0) : Stop l := by
  obtain ⟨x, _, hd, _, _⟩ := p_ok h
  obtain ⟨t, rfl, _⟩ := dur_P hd
  exact ⟨80, t, rfl, by decide, by decide⟩
theorem pV_le {l : List UInt8} (h : pE l = 0) : pV l ≤ top := by
  obtain ⟨x, _, _, hx, e⟩ := p_ok h
  rw [e]; exact hx
end SM
end Go.Proofs.YtcdfjheklggfhaaDoor
