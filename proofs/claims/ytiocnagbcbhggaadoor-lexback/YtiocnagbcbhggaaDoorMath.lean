/- Durations as lists of bytes: numbers, items, and what a text of them lasts. Nothing of the program is named here. -/
import Derived.Lib.ItoaNum
import Derived.Lib.SlTrimSet
import Derived.Lib.Strings
namespace Go.Proofs.YtiocnagbcbhggaaDoor
namespace SM

/-- a decimal digit. -/
def isD (c : UInt8) : Bool := [48, 49, 50, 51, 52, 53, 54, 55, 56, 57].contains c
theorem isD_iff (c : UInt8) : isD c = true ↔ 48 ≤ c.toNat ∧ c.toNat ≤ 57 := by
  have h : ∀ c : UInt8, isD c = (decide (48 ≤ c.toNat) && decide (c.toNat ≤ 57)) := by
    intro c
    have : ∀ n : Fin 256, isD (UInt8.ofNat n.val) = (decide (48 ≤ (UInt8.ofNat n.val).toNat) && decide ((UInt8.ofNat n.val).toNat ≤ 57)) := by decide +kernel
    have g := this ⟨c.toNat, c.toNat_lt⟩
    simpa using g
  rw [h]; simp

def ds (l : List UInt8) : List UInt8 := l.takeWhile isD
def bh (l : List UInt8) : List UInt8 := l.dropWhile isD
theorem ds_bh (l : List UInt8) : ds l ++ bh l = l := List.takeWhile_append_dropWhile

def numB (d : List UInt8) : Bool := decide (1 ≤ d.length) && decide (d.length ≤ 15) && (decide (d.head? ≠ some 48) || decide (d.length = 1))
def nval (d : List UInt8) : Nat := d.foldl (fun n c => 10 * n + (c.toNat - 48)) 0

theorem nval_snoc (d : List UInt8) (c : UInt8) : nval (d ++ [c]) = 10 * nval d + (c.toNat - 48) := by unfold nval; simp

theorem fold_lt : ∀ (d : List UInt8) (a : Nat), (∀ c ∈ d, isD c = true) → d.foldl (fun n c => 10 * n + (c.toNat - 48)) a < (a + 1) * 10 ^ d.length
  | [], a, _ => by simp
  | c :: d, a, h => by
    have hc := (isD_iff c).1 (h c (by simp))
    have := fold_lt d (10 * a + (c.toNat - 48)) (fun x hx => h x (by simp [hx]))
    simp only [List.foldl_cons, List.length_cons, Nat.pow_succ]
    have e : (10 * a + (c.toNat - 48) + 1) * 10 ^ d.length ≤ (a + 1) * 10 * 10 ^ d.length := Nat.mul_le_mul_right _ (by omega)
    have e2 : (a + 1) * 10 * 10 ^ d.length = (a + 1) * (10 ^ d.length * 10) := by rw [Nat.mul_assoc, Nat.mul_comm 10]
    omega
theorem nval_lt (d : List UInt8) (h : ∀ c ∈ d, isD c = true) : nval d < 10 ^ d.length := by
  have := fold_lt d 0 h
  simpa [nval] using this

/-- a number, the letter behind it, what follows. -/
def item (l : List UInt8) : Option (Nat × UInt8 × List UInt8) :=
  match bh l with
  | [] => none
  | u :: r => if numB (ds l) then some (nval (ds l), u, r) else none

theorem ds_all (l : List UInt8) : ∀ c ∈ ds l, isD c = true := by
  intro c hc
  have := List.all_takeWhile (p := isD) (l := l)
  rw [List.all_eq_true] at this
  exact this c hc

theorem bh_head (l : List UInt8) (u : UInt8) (r : List UInt8) (h : bh l = u :: r) : isD u = false := by
  have := List.head?_dropWhile_not isD l
  unfold bh at h
  rw [h] at this
  simpa using this

theorem numB_len {d : List UInt8} (h : numB d = true) : 1 ≤ d.length ∧ d.length ≤ 15 := by
  unfold numB at h; simp at h; omega

theorem item_lt {l : List UInt8} {n : Nat} {u : UInt8} {r : List UInt8} (h : item l = some (n, u, r)) : n < 1000000000000000 := by
  unfold item at h
  split at h
  · cases h
  · split at h
    · rename_i hn
      simp only [Option.some.injEq, Prod.mk.injEq] at h
      obtain ⟨rfl, _, _⟩ := h
      have h1 := nval_lt (ds l) (ds_all l)
      have h2 := (numB_len hn).2
      have h3 : 10 ^ (ds l).length ≤ 10 ^ 15 := Nat.pow_le_pow_right (by omega) h2
      omega
    · cases h

theorem item_len {l : List UInt8} {n : Nat} {u : UInt8} {r : List UInt8} (h : item l = some (n, u, r)) : r.length < l.length := by
  unfold item at h
  split at h
  · cases h
  · rename_i u' r' hb
    split at h
    · simp only [Option.some.injEq, Prod.mk.injEq] at h
      obtain ⟨_, _, rfl⟩ := h
      have := congrArg List.length (ds_bh l)
      rw [hb] at this
      simp at this
      omega
    · cases h

/-- the shape of an item. -/
theorem item_mk (d : List UInt8) (u : UInt8) (r : List UInt8) (hd : ∀ c ∈ d, isD c = true) (hn : numB d = true) (hu : isD u = false) : item (d ++ u :: r) = some (nval d, u, r) := by
  have h1 : ds (d ++ u :: r) = d := by
    unfold ds
    rw [List.takeWhile_append_of_pos hd, List.takeWhile_cons, hu]; simp
  have h2 : bh (d ++ u :: r) = u :: r := by
    unfold bh
    rw [List.dropWhile_append_of_pos hd, List.dropWhile_cons, hu]; simp
  unfold item
  rw [h1, h2]; simp [hn]

theorem item_of {l : List UInt8} {n : Nat} {u : UInt8} {r : List UInt8} (h : item l = some (n, u, r)) :
    ∃ d : List UInt8, l = d ++ u :: r ∧ (∀ c ∈ d, isD c = true) ∧ numB d = true ∧ isD u = false ∧ n = nval d := by
  unfold item at h
  split at h
  · cases h
  · rename_i u' r' hb
    split at h
    · rename_i hn
      simp only [Option.some.injEq, Prod.mk.injEq] at h
      obtain ⟨rfl, rfl, rfl⟩ := h
      exact ⟨ds l, by rw [← hb]; exact (ds_bh l).symm, ds_all l, hn, bh_head l _ _ hb, rfl⟩
    · cases h

theorem item_append {l : List UInt8} {n : Nat} {u : UInt8} {r : List UInt8} (h : item l = some (n, u, r)) (t : List UInt8) : item (l ++ t) = some (n, u, r ++ t) := by
  obtain ⟨d, rfl, hd, hn, hu, rfl⟩ := item_of h
  have := item_mk d u (r ++ t) hd hn hu
  simpa using this

theorem item_prefix {p l : List UInt8} {n : Nat} {u : UInt8} {r' : List UInt8} (hp : p <+: l) (h : item p = some (n, u, r')) : ∃ r, item l = some (n, u, r) ∧ r' <+: r := by
  obtain ⟨t, rfl⟩ := hp
  exact ⟨r' ++ t, item_append h t, ⟨t, rfl⟩⟩

/-- a text that does not begin with a digit has no item. -/
theorem item_nodigit (c : UInt8) (t : List UInt8) (h : isD c = false) : item (c :: t) = none := by
  have h1 : ds (c :: t) = [] := by unfold ds; rw [List.takeWhile_cons, h]; simp
  have h2 : bh (c :: t) = c :: t := by unfold bh; rw [List.dropWhile_cons, h]; simp
  unfold item
  rw [h1, h2]; simp [numB]
theorem item_nil : item [] = none := rfl

/-! ### the clock's part, and the whole -/
def secs (len : Nat) : Option (Nat × UInt8 × List UInt8) → Option Nat
  | some (n, u, r) => if u = 83 ∧ r = [] then some (len + n) else none
  | none => none
def mins (len : Nat) : Option (Nat × UInt8 × List UInt8) → Option Nat
  | some (n, u, r) => if u = 77 then (if r = [] then some (len + n * 60) else secs (len + n * 60) (item r)) else secs len (some (n, u, r))
  | none => none
def clock (len : Nat) : Option (Nat × UInt8 × List UInt8) → Option Nat
  | some (n, u, r) => if u = 72 then (if r = [] then some (len + n * 3600) else mins (len + n * 3600) (item r)) else mins len (some (n, u, r))
  | none => none

/-- behind P. -/
def body (l : List UInt8) : Option Nat :=
  match l with
  | 84 :: t => clock 0 (item t)
  | l => match item l with
    | some (n, u, r) => if u = 87 then (if r = [] then some (n * 604800) else none) else if u = 68 then (match r with | [] => some (n * 86400) | 84 :: t => clock (n * 86400) (item t) | _ => none) else none
    | none => none
def dur (l : List UInt8) : Option Nat := match l with | 80 :: t => body t | _ => none
def cal (l : List UInt8) : Bool := match l with | 80 :: t => (match item t with | some (_, u, _) => u == 89 || u == 77 | none => false) | _ => false

def top : Nat := 1125899906842624
def pV (l : List UInt8) : Nat := if cal l then 0 else match dur l with | none => 0 | some x => if x ≤ top then x else 0
def pE (l : List UInt8) : Nat := if cal l then 4 else match dur l with | none => 2 | some x => if x ≤ top then 0 else 3

/-! ### how a length is written -/
def cnt (n : Nat) (c : UInt8) : List UInt8 := if n = 0 then [] else Lib.decDigits n ++ [c]
def clk (x : Nat) : List UInt8 := cnt (x % 86400 / 3600) 72 ++ cnt (x % 3600 / 60) 77 ++ cnt (x % 60) 83
def printS (x : Nat) : List UInt8 :=
  if x = 0 then [80, 84, 48, 83] else if x % 604800 = 0 then 80 :: cnt (x / 604800) 87 else 80 :: (cnt (x / 86400) 68 ++ (if clk x = [] then [] else 84 :: clk x))
end SM
end Go.Proofs.YtiocnagbcbhggaaDoor
