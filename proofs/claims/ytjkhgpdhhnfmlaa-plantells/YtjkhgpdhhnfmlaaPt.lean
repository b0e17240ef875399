/- The contract of plan.Sort at this program. -/
import Derived.Test.YtjkhgpdhhnfmlaaPs
import Derived.Shelf.SlSortCmp.NoneTotal
namespace Go.Proofs.Ytjkhgpdhhnfmlaa
open Go.RowKit Go.Shelf Go.Sort
open RG (Du)
open PM
set_option linter.unusedSimpArgs false

/-- a sorted permutation is the sorted list. -/
theorem sort_out {l : List Du} {d : Array Du} (hp : PermIn 0 l.toArray.size l.toArray d) (hs : SortedIn (ltOf ord) 0 l.toArray.size d) : d.toList = RG.sort l := by
  obtain ⟨h1, _, h3⟩ := hp
  have e1 : d.extract 0 l.toArray.size = d := by rw [← h1]; simp
  have e2 : l.toArray.extract 0 l.toArray.size = l.toArray := by simp
  rw [e1, e2] at h3
  refine (RG.sort_is ?_ (by simpa using h3)).symm
  refine List.pairwise_iff_getElem.2 fun i j hi hj hij => ?_
  have hi' : i < d.size := by simpa using hi
  have hj' : j < d.size := by simpa using hj
  have h := hs i j (Nat.zero_le _) hij (by rw [← h1]; exact hj')
  rw [lt_ord] at h
  have a1 : d[j]! = d.toList[j] := by simp [getElem!_pos, hj']
  have a2 : d[i]! = d.toList[i] := by simp [getElem!_pos, hi']
  rw [a1, a2] at h
  exact h
theorem sortf_row (g cap : Nat) (l : List Du) (n : Nat) (w w0 : World) (h : w.ownsRow w0.heap.size 25 2 (.slice (some ⟨g, 0, none⟩) n cap) n (cd l)) (hn : l.length = n) (hb : l.length ≤ 1000000) (hg : Grw w0 w) :
    Calls Try.prog 29 #[.slice (some ⟨g, 0, none⟩) n cap, .func (.func 22) #[] #[]] w fun e w' => e = .returned (.tuple #[]) ∧ Lies w' (some ⟨g, 0, none⟩) (cd (RG.sort l)) ∧ Grw w0 w' := by
  subst hn
  have hlt := World.ownsRow.lt h g rfl
  have eg : ∀ args w, (callFunc 22 args).run Try.prog w = .ok (.enter 22 args) w := enters_of Try.func22 (by kernel_rfl) rfl
  have hsz : l.toArray.size = l.length := by simp
  have hcon := AnyQ.slices_SortFunc Try.sortDue 2 Try.isAgg25 Try.sizeOf25 encD enc_len enc_one ord swo 22 #[] g 0 cap l.toArray w eg (cmpLays g 0 _ w) (holds_row h rfl) hlt.2 (by rw [hsz]; omega)
  rw [hsz] at hcon
  change Calls Try.prog 29 _ _ _ at hcon
  refine hcon.mono ?_
  rintro e w' ⟨rfl, d', m, os, hp, hs, rfl⟩
  rw [← hsz] at hp hs
  have hH : HoldsK encD 2 (sortWorldK encD 2 w g 0 m d' os) g 0 d' := holdsK_sortWorldK_c encD 2 w g 0 l.toArray d' m os (holds_row h rfl) hlt.2 hp.1
  have hlt2 : g < (sortWorldK encD 2 w g 0 m d' os).heap.size := Nat.lt_of_lt_of_le hlt.2 (frm_sort w g m d' os).size
  have hli := lies_holds hH hlt2
  rw [sort_out hp hs] at hli
  exact ⟨rfl, hli, (frm_sort w g m d' os).grw hg (fun k hk => by subst hk; exact hlt.1)⟩
/-- timers as they came in or were made: nil, or where they lie. -/
def Are (w : World) (v : Value) (l : List Du) : Prop := (v = .slice none 0 0 ∧ l = []) ∨ ∃ a cap, v = .slice (some a) l.length cap ∧ Lies w (some a) (cd l)
theorem Are.later {w x : World} {v : Value} {l : List Du} (h : Are w v l) (g : Grw w x) : Are x v l := by
  rcases h with h | ⟨a, cap, e, h⟩
  · exact Or.inl h
  · exact Or.inr ⟨a, cap, e, h.later g⟩
theorem Are.row {w : World} {v : Value} {l : List Du} (h : Are w v l) : RowD w v l := by
  rcases h with ⟨rfl, rfl⟩ | ⟨a, cap, e, h⟩
  · exact ⟨none, 0, rfl, Or.inl rfl⟩
  · exact ⟨some a, cap, e, h⟩
def PsQ (l : List Du) (w : World) (e : Ending) (w' : World) : Prop := ∃ v, e = .returned v ∧ Are w' v (RG.sort l) ∧ Grw w w'
theorem sort_nil (w : World) : Calls Try.prog 29 #[.slice none 0 0, .func (.func 22) #[] #[]] w fun e w' => e = .returned (.tuple #[]) ∧ w' = w :=
  AnyF.slices_SortFunc_none Try.sortDue none 0 (.func (.func 22) #[] #[]) w
set_option maxRecDepth 100000 in
theorem psort_is (v : Value) (l : List Du) (w : World) (h : Are w v l) (hb : l.length ≤ 1000000) : Calls Try.prog 17 #[v] w (PsQ l w) := by
  rcases h with ⟨rfl, rfl⟩ | ⟨a, cap, rfl, h⟩
  · have C := Lib.hid (fun w => clone_nil w)
    have S' := Lib.hid (fun w => sort_nil w)
    go_enter Try.func17, Try.ntmps17
    go_wp2_with fail
    refine (C.out _).mono ?_
    rintro _ w1 ⟨rfl, rfl⟩
    go_wp2_with fail
    refine (S'.out _).mono ?_
    rintro _ w1 ⟨rfl, rfl⟩
    go_wp2_with fail
    go_ret
    exact ⟨_, rfl, Or.inl ⟨rfl, rfl⟩, Grw.rfl' _⟩
  · have C := Lib.hid (clone_some a cap l w h hb)
    obtain ⟨n, hn⟩ : ∃ n, l.length = n := ⟨_, rfl⟩
    rw [hn] at C ⊢
    have HN := Lib.hid hn
    clear h hn
    go_enter Try.func17, Try.ntmps17
    go_wp2_with fail
    refine C.out.mono ?_
    rintro _ w1 ⟨v', rfl, hown, hg⟩
    rcases hown.2 with ⟨h1, h2⟩ | ⟨g, cap', cur, h1, _⟩
    · subst h1
      have hl : l = [] := List.eq_nil_of_length_eq_zero h2
      have S' := Lib.hid (fun w => sort_nil w)
      have G := Lib.hid hg
      clear hown hg h2
      go_wp2_with fail
      refine (S'.out _).mono ?_
      rintro _ w2 ⟨rfl, rfl⟩
      go_wp2_with fail
      go_ret
      exact ⟨_, rfl, Or.inl ⟨rfl, by rw [hl]; rfl⟩, G.out⟩
    · subst h1
      have S := Lib.hid (sortf_row g cap' l n w1 w (by rw [HN.out] at hown; exact hown) HN.out hb hg)
      rw [HN.out]
      clear hown hg
      go_wp2_with fail
      refine S.out.mono ?_
      rintro _ w2 ⟨rfl, hl, hg⟩
      have U := Lib.hid (And.intro hl hg)
      clear hl hg
      go_wp2_with fail
      go_ret
      exact ⟨_, rfl, Or.inr ⟨_, cap', by rw [RG.sort_len, HN.out]; rfl, U.out.1⟩, U.out.2⟩
end Go.Proofs.Ytjkhgpdhhnfmlaa
