/- slices.AppendSeq, Collect, SortedFunc at leases; the contract of lease.List at this program. -/
import Derived.Test.YtoejmopppkjaoaaUb
namespace Go.Proofs.Ytoejmopppkjaoaa
open Go.RowKit Go.Maps Go.Shelf Go.Sort
set_option linter.unusedSimpArgs false

attribute [local go_sem] Oper.semAt_some

set_option maxRecDepth 100000 in
set_option maxHeartbeats 2000000 in
theorem appendSeq_in (F : Fence) (n : Nat) (hf : F.fn 48) (hro : F.round = none) (hn : 2 ≤ n) (g : Nat) (lb : Array Value) (hFg : F.fn g) (eg : ∀ args w, (callFunc g args).run Try.prog w = .ok (.enter g args) w)
    (S : List Gr → Prop) (N : Nat) (hN : N ≤ 1000000) (w : World) (hseq : SeqGives F (n - 1) Try.prog g lb gv S N w) :
    CallsIn F n Try.prog 48 #[.slice none 0 0, .func (.func g) #[] lb] w fun e w' => ∃ (v : Value) (ss : List Gr), e = .returned v ∧ S ss ∧ w'.ownsRow w.heap.size 39 3 v ss.length (cg ss) ∧ Below w.heap.size w w' := by
  have h1 : 1 ≤ n := by omega
  refine callsIn_of_wp_marks Try.func48 rfl hf ?_ hro
  simp only [Try.ntmps48, List.size_toArray, List.length_cons, List.length_nil, Nat.reduceAdd, Nat.reduceSub, Array.replicate_succ, Array.replicate_zero, List.push_toArray, List.append_toArray, List.nil_append, List.cons_append]
  gi_wp2
  refine wpIn_rangeFunc ?_
  intro fn hfn
  rw [hro]
  obtain ⟨W0, hW0⟩ : ∃ W0, w.alloc (.cells #[.slice none 0 0] 26) = W0 := ⟨_, rfl⟩
  have hs0 : W0.heap.size = w.heap.size + 1 := by rw [← hW0]; simp
  have hv0 : Boxed W0 w.heap.size 26 (.slice none 0 0) := by rw [← hW0]; exact Boxed.new w _ _
  have hb0 : Below w.heap.size w W0 := by rw [← hW0]; exact (Below.refl _ w).alloc (Nat.le_refl _) _
  rw [hW0]
  obtain ⟨W1, hW1⟩ : ∃ W1, (W0.alloc (.deferred (some []))).alloc (.loop (apRec fn (.func (.func g) #[] lb) w.heap.size W0.heap.size .ready none)) = W1 := ⟨_, rfl⟩
  have hold : ∀ k, k < W0.heap.size → W1.heap[k]? = W0.heap[k]? := fun k hk => by
    rw [← hW1]; exact (Below.heap_alloc _ _ k (by simp; omega)).trans (Below.heap_alloc _ _ k hk)
  have hb1 : Below w.heap.size w W1 := by rw [← hW1]; exact (hb0.alloc hb0.size _).alloc (by have := hb0.size; simp; omega) _
  have hs1 : W1.heap.size = W0.heap.size + 2 := by rw [← hW1]; simp
  have hM : ApAt w fn (.func (.func g) #[] lb) w.heap.size (W0.heap.size + 1) W0.heap.size [] W1 :=
    ⟨⟨_, (hold w.heap.size (by omega)).trans hv0, World.ownsRow_nil _ _ _ _⟩,
     by rw [← hW1]; have := World.alloc_heap_new (W0.alloc (.deferred (some []))) (.loop (apRec fn (.func (.func g) #[] lb) w.heap.size W0.heap.size .ready none)); rwa [World.size_alloc] at this,
     by rw [← hW1]; exact (Below.heap_alloc _ _ _ (by simp)).trans (World.alloc_heap_new W0 _), hb1⟩
  refine ⟨W0.heap.size + 1, [{ target := .collected W0.heap.size, args := #[] }], W1, { target := .fn (.func g) lb, args := #[.func (.yield (W0.heap.size + 1)) #[] #[]] }, W1, g,
    #[.func (.yield (W0.heap.size + 1)) #[] #[]] ++ lb, W1, ?_, ?_, ?_, ?_, fun _ => h1, ?_⟩
  · rw [← hW1]; exact run_enterLoop_outer _ _ _ _ _
  · simp [resolve, go_sem]
  · intro f' hf'; simp [Target.leads] at hf'; subst hf'; exact hFg
  · simp [invoke, go_sem, eg]
  · refine (hseq (W0.heap.size + 1) (ApAt w fn (.func (.func g) #[] lb) w.heap.size (W0.heap.size + 1) W0.heap.size) W1 hb1 (ap_abides _ _ _ _ _ _ _ hb1.size)
      (fun pre x W hJ hl => apYield F (n - 1 - 1) w fn hfn _ w.heap.size (W0.heap.size + 1) W0.heap.size (by omega) (by omega) (Nat.le_refl _) (by omega) N hN pre x W hJ hl) hM).mono ?_
    rintro e W2 ⟨⟨v0, rfl⟩, ss, hS, h2⟩
    obtain ⟨v, hv, hrow⟩ := h2.box
    have hend := run_endLoop (P := Try.prog) h2.L (by simp [apRec])
    obtain ⟨W3, hW3⟩ : ∃ W3, W2.putObj (W0.heap.size + 1) (.loop { apRec fn (.func (.func g) #[] lb) w.heap.size W0.heap.size .ready none with state := .exhausted }) = W3 := ⟨_, rfl⟩
    rw [hW3] at hend
    have hg3 : W2.grownBy W3 (some (W0.heap.size + 1)) := by rw [← hW3]; exact grownBy_putObj' _ _ _
    have hv3 : Boxed W3 w.heap.size 26 v := hv.kept hg3 (fun e => by injection e with e; omega)
    have hK3 : W3.heap[W0.heap.size]? = some (.deferred (some [])) := by rw [← hW3]; exact (World.putObj_heap_other (by omega)).trans h2.K
    have hrow3 : W3.ownsRow w.heap.size 39 3 v ss.length (cg ss) := by rw [← hW3]; exact ownsRow_putObj hrow _ h2.L rfl
    have hb3 : Below w.heap.size w W3 := h2.below.grown hg3 h2.below.size (fun k e => by cases e; omega)
    have hc3 := hv3.cell
    clear hW3
    refine ⟨none, W3, hend, ?_⟩
    gi_wp2
    rw [← hs0]
    refine ⟨by simp, .inl ⟨_, _, rfl, run_takeDeferred hK3, ?_⟩⟩
    exact ⟨_, results_tmp rfl _ _ _, v, ss, rfl, hS, ownsRow_putObj hrow3 _ hK3 rfl, hb3.grown (grownBy_putObj' _ _ _) hb3.size (fun k e => by cases e; omega)⟩
theorem toIn {n : Nat} {f : FuncId} {args : Array Value} {w : World} {R : Ending → World → Prop} (h : CallsIn Fence.wide n Try.prog f args w R) : Calls Try.prog f args w R := callsIn_wide.1 h
set_option maxRecDepth 100000 in
set_option maxHeartbeats 1000000 in
/-- slices.Collect(maps.Values(m)). -/
theorem collect_is (Bm b nn last : Nat) (D : DataW Unit) (L : List Gr) (ok : Ok last L) (q : MapOf Gr.n gd D L) (w : World) (hBm : Bm < w.heap.size) (hm : w.cell? ⟨Bm, 0, none⟩ = some (.map (some b))) (hown : w.ownsMap Try.prog 3 grE b nn D) :
    Calls Try.prog 34 #[.func (.func 35) #[] #[.pointer (some ⟨Bm, 0, none⟩)]] w fun e w' => ∃ (v : Value) (ss : List Gr), e = .returned v ∧ (ss.Nodup ∧ ∀ g, g ∈ ss ↔ g ∈ L) ∧ w'.ownsRow w.heap.size 39 3 v ss.length (cg ss) ∧ Grw w w' := by
  have C := Lib.hid (toIn (appendSeq_in Fence.wide 2 trivial rfl (by decide) 35 #[.pointer (some ⟨Bm, 0, none⟩)] trivial (enters_of Try.func35 (by kernel_rfl) rfl) _ L.length (by have := ok.len; have := ok.top; omega) w
    (vals_gives Fence.wide 1 trivial rfl (by decide) Bm b nn last D L ok q w hBm hm hown)))
  go_enter Try.func34, Try.ntmps34
  go_wp2_with fail
  refine C.out.mono ?_
  rintro _ w1 ⟨v, ss, rfl, hS, hrow, hb⟩
  have X := Lib.hid (And.intro hS (And.intro hrow hb))
  clear hS hrow hb
  go_wp2_with fail
  go_ret
  exact ⟨_, ss, rfl, X.out.1, X.out.2.1, X.out.2.2⟩
set_option maxRecDepth 100000 in
theorem values_is (m : Option Nat) (w : World) : Calls Try.prog 28 #[.map m] w fun e w' => e = .returned (.func (.func 35) #[] #[.pointer (some ⟨w.heap.size, 0, none⟩)]) ∧ w' = w.alloc (.cells #[.map m] 59) := by
  go_enter Try.func28, Try.ntmps28
  go_wp2_with fail
  go_ret
  exact ⟨rfl, rfl⟩
set_option maxRecDepth 100000 in
set_option maxHeartbeats 1000000 in
/-- slices.SortedFunc(maps.Values(m), byNumber). -/
theorem sorted_is (Bm b nn last : Nat) (D : DataW Unit) (L : List Gr) (ok : Ok last L) (q : MapOf Gr.n gd D L) (w : World) (hBm : Bm < w.heap.size) (hm : w.cell? ⟨Bm, 0, none⟩ = some (.map (some b))) (hown : w.ownsMap Try.prog 3 grE b nn D) :
    Calls Try.prog 27 #[.func (.func 35) #[] #[.pointer (some ⟨Bm, 0, none⟩)], .func (.func 29) #[] #[]] w fun e w' => ∃ v, e = .returned v ∧ Told w w' v L ∧ Grw w w' := by
  have C := Lib.hid (collect_is Bm b nn last D L ok q w hBm hm hown)
  have OK := Lib.hid ok
  clear hm hown q
  go_enter Try.func27, Try.ntmps27
  go_wp2_with fail
  refine C.out.mono ?_
  rintro _ w1 ⟨v, ss, rfl, hS, hrow, hb⟩
  have X := Lib.hid (And.intro hS hb)
  rcases hrow.2 with ⟨rfl, h0⟩ | ⟨g, cap, cur, rfl, hgb, _, _⟩
  · have hss : ss = [] := List.eq_nil_of_length_eq_zero h0
    have hL : L = [] := by
      rcases L with _ | ⟨a, L⟩
      · rfl
      · have := (hS.2 a).2 List.mem_cons_self
        rw [hss] at this; cases this
    have S := Lib.hid (fun w => sort_nil 29 w)
    subst hL
    clear hS hrow hb h0 hss
    go_wp2_with fail
    refine (S.out _).mono ?_
    rintro _ w2 ⟨rfl, rfl⟩
    go_wp2_with fail
    go_ret
    exact ⟨_, rfl, ⟨none, 0, rfl, Or.inl rfl, fun a e => by cases e⟩, X.out.2⟩
  · obtain ⟨n, hn⟩ : ∃ n, ss.length = n := ⟨_, rfl⟩
    have hle : ss.length ≤ 1000000 := by
      have h1 := ((List.perm_ext_iff_of_nodup hS.1 (ns_nodup ok.ns)).2 hS.2).length_eq
      have := ok.len; have := ok.top; omega
    rw [hn] at hrow ⊢
    have S := Lib.hid (sort_row 29 ordN swoN layN (enters_of Try.func29 (by kernel_rfl) rfl) w.heap.size g cap ss n w1 hrow hn hle)
    have HN := Lib.hid hn
    have GB := Lib.hid hgb
    clear hS hrow hb hn hle hgb
    go_wp2_with fail
    refine S.out.mono ?_
    rintro _ w6 ⟨rfl, ks, hp, hs, hl, hf⟩
    have ks_eq : ks = L := all_is OK.out X.out.1.1 X.out.1.2 hp (hs.imp (fun {a b} h => by rw [ltN] at h; simpa using h))
    have KL := Lib.hid (And.intro ks_eq (And.intro hl hf))
    have LN : Hid (ks.length = n) := (hp.length_eq.trans HN.out : ks.length = n)
    clear hp hs hl hf ks_eq
    go_wp2_with fail
    go_ret
    refine ⟨_, rfl, ⟨some ⟨g, 0, none⟩, cap, by rw [← KL.out.1, LN.out]; rfl, by rw [← KL.out.1]; exact KL.out.2.1, fun a e => by injection e with e; subst e; exact GB.out⟩, ?_⟩
    exact Frm.grw X.out.2 KL.out.2.2 (fun q e => by rw [e]; exact GB.out)
set_option maxRecDepth 100000 in
set_option maxHeartbeats 1000000 in
theorem list_is {w : World} {p mb jb last : Nat} {L : List Gr} (h : TB w p mb jb last L) :
    Calls Try.prog 22 #[.pointer (some ⟨p, 0, none⟩)] w fun e w' => ∃ v, e = .returned v ∧ Told w w' v L ∧ Grw w w' := by
  obtain ⟨D, o1, q1⟩ := h.m1
  have c1 := h.c1
  have g1 : Grw w (w.alloc (.cells #[.map (some mb)] 59)) := (Grw.rfl' w).alloc _
  have V := Lib.hid (fun w => values_is (some mb) w)
  have S := Lib.hid (sorted_is w.heap.size mb last last D L h.ok q1 (w.alloc (.cells #[.map (some mb)] 59)) (by simp [go_sem]) (by simp [go_sem]) (ownsMap_frm o1 (g1.frm (fun _ => False)) (fun e => e)))
  clear h o1 q1 g1
  go_enter Try.func22, Try.ntmps22
  go_wp2_with fail
  refine (V.out _).mono ?_
  rintro _ w1 ⟨rfl, rfl⟩
  go_wp2_with fail
  refine S.out.mono ?_
  rintro _ w2 ⟨v, rfl, ⟨ao, cap, rfl, hl, hb⟩, g2⟩
  have X := Lib.hid (And.intro hl (And.intro hb g2))
  clear hl hb g2
  go_wp2_with fail
  go_ret
  exact ⟨_, rfl, ⟨ao, cap, rfl, X.out.1, fun a e => by have := X.out.2.1 a e; simp only [size_new] at this; omega⟩, X.out.2.2.two⟩
set_option maxRecDepth 100000 in
theorem list_nil (w : World) : Calls Try.prog 22 #[.pointer none] w fun e w' => e = .returned (.slice none 0 0) ∧ w = w' := by
  go_enter Try.func22, Try.ntmps22
  go_wp2_with fail
  go_ret
  exact ⟨rfl, rfl⟩
set_option maxRecDepth 100000 in
theorem over_nil (t : Nat) (w : World) : Calls Try.prog 15 #[.pointer none, .int .u64 (t : Nat)] w fun e w' => e = .returned (.slice none 0 0) ∧ w = w' := by
  go_enter Try.func15, Try.ntmps15
  go_wp2_with fail
  go_ret
  exact ⟨rfl, rfl⟩
end Go.Proofs.Ytoejmopppkjaoaa
