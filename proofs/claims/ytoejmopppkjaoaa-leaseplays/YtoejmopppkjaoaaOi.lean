/- What a walk over the map of leases has gathered; nothing of the program is named here. -/
import Derived.Test.YtoejmopppkjaoaaLm
namespace Go.Proofs.Ytoejmopppkjaoaa
open Go.Maps (Keyed IsMap Tidy)

theorem same_ky (a b : Int) : (ky a).sameKey (ky b) = decide (a = b) := by
  by_cases h : a = b
  · subst h; rw [WideAt.sameKey_self (ky_lit _)]; simp
  · rw [Maps.sameKey_ne (ky_ne h)]; simp [h]
def strike (left : Lit → Bool) (i : Int) : Lit → Bool := fun z => left z && !z.sameKey (ky i)
theorem strike_at (left : Lit → Bool) (i j : Int) : strike left i (ky j) = (left (ky j) && !decide (j = i)) := by unfold strike; rw [same_ky]
/-- os: those of L that are wanted and have come; left: who is still to come. -/
structure OvI (want : Gr → Prop) (D : DataW Unit) (L : List Gr) (left : Lit → Bool) (os : List Gr) : Prop where
  has : ∀ kl, left kl = true → Maps.has D kl = true
  mem : ∀ g ∈ L, left (ky g.n) = false → (g ∈ os ↔ want g)
  sub : ∀ g ∈ os, g ∈ L ∧ want g ∧ left (ky g.n) = false
  nd : os.Nodup
variable {want : Gr → Prop} {D : DataW Unit} {L os : List Gr} {left : Lit → Bool} {last : Nat}
theorem OvI.start (q : MapOf Gr.n gd D L) : OvI want D L (Maps.has D) [] :=
  ⟨fun _ h => h, fun g hg h => by (rw [(q.yes g hg).1] at h; cases h), (fun _ h => by cases h), List.nodup_nil⟩
/-- what comes is one of L. -/
theorem OvI.comes (h : OvI want D L left os) (q : MapOf Gr.n gd D L) {x : Int} {c : Gr} {y : DataW Unit × List MemPlace} (hl : left (ky x) = true) (hv : grE (gv c) = some y) (hat : ∀ z, D.atKey (ky x) z = y.1) : c ∈ L ∧ c.n = x := by
  obtain ⟨g, hg, hx⟩ := q.hit (h.has _ hl)
  have e := (q.yes g hg).2 (.map [])
  rw [hx, hat, ← (Option.some.inj ((grE_mk c).symm.trans hv))] at e
  have := gd_inj e
  subst this
  exact ⟨hg, hx⟩
theorem OvI.take (h : OvI want D L left os) (ok : Ok last L) {c : Gr} (hc : c ∈ L) (hl : left (ky c.n) = true) (hw : want c) : OvI want D L (strike left c.n) (os ++ [c]) := by
  refine ⟨fun kl hk => h.has kl (by unfold strike at hk; simp at hk; exact hk.1), fun g hg hn => ?_, fun g hg => ?_, ?_⟩
  · by_cases e : g.n = c.n
    · have := ok.n_inj hg hc e
      subst this
      simp [hw]
    · rw [strike_at] at hn
      simp [e] at hn
      have hne : g ≠ c := fun c' => e (by rw [c'])
      rw [List.mem_append, h.mem g hg hn]
      simp [hne]
  · rcases List.mem_append.1 hg with hg | hg
    · have := h.sub g hg
      exact ⟨this.1, this.2.1, by rw [strike_at, this.2.2]; rfl⟩
    · obtain rfl := List.mem_singleton.1 hg
      exact ⟨hc, hw, by rw [strike_at]; simp⟩
  · refine List.nodup_append.2 ⟨h.nd, by simp, fun a ha b hb e => ?_⟩
    obtain rfl := List.mem_singleton.1 hb
    subst e
    rw [(h.sub a ha).2.2] at hl
    cases hl
theorem OvI.skip (h : OvI want D L left os) (ok : Ok last L) {c : Gr} (hc : c ∈ L) (hl : left (ky c.n) = true) (hw : ¬ want c) : OvI want D L (strike left c.n) os := by
  refine ⟨fun kl hk => h.has kl (by unfold strike at hk; simp at hk; exact hk.1), fun g hg hn => ?_, fun g hg => ?_, h.nd⟩
  · by_cases e : g.n = c.n
    · have := ok.n_inj hg hc e
      subst this
      refine ⟨fun hm => ?_, fun hw' => absurd hw' hw⟩
      rw [(h.sub g hm).2.2] at hl
      cases hl
    · rw [strike_at] at hn
      simp [e] at hn
      exact h.mem g hg hn
  · have := h.sub g hg
    exact ⟨this.1, this.2.1, by rw [strike_at, this.2.2]; rfl⟩
theorem OvI.all (h : OvI want D L left os) (hl : ∀ kl, left kl = false) (g : Gr) : g ∈ os ↔ g ∈ L ∧ want g :=
  ⟨fun hg => ⟨(h.sub g hg).1, (h.sub g hg).2.1⟩, fun hg => (h.mem g hg.1 (hl _)).2 hg.2⟩
theorem ns_nodup {l : List Gr} (h : l.Pairwise (fun a b => a.n ≠ b.n)) : l.Nodup := h.imp (fun {_ _} hn e => hn (by rw [e]))
/-- sorted by end and number: those that are over. -/
theorem ov_is (ok : Ok last L) {t : Nat} {os k : List Gr} (hnd : os.Nodup) (hm : ∀ g, g ∈ os ↔ g ∈ L ∧ g.u ≤ t) (hp : k.Perm os) (hs : k.Pairwise (fun a b => ¬ lt b a)) : k = ov t L := by
  have sub : (L.filter (fun g => decide (g.u ≤ t))).Sublist L := List.filter_sublist
  have asc := ok.asc.sublist sub
  have hp2 : k.Perm (L.filter (fun g => decide (g.u ≤ t))) := hp.trans ((List.perm_ext_iff_of_nodup hnd (ns_nodup (ok.ns.sublist sub))).2 (fun a => by rw [hm]; simp))
  have hn : k.Pairwise (fun a b => a.n ≠ b.n) := (hp2.symm.pairwise_iff (R := fun a b : Gr => a.n ≠ b.n) (fun {_ _} h => Ne.symm h)).1 (ok.ns.sublist sub)
  exact srtG_is asc (hs.imp₂ (fun a b h1 h2 => by unfold lt at *; omega) hn) hp2
/-- sorted by number: all of them. -/
theorem all_is (ok : Ok last L) {os k : List Gr} (hnd : os.Nodup) (hm : ∀ g, g ∈ os ↔ g ∈ L) (hp : k.Perm os) (hs : k.Pairwise (fun a b => ¬ b.n < a.n)) : k = L := by
  have hp2 : k.Perm L := hp.trans ((List.perm_ext_iff_of_nodup hnd (ns_nodup ok.ns)).2 hm)
  have hn : k.Pairwise (fun a b => a.n ≠ b.n) := (hp2.symm.pairwise_iff (R := fun a b : Gr => a.n ≠ b.n) (fun {_ _} h => Ne.symm h)).1 ok.ns
  exact pw_perm (fun a b h1 h2 => by omega) (hs.imp₂ (S := fun a b => a.n ≠ b.n) (T := fun a b => a.n < b.n) (fun a b h1 h2 => by omega) hn) ok.asc hp2
end Go.Proofs.Ytoejmopppkjaoaa
