/- The walk of wheel.Advance at this program. -/
import Derived.Test.YtjkhgpdhhnfmlaaDoorXm
namespace Go.Proofs.YtjkhgpdhhnfmlaaDoor
open Go.RowKit TM MK
open RG (Du La listR putB putR dropR dropO takeR hasId Srt)
open VM (RK BK lvl idsD)
set_option linter.unusedSimpArgs false

def slen : Value → Nat
  | .slice _ n _ => n
  | _ => 0
theorem one_due (w : World) (d : Du) : ∀ j u, (cd [d])[j]? = some u → (w.alloc (.cells #[.int .i64 d.id, .int .u64 (d.t : Nat)] 42)).cell? ((⟨w.heap.size, 0, none⟩ : Addr).add j) = some u := by
  intro j u hj
  rcases j with _ | _ | j
  · injection hj with hj
    subst hj
    simp [go_sem, Addr.add]
  · injection hj with hj
    subst hj
    simp [go_sem, Addr.add]
  · simp [cd] at hj
/-- at the head of Advance's loop: k timers gathered; the last one popped, if there was one. -/
def AR (w : World) (S : Sh) (to N : Nat) (L : List Du) (u8 u9 u10 : Value) (wr : World) : Prop :=
  ∃ (k X : Nat) (Si : Sh) (o : Bool) (d : Du) (ao : Option Addr) (cap : Nat), u8 = .slice ao k cap ∧ u9 = .pointer (some ⟨X, 0, none⟩) ∧ u10 = .bool o ∧ Kp wr X (.int .i64 d.id) (.int .u64 (d.t : Nat)) ∧
    ((o = true ∧ k < N ∧ L.take (k + 1) = L.take k ++ [d] ∧ d.t ≤ to ∧ Av w wr S Si d.t (L.drop (k + 1)) (.slice ao k cap) (L.take k) X) ∨ (o = false ∧ k = N ∧ Av w wr S Si to (L.drop k) (.slice ao k cap) (L.take k) X))
theorem AR.mk1 {w wr : World} {S Si : Sh} {to N : Nat} {L : List Du} {k X : Nat} {d : Du} {v : Value} (h : Av w wr S Si d.t (L.drop (k + 1)) v (L.take k) X) (hk : k < N) (hN : N ≤ L.length) (ht : L.take (k + 1) = L.take k ++ [d]) (hd : d.t ≤ to) (kp : Kp wr X (.int .i64 d.id) (.int .u64 (d.t : Nat))) : AR w S to N L v (.pointer (some ⟨X, 0, none⟩)) (.bool true) wr := by
  obtain ⟨ao, cap, e, _⟩ := ownsRow_lies h.row
  have el : (L.take k).length = k := by rw [List.length_take]; omega
  rw [el] at e
  subst e
  exact ⟨k, X, Si, true, d, ao, cap, rfl, rfl, rfl, kp, Or.inl ⟨rfl, hk, ht, hd, h⟩⟩
theorem AR.mk0 {w wr : World} {S Si : Sh} {to N : Nat} {L : List Du} {k X : Nat} {d : Du} {v : Value} (h : Av w wr S Si to (L.drop k) v (L.take k) X) (hk : k = N) (hN : N ≤ L.length) (kp : Kp wr X (.int .i64 d.id) (.int .u64 (d.t : Nat))) : AR w S to N L v (.pointer (some ⟨X, 0, none⟩)) (.bool false) wr := by
  obtain ⟨ao, cap, e, _⟩ := ownsRow_lies h.row
  have el : (L.take k).length = k := by rw [List.length_take]; omega
  rw [el] at e
  subst e
  exact ⟨k, X, Si, false, d, ao, cap, rfl, rfl, rfl, kp, Or.inr ⟨rfl, hk, h⟩⟩
theorem Kp.set2 {w : World} {b : Nat} {c0 c1 a0 a1 : Value} (h : Kp w b c0 c1) : Kp ((w.setCell ⟨b, 0, none⟩ a0).setCell ⟨b, 1, none⟩ a1) b a0 a1 := by
  have h0 := h.t.c0
  have h1 := h.t.c1
  have f0 := h.t.f0
  have f1 := h.t.f1
  have hl := h.lt
  refine ⟨⟨?_, ?_, ?_, ?_⟩, by simp [World.setCell]; exact hl⟩
  · simp [go_sem, h0, h1]
  · simp [go_sem, h0, h1]
  · simp [go_sem, f0, f1]
  · simp [go_sem, f0, f1]
set_option maxHeartbeats 4000000 in
set_option maxRecDepth 100000 in
theorem advance_ok (S : Sh) (now n : Nat) (L : List Du) (w : World) (h : WR w S now L) (hs : now + n < 2 ^ 64) :
    Calls Tryd.prog 15 #[.pointer (some ⟨S.p, 0, none⟩), .int .u64 n] w (AdvQ S w (now + n) (L.dropWhile (dueP (now + n))) (L.takeWhile (dueP (now + n)))) := by
  obtain ⟨to, hto⟩ : ∃ to, now + n = to := ⟨_, rfl⟩
  have SU : Hid (∀ u, Calls Tryd.prog 39 #[.int .u64 (now : Nat), .int .u64 (n : Nat)] u fun e w' => e = .returned (.tuple #[.int .u64 (to : Nat), .bool true]) ∧ u = w') := (fun u => by
      have := sum_yes (now : Int) (n : Int) u (by omega) (by omega) (by omega)
      rw [show (now : Int) + (n : Int) = (to : Int) by omega] at this
      exact this : ∀ u, Calls Tryd.prog 39 #[.int .u64 (now : Nat), .int .u64 (n : Nat)] u fun e w' => e = .returned (.tuple #[.int .u64 (to : Nat), .bool true]) ∧ u = w')
  rw [hto] at hs ⊢
  obtain ⟨D, hwg, _⟩ := h.wg
  have c0 := hwg.cells.c0
  have hsrt := h.gl.srt
  have hfew := h.gl.few
  obtain ⟨N, hN⟩ : ∃ N, twN (dueP to) L = N := ⟨_, rfl⟩
  have hNL : N ≤ L.length := by rw [← hN]; exact twN_le _ _
  have PA : Hid (∀ (S1 : Sh) (nw k : Nat) (u : World), S1.p = S.p → WR u S1 nw (L.drop k) → k ≤ N → nw ≤ to → (∃ d : Du, k < N ∧ L.take (k + 1) = L.take k ++ [d] ∧ d.t ≤ to ∧ Calls Tryd.prog 13 #[.pointer (some ⟨S.p, 0, none⟩), .int .u64 to] u (PopQ S1 u d true d.t (L.drop (k + 1)))) ∨
    (k = N ∧ Calls Tryd.prog 13 #[.pointer (some ⟨S.p, 0, none⟩), .int .u64 to] u (PopQ S1 u ⟨0, 0⟩ false to (L.drop k)))) := (fun S1 nw k u e1 h1 hk hn => by
      rcases pop_at S1 nw to k L u h1 hsrt (by omega) hs hn with ⟨hk', g, q⟩ | ⟨g, q⟩
      · rw [e1] at q
        have h2 := (twN_yes (p := dueP to) (B := L) (i := k) g).2
        exact Or.inl ⟨L[k], by omega, by rw [List.take_succ_eq_append_getElem hk'], of_decide_eq_true h2, q⟩
      · rw [e1] at q
        exact Or.inr ⟨by omega, q⟩ : ∀ (S1 : Sh) (nw k : Nat) (u : World), S1.p = S.p → WR u S1 nw (L.drop k) → k ≤ N → nw ≤ to → (∃ d : Du, k < N ∧ L.take (k + 1) = L.take k ++ [d] ∧ d.t ≤ to ∧ Calls Tryd.prog 13 #[.pointer (some ⟨S.p, 0, none⟩), .int .u64 to] u (PopQ S1 u d true d.t (L.drop (k + 1)))) ∨
    (k = N ∧ Calls Tryd.prog 13 #[.pointer (some ⟨S.p, 0, none⟩), .int .u64 to] u (PopQ S1 u ⟨0, 0⟩ false to (L.drop k))))
  have HN : Hid (L.take N = L.takeWhile (dueP to) ∧ L.drop N = L.dropWhile (dueP to)) := (⟨by rw [← hN]; exact twN_take _ _, by rw [← hN]; exact twN_drop _ _⟩ : L.take N = L.takeWhile (dueP to) ∧ L.drop N = L.dropWhile (dueP to))
  have POS := Lib.hid (tab_pos h.tab)
  have P0 := Lib.hid (PA.out S now 0 w rfl (by rw [List.drop_zero]; exact h) (by omega) (by omega))
  obtain ⟨i0, hi, hz0, hz1, hz2⟩ := info_parts Tryd.info42
  obtain ⟨Q, hQ⟩ : ∃ Q : Ending → World → Prop, Q = AdvQ S w to (L.dropWhile (dueP to)) (L.takeWhile (dueP to)) := ⟨_, rfl⟩
  rw [← hQ]
  have QQ := Lib.hid hQ
  clear h hwg hsrt hN hQ hto
  go_enter Tryd.func15, Tryd.ntmps15
  go_wp2_with fail
  refine (SU.out _).mono ?_
  rintro _ w1 ⟨rfl, rfl⟩
  have ST : Hid (∃ (r : Du) (o : Bool), Calls Tryd.prog 13 #[.pointer (some ⟨S.p, 0, none⟩), .int .u64 to] w (fun e w' => e = .returned (.tuple #[.agg #[.int .i64 r.id, .int .u64 (r.t : Nat)], .bool o]) ∧ AR w S to N L (.slice none 0 0) (.pointer (some ⟨w'.heap.size, 0, none⟩)) (.bool o) (w'.alloc (.cells #[.int .i64 r.id, .int .u64 (r.t : Nat)] 42)))) := (by
    rcases P0.out with ⟨d, hk, ht, hd, q⟩ | ⟨hk, q⟩
    · refine ⟨d, true, q.mono ?_⟩
      rintro e w' ⟨he, hq⟩
      obtain ⟨Si, hav⟩ := Av.start POS.out hq (.cells #[.int .i64 d.id, .int .u64 (d.t : Nat)] 42)
      exact ⟨he, AR.mk1 (k := 0) hav hk hNL ht hd (Kp.new w' _ _ 42)⟩
    · refine ⟨⟨0, 0⟩, false, q.mono ?_⟩
      rintro e w' ⟨he, hq⟩
      obtain ⟨Si, hav⟩ := Av.start POS.out hq (.cells #[.int .i64 0, .int .u64 ((0 : Nat) : Int)] 42)
      exact ⟨he, AR.mk0 (k := 0) hav hk hNL (Kp.new w' _ _ 42)⟩ : ∃ (r : Du) (o : Bool), Calls Tryd.prog 13 #[.pointer (some ⟨S.p, 0, none⟩), .int .u64 to] w (fun e w' => e = .returned (.tuple #[.agg #[.int .i64 r.id, .int .u64 (r.t : Nat)], .bool o]) ∧ AR w S to N L (.slice none 0 0) (.pointer (some ⟨w'.heap.size, 0, none⟩)) (.bool o) (w'.alloc (.cells #[.int .i64 r.id, .int .u64 (r.t : Nat)] 42))))
  obtain ⟨r, o, hC⟩ := ST.out
  have CC := Lib.hid hC
  obtain ⟨ri, rt⟩ := r
  simp only at CC
  clear hC
  go_wp2_with fail
  refine CC.out.mono ?_
  rintro _ w1 ⟨rfl, har⟩
  have A0 := Lib.hid har
  clear har
  go_wp2_with fail
  go_loopw [8, 9, 10] (fun u8 u9 u10 wr => AR w S to N L u8 u9 u10 wr) (fun u8 _ _ _ => N - slen u8)
  case atStart => exact A0.out
  case round =>
    obtain ⟨k, X, Si, o', d, ao, cap, rfl, rfl, rfl, kp, hst⟩ := hrel
    rcases hst with ⟨rfl, hkN, htk, hdt, hav⟩ | ⟨rfl, hkN, hav⟩
    · obtain ⟨di, dt⟩ := d
      simp only at kp htk hdt hav
      have AV := Lib.hid hav
      have KP := Lib.hid kp
      have TK := Lib.hid htk
      have x0 := kp.t.c0
      have x1 := kp.t.c1
      have OW : Hid (wr.ownsRow 0 42 2 (.slice ao k cap) k (cd (L.take k))) := (by have := hav.row; rw [List.length_take, show min k L.length = k by omega] at this; exact this : wr.ownsRow 0 42 2 (.slice ao k cap) k (cd (L.take k)))
      have D1 := Lib.hid (one_due wr ⟨di, dt⟩)
      have D2 := Lib.hid (cd_one [⟨di, dt⟩])
      have hXs : ¬ X = wr.heap.size := by have := kp.lt; omega
      have hXs2 : ¬ wr.heap.size = X := fun e => hXs e.symm
      clear hav kp htk
      go_wp2_with (at_builtin; refine wpList_append_mine _ rfl _ _ 27 rfl 42 i0 _ 2 16 Tryd.underlying27 hi hz0 hz1 hz2 rfl (by decide) _ _ _ rfl (World.ownsRow.alloc OW.out _) ⟨wr.heap.size, 0, none⟩ 1 1 (cd [⟨di, dt⟩]) rfl rfl D1.out D2.out (by unfold maxLen; omega) (by omega) ?_)
      intro v' w2 hown' hgrow hblk
      have el : (L.take k).length = k := by rw [List.length_take]; omega
      have AA := AV.out.app (d := ⟨di, dt⟩) (o := .cells #[.int .i64 di, .int .u64 dt] 42) (by rw [el]; exact hown') hgrow (by rw [size_new]; exact hblk)
      rw [← TK.out] at AA
      have KX : Hid (Kp w2 X (.int .i64 di) (.int .u64 dt)) := ((KP.out.later ((Grw.rfl' wr).alloc (.cells #[.int .i64 di, .int .u64 dt] 42))).frm (grownBy_frm hgrow) AV.out.x.2.2.2 : Kp w2 X (.int .i64 di) (.int .u64 dt))
      obtain ⟨ao', cap', rfl, _⟩ := ownsRow_lies hown'
      have A2 := Lib.hid (AA.newX (.cells #[.int .i64 di, .int .u64 dt] 42))
      have PX : Hid (∃ (r : Du) (o : Bool), Calls Tryd.prog 13 #[.pointer (some ⟨S.p, 0, none⟩), .int .u64 to] (w2.alloc (.cells #[.int .i64 di, .int .u64 dt] 42)) (fun e w' => e = .returned (.tuple #[.agg #[.int .i64 r.id, .int .u64 (r.t : Nat)], .bool o]) ∧ Kp w' w2.heap.size (.int .i64 di) (.int .u64 dt) ∧ AR w S to N L (.slice ao' (k + 1) cap') (.pointer (some ⟨w2.heap.size, 0, none⟩)) (.bool o) ((w'.setCell ⟨w2.heap.size, 0, none⟩ (.int .i64 r.id)).setCell ⟨w2.heap.size, 1, none⟩ (.int .u64 (r.t : Nat))))) := (by
        have kn := Kp.new w2 (.int .i64 di) (.int .u64 dt) 42
        rcases PA.out Si dt (k + 1) (w2.alloc (.cells #[.int .i64 di, .int .u64 dt] 42)) AV.out.p A2.out.g (by omega) hdt with ⟨d', hk', ht', hd', q⟩ | ⟨hk', q⟩
        · refine ⟨d', true, q.mono ?_⟩
          rintro e w' ⟨he, hq⟩
          have k3 := hq.kp kn A2.out.x.2.2.1
          obtain ⟨S3, a3⟩ := A2.out.pop hq
          exact ⟨he, k3, AR.mk1 ((a3.set 0 _).set 1 _) hk' hNL ht' hd' k3.set2⟩
        · refine ⟨⟨0, 0⟩, false, q.mono ?_⟩
          rintro e w' ⟨he, hq⟩
          have k3 := hq.kp kn A2.out.x.2.2.1
          obtain ⟨S3, a3⟩ := A2.out.pop hq
          exact ⟨he, k3, AR.mk0 (d := ⟨0, 0⟩) ((a3.set 0 _).set 1 _) hk' hNL k3.set2⟩ : ∃ (r : Du) (o : Bool), Calls Tryd.prog 13 #[.pointer (some ⟨S.p, 0, none⟩), .int .u64 to] (w2.alloc (.cells #[.int .i64 di, .int .u64 dt] 42)) (fun e w' => e = .returned (.tuple #[.agg #[.int .i64 r.id, .int .u64 (r.t : Nat)], .bool o]) ∧ Kp w' w2.heap.size (.int .i64 di) (.int .u64 dt) ∧ AR w S to N L (.slice ao' (k + 1) cap') (.pointer (some ⟨w2.heap.size, 0, none⟩)) (.bool o) ((w'.setCell ⟨w2.heap.size, 0, none⟩ (.int .i64 r.id)).setCell ⟨w2.heap.size, 1, none⟩ (.int .u64 (r.t : Nat)))))
      obtain ⟨r', o', hC'⟩ := PX.out
      have C' := Lib.hid hC'
      obtain ⟨si, st⟩ := r'
      simp only at C'
      have y0 := KX.out.t.c0
      have y1 := KX.out.t.c1
      clear hown' hgrow hblk AA hC' x0 x1 el
      go_wp2_with fail
      refine C'.out.mono ?_
      rintro _ w4 ⟨rfl, k4, har⟩
      have A4 := Lib.hid har
      have z0 := k4.t.c0
      have z1 := k4.t.c1
      have z2 := k4.t.f0
      have z3 := k4.t.f1
      clear har k4 y0 y1
      go_wp2_with fail
      go_roundw
      case rel => exact A4.out
      case measure => simp [slen]; omega
    · subst hkN
      have FIN := Lib.hid hav.done
      clear hav kp
      go_wp2_with fail
      rw [QQ.out, ← HN.out.1, ← HN.out.2]
      exact FIN.out
theorem advance_no (S : Sh) (now n : Nat) (L : List Du) (w : World) (h : WR w S now L) (hn : n < 2 ^ 64) (hs : ¬ now + n < 2 ^ 64) :
    Calls Tryd.prog 15 #[.pointer (some ⟨S.p, 0, none⟩), .int .u64 n] w fun e w' => e = .returned (.tuple #[.slice none 0 0, .int .i64 14]) ∧ w = w' := by
  obtain ⟨D, hwg, _⟩ := h.wg
  have c0 := hwg.cells.c0
  have hnw := h.gl.nw
  have SU := Lib.hid (fun u => sum_no (now : Int) (n : Int) u ⟨by omega, by omega⟩ ⟨by omega, by omega⟩ (by omega))
  clear h hwg hs hnw hn
  go_enter Tryd.func15, Tryd.ntmps15
  go_wp2_with fail
  refine (SU.out _).mono ?_
  rintro _ w1 ⟨rfl, rfl⟩
  go_wp2_with fail
  go_ret2
  exact ⟨rfl, rfl⟩
theorem advance_nil (n : Nat) (w : World) : Calls Tryd.prog 15 #[.pointer none, .int .u64 n] w fun e w' => e = .returned (.tuple #[.slice none 0 0, .int .i64 1]) ∧ w = w' := by
  go_enter Tryd.func15, Tryd.ntmps15
  go_wp2_with fail
  go_ret2
  exact ⟨rfl, rfl⟩
end Go.Proofs.YtjkhgpdhhnfmlaaDoor
