/- A region that draws its order and holds calls that make memory: one walk in the order of the text, in whatever world has grown out of the one at hand. Nothing of the program is named here. -/
import Derived.WalkKit
import Derived.WalkSpells
import Derived.Deep.QuietTactic
import Derived.BigQuiet
import Derived.Lib.Hide
namespace Go.Proofs.YtjkhgpdhhnfmlaaDoor
open Go.RowKit

/-- nothing that was there has turned. -/
def Grw (w x : World) : Prop := Below w.heap.size w x
theorem Grw.rfl' (w : World) : Grw w w := Below.refl _ _
theorem Grw.drew {w x : World} (h : Grw w x) : Grw w x.drew := Below.drew h
theorem Grw.drewN {w x : World} (h : Grw w x) (n : Nat) : Grw w (x.drewN n) := Below.trans h ⟨rfl, rfl, rfl, Nat.le_refl _, fun _ _ => rfl⟩
theorem Grw.alloc {w x : World} (h : Grw w x) (o : Obj) : Grw w (x.alloc o) := Below.alloc h (Below.size h) o
theorem Grw.trans {a b c : World} (h : Grw a b) (g : Grw b c) : Grw a c := Below.trans h (Below.mono g (Below.size h))
theorem Grw.cell {w x : World} (h : Grw w x) {a : Addr} {v : Value} (hc : w.cell? a = some v) : x.cell? a = some v := cell_later h hc

/-- A world that has grown out of w. -/
structure GW (w : World) where
  x : World
  h : Grw w x

instance gwNonempty (w : World) : Nonempty (GW w) := ⟨⟨w, Grw.rfl' w⟩⟩

theorem wp_region_grown {P : Program} {id : Nat} {Q : Exit → Act → World → Prop} {a : Act} {w : World} {l : List Oper} (hm : P.follows .mixedOrders = true) (hB : Region.lexB .any l.toArray = true)
    (h : wpQuiet P l.toArray (fun w' => ∃ p : GW w, w' = p.x) (fun a' => ∀ w', (∃ p : GW w, w' = p.x) → Q .normal a' w') l a) : (Code.region id l.toArray true).wp P Q a w :=
  wp_region_quiet (C := fun w' => ∃ p : GW w, w' = p.x) hm hB ⟨⟨w.drew, (Grw.rfl' w).drew⟩, rfl⟩ (by simpa using h)

theorem calls_grown {P : Program} {f : FuncId} {args : Array Value} {w : World} {p : GW w} {v : Value}
    (h : Calls P f args p.x fun e w' => e = .returned v ∧ Grw p.x w') : Calls P f args p.x fun e w'' => e = .returned v ∧ ∃ q : GW w, w'' = q.x :=
  h.mono fun _ w' ⟨he, hg⟩ => ⟨he, ⟨w', p.h.trans hg⟩, rfl⟩
theorem calls_grown_same {P : Program} {f : FuncId} {args : Array Value} {w : World} {p : GW w} {v : Value}
    (h : Calls P f args p.x fun e w' => e = .returned v ∧ p.x = w') : Calls P f args p.x fun e w'' => e = .returned v ∧ ∃ q : GW w, w'' = q.x :=
  h.mono fun _ _ ⟨he, hg⟩ => ⟨he, p, hg.symm⟩
theorem gw_cell {w : World} {a : Addr} {v : Value} (hc : w.cell? a = some v) : ∀ p : GW w, p.x.cell? a = some v := fun p => p.h.cell hc
end Go.Proofs.YtjkhgpdhhnfmlaaDoor
