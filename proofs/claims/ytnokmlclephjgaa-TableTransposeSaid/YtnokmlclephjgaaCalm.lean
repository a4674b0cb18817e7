/- A region that draws its order, whose operations read old memory alone and whose callees leave old memory as it was: one walk, in the order of the text. Nothing of the program is named here. -/
import Derived.Test.YtnokmlclephjgaaMem
import Derived.Deep.Quiet
import Derived.Deep.QuietTactic
import Derived.BigQuiet
set_option linter.unusedVariables false
set_option linter.unusedSimpArgs false
namespace Go.Proofs.Ytnokmlclephjgaa
open Go.RowKit
/-- A world that parts from w0 above block B alone. -/
structure Calm (B : Nat) (w0 : World) where
  val : World
  below : Below B w0 val
instance {B : Nat} {w0 : World} : Nonempty (Calm B w0) := ⟨⟨w0, Below.refl _ _⟩⟩
theorem wp_region_calm {P : Program} {id : Nat} {Q : Exit → Act → World → Prop} {a : Act} {w w0 : World} {B : Nat} {l : List Oper} (hm : P.follows .mixedOrders = true) (hB : Region.lexB .any l.toArray = true) (hC : Below B w0 w)
    (h : wpQuiet P l.toArray (fun w' => ∃ u : Calm B w0, w' = u.val) (fun a' => ∀ w', (∃ u : Calm B w0, w' = u.val) → Q .normal a' w') l a) : (Code.region id l.toArray true).wp P Q a w :=
  wp_region_quiet (C := fun w' => ∃ u : Calm B w0, w' = u.val) hm hB ⟨⟨_, hC.drew⟩, rfl⟩ (by simpa using h)
/-- A callee's contract, met in such a world. -/
theorem Calm.call {P : Program} {f : FuncId} {args : Array Value} {B : Nat} {w0 : World} {u : Calm B w0} {v : Value} (hB : B ≤ w0.heap.size) (h : Calls P f args u.val fun e w' => e = .returned v ∧ Below u.val.heap.size u.val w') :
    Calls P f args u.val fun e w'' => e = .returned v ∧ ∃ u' : Calm B w0, w'' = u'.val :=
  h.mono fun _ w' ⟨he, hb⟩ => ⟨he, ⟨w', u.below.trans (hb.mono (Nat.le_trans hB u.below.size))⟩, rfl⟩
theorem Calm.cell {B : Nat} {w0 : World} (u : Calm B w0) {b i : Nat} (hlt : b < B) {x : Value} (h : w0.cell? ⟨b, i, none⟩ = some x) : u.val.cell? ⟨b, i, none⟩ = some x := (u.below.cell (p := ⟨b, i, none⟩) hlt).trans h
end Go.Proofs.Ytnokmlclephjgaa
