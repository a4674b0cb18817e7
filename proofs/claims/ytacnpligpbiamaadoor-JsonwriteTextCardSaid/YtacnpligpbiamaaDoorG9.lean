/- A region that draws its order, whose operations read old memory alone and whose callees leave old memory as it was: one walk, in the order of the text. Nothing of the program is named here. slices.Grow onto nil. -/
import Derived.Test.YtacnpligpbiamaaDoorG2
import Derived.Deep.Quiet
import Derived.Deep.QuietTactic
import Derived.BigQuiet
import Derived.Test.YtacnpligpbiamaaDoorRows
import Derived.Lib.AppendZerosOnto
import Derived.Lib.Hide
import Derived.WalkSpells
import Derived.WalkLawsBesides
import Derived.Outline
set_option linter.unusedVariables false
set_option linter.unusedSimpArgs false
namespace Go.Proofs.YtacnpligpbiamaaDoor
open Go.RowKit
/-- A world that parts from w0 above block B alone. -/
structure Calm (B : Nat) (w0 : World) where
  val : World
  below : Below B w0 val
instance {B : Nat} {w0 : World} : Nonempty (Calm B w0) := ⟨⟨w0, Below.refl _ _⟩⟩
theorem wp_region_calm {P : Program} {id : Nat} {Q : Exit → Act → World → Prop} {a : Act} {w w0 : World} {B : Nat} {l : List Oper} (hm : P.follows .mixedOrders = true) (hB : Region.lexB .any l.toArray = true) (hC : Below B w0 w)
    (h : wpQuiet P l.toArray (fun w' => ∃ u : Calm B w0, w' = u.val) (fun a' => ∀ w', (∃ u : Calm B w0, w' = u.val) → Q .normal a' w') l a) : (Code.region id l.toArray true).wp P Q a w :=
  wp_region_quiet (C := fun w' => ∃ u : Calm B w0, w' = u.val) hm hB ⟨⟨_, hC.drew⟩, rfl⟩ (by simpa using h)
/-- A callee's contract, met in such a world. -/
theorem Calm.call {P : Program} {f : FuncId} {args : Array Value} {B : Nat} {w0 : World} {u : Calm B w0} {v : Value} (hB : B ≤ w0.heap.size) (h : Calls P f args u.val fun e w' => e = .returned v ∧ Below u.val.heap.size u.val w') :
    Calls P f args u.val fun e w'' => e = .returned v ∧ ∃ u' : Calm B w0, w'' = u'.val :=
  h.mono fun _ w' ⟨he, hb⟩ => ⟨he, ⟨w', u.below.trans (hb.mono (Nat.le_trans hB u.below.size))⟩, rfl⟩
theorem Calm.cell {B : Nat} {w0 : World} (u : Calm B w0) {b i : Nat} (hlt : b < B) {x : Value} (h : w0.cell? ⟨b, i, none⟩ = some x) : u.val.cell? ⟨b, i, none⟩ = some x := (u.below.cell (p := ⟨b, i, none⟩) hlt).trans h
end Go.Proofs.YtacnpligpbiamaaDoor
namespace Go.Proofs.YtacnpligpbiamaaDoor
open Go.RowKit
/-- The zero value. -/
def zeroVal : Value := .agg #[.int .i64 0, .int .i64 0, .string ⟨#[]⟩, .slice none 0 0, .slice none 0 0]
theorem inf_value : (Tryd.prog.info? 35).map (fun i => (i.zero, i.size, i.bytes)) = some (some zeroVal, 5, 80) := by kernel_rfl
theorem inf_string : (Tryd.prog.info? 9).map (fun i => (i.zero, i.size, i.bytes)) = some (some (.string ⟨#[]⟩), 1, 16) := by kernel_rfl
def GrowPost (w : World) (e : Ending) (w' : World) : Prop := Below w.heap.size w w' ∧ ∃ v, e = .returned v ∧ w'.ownsRow w.heap.size 35 5 v 0 []
set_option maxHeartbeats 2000000 in
set_option maxRecDepth 100000 in
theorem grow_nil (n : Nat) (w : World) (hn : n ≤ 1000000) : Calls Tryd.prog 86 #[.slice none 0 0, .int .i64 n] w (GrowPost w) := by
  obtain ⟨i0, hi, hz0, hz1, hz2⟩ := info_parts inf_value
  by_cases hz : n = 0
  · subst hz
    go_enter Tryd.func86, Tryd.ntmps86
    go_wp2_with fail
    go_ret
    exact ⟨Below.refl _ _, _, rfl, World.ownsRow_nil _ _ _ _⟩
  · have hz' : 0 < n := by omega
    have hold : (Builtin.firstCells i0.size 0 (.slice none 0 0)).run Tryd.prog w.drew = .ok ([] : List Value).toArray w.drew := run_firstCells_none w.drew i0.size 0 0 0
    have hrz : ∀ ty, (Builtin.append_ #[33, 3] ty #[.slice none 0 0, .int .i64 (n : Int)]).run Tryd.prog w =
        .ok (.slice (some ⟨w.heap.size, 0, none⟩) (0 + n) (grownCap w (0 + n) 0 35)) (w.drew.alloc (.cells (([] : List Value).toArray ++ Builtin.zeroCells zeroVal.cells n ++ Builtin.zeroCells zeroVal.cells (grownCap w (0 + n) 0 35 - (0 + n))) 35)) := fun ty => by
      exact Lib.run_append_grow_zeros w 33 3 ty 35 i0 zeroVal .i64 .i64 Tryd.underlying33 Tryd.underlying3 hi hz0 none 0 0 ([] : List Value) hold n hz' (by rw [hz1]; omega) (by omega) (by omega)
        (by rw [hz2]; omega) (growslice_fits (by omega) (by rw [hz2]; omega))
    have hGn : 0 + n ≤ grownCap w (0 + n) 0 35 := grownCap_ge w _ _ _
    have hG63 : grownCap w (0 + n) 0 35 ≤ maxLen := grownCap_le_maxLen w (0 + n) 0 35 (by unfold maxLen; omega)
    generalize hG : grownCap w (0 + n) 0 35 = G at hrz hGn hG63
    have hG63' : G ≤ 9223372036854775807 := by unfold maxLen at hG63; omega
    have HM := Lib.hid hG63
    clear hold hG hG63
    obtain ⟨C, hC⟩ : ∃ C : Array Value, C = ([] : List Value).toArray ++ Builtin.zeroCells zeroVal.cells n ++ Builtin.zeroCells zeroVal.cells (G - (0 + n)) := ⟨_, rfl⟩
    have hsz : Hid (C.size = G * 5) := Lib.hid (by
      rw [hC, Array.size_append, Array.size_append, size_zeroCells, size_zeroCells, show zeroVal.cells.size = 5 from rfl]
      simp
      omega)
    rw [← hC] at hrz
    have HRZ := Lib.hid hrz
    clear hrz hC
    go_enter Tryd.func86, Tryd.ntmps86
    go_wp2_with (at_builtin; refine Lib.wpList_append_run _ rfl _ _ _ _ rfl _ _ rfl rfl _ _ (HRZ.out _) ?_)
    go_ret
    refine ⟨((Below.refl _ _).drew).alloc (Nat.le_refl _) _, _, rfl, ?_⟩
    exact World.ownsRow_made (base := w.heap.size) (e := 35) (size := 5) w.drew C G (Nat.le_refl _) HM.out hsz.out
end Go.Proofs.YtacnpligpbiamaaDoor
