/- slices.Grow onto nil. -/
import Derived.Test.YtnokmlclephjgaaCalm
import Derived.Test.YtnokmlclephjgaaBox
import Derived.Test.YtnokmlclephjgaaRows
import Derived.Lib.AppendZerosOnto
import Derived.Lib.Hide
import Derived.WalkSpells
import Derived.WalkLawsBesides
import Derived.Outline
set_option linter.unusedVariables false
set_option linter.unusedSimpArgs false
namespace Go.Proofs.Ytnokmlclephjgaa
open Go.RowKit
/-- The zero value. -/
def zeroVal : Value := .agg #[.int .i64 0, .int .i64 0, .string ⟨#[]⟩, .slice none 0 0, .slice none 0 0]
theorem inf_value : (Try.prog.info? 27).map (fun i => (i.zero, i.size, i.bytes)) = some (some zeroVal, 5, 80) := by kernel_rfl
theorem inf_string : (Try.prog.info? 9).map (fun i => (i.zero, i.size, i.bytes)) = some (some (.string ⟨#[]⟩), 1, 16) := by kernel_rfl
def GrowPost (w : World) (e : Ending) (w' : World) : Prop := Below w.heap.size w w' ∧ ∃ v, e = .returned v ∧ w'.ownsRow w.heap.size 27 5 v 0 []
set_option maxHeartbeats 2000000 in
set_option maxRecDepth 100000 in
theorem grow_nil (n : Nat) (w : World) (hn : n ≤ 1000000) : Calls Try.prog 33 #[.slice none 0 0, .int .i64 n] w (GrowPost w) := by
  obtain ⟨i0, hi, hz0, hz1, hz2⟩ := info_parts inf_value
  by_cases hz : n = 0
  · subst hz
    go_enter Try.func33, Try.ntmps33
    go_wp2_with fail
    go_ret
    exact ⟨Below.refl _ _, _, rfl, World.ownsRow_nil _ _ _ _⟩
  · have hz' : 0 < n := by omega
    have hold : (Builtin.firstCells i0.size 0 (.slice none 0 0)).run Try.prog w.drew = .ok ([] : List Value).toArray w.drew := run_firstCells_none w.drew i0.size 0 0 0
    have hrz : ∀ ty, (Builtin.append_ #[24, 3] ty #[.slice none 0 0, .int .i64 (n : Int)]).run Try.prog w =
        .ok (.slice (some ⟨w.heap.size, 0, none⟩) (0 + n) (grownCap w (0 + n) 0 27)) (w.drew.alloc (.cells (([] : List Value).toArray ++ Builtin.zeroCells zeroVal.cells n ++ Builtin.zeroCells zeroVal.cells (grownCap w (0 + n) 0 27 - (0 + n))) 27)) := fun ty => by
      exact Lib.run_append_grow_zeros w 24 3 ty 27 i0 zeroVal .i64 .i64 Try.underlying24 Try.underlying3 hi hz0 none 0 0 ([] : List Value) hold n hz' (by rw [hz1]; omega) (by omega) (by omega)
        (by rw [hz2]; omega) (growslice_fits (by omega) (by rw [hz2]; omega))
    have hGn : 0 + n ≤ grownCap w (0 + n) 0 27 := grownCap_ge w _ _ _
    have hG63 : grownCap w (0 + n) 0 27 ≤ maxLen := grownCap_le_maxLen w (0 + n) 0 27 (by unfold maxLen; omega)
    generalize hG : grownCap w (0 + n) 0 27 = G at hrz hGn hG63
    have hG63' : G ≤ 9223372036854775807 := by unfold maxLen at hG63; omega
    have HM := Lib.hid hG63
    clear hold hG hG63
    obtain ⟨C, hC⟩ : ∃ C : Array Value, C = ([] : List Value).toArray ++ Builtin.zeroCells zeroVal.cells n ++ Builtin.zeroCells zeroVal.cells (G - (0 + n)) := ⟨_, rfl⟩
    have hsz : Hid (C.size = G * 5) := Lib.hid (by
      rw [hC, Array.size_append, Array.size_append, size_zeroCells, size_zeroCells, show zeroVal.cells.size = 5 from rfl]
      simp
      omega)
    rw [← hC] at hrz
    have HRZ := Lib.hid hrz
    clear hrz hC
    go_enter Try.func33, Try.ntmps33
    go_wp2_with (at_builtin; refine Lib.wpList_append_run _ rfl _ _ _ _ rfl _ _ rfl rfl _ _ (HRZ.out _) ?_)
    go_ret
    refine ⟨((Below.refl _ _).drew).alloc (Nat.le_refl _) _, _, rfl, ?_⟩
    exact World.ownsRow_made (base := w.heap.size) (e := 27) (size := 5) w.drew C G (Nat.le_refl _) HM.out hsz.out
end Go.Proofs.Ytnokmlclephjgaa
