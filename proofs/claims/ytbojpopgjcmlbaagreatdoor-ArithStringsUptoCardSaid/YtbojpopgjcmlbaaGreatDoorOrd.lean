/- The comparisons of Go's library that the layer calls. -/
import Derived.Test.YtbojpopgjcmlbaaGreatDoorRows
import Derived.Test.YtbojpopgjcmlbaaGreatDoorVal
import Derived.Test.YtbojpopgjcmlbaaGreatDoorScmp
import Derived.Lib.Hide
import Derived.Lib.Walk
import Derived.WalkSpells
import Derived.WalkLawsBesides
import Derived.Outline
set_option linter.unusedVariables false
set_option linter.unusedSimpArgs false
namespace Go.Proofs.YtbojpopgjcmlbaaGreatDoor
open Go.RowKit
def icmp (x y : Int) : Int := if x < y then -1 else if y < x then 1 else 0
set_option maxHeartbeats 400000 in
theorem cmp_int (x y : Int) (w : World) : Calls Tryz.prog 100 #[.int .i64 x, .int .i64 y] w fun e w' => e = .returned (.int .i64 (icmp x y)) ∧ w = w' := by
  go_enter Tryz.func100, Tryz.ntmps100
  go_wp2
  all_goals
    go_ret
    exact ⟨ret_int (by unfold icmp; (repeat' split) <;> omega), rfl⟩
set_option maxHeartbeats 400000 in
theorem cmp_int64 (x y : Int) (w : World) : Calls Tryz.prog 101 #[.int .i64 x, .int .i64 y] w fun e w' => e = .returned (.int .i64 (icmp x y)) ∧ w = w' := by
  go_enter Tryz.func101, Tryz.ntmps101
  go_wp2
  all_goals
    go_ret
    exact ⟨ret_int (by unfold icmp; (repeat' split) <;> omega), rfl⟩
set_option maxHeartbeats 400000 in
theorem cmp_str (a b : ByteArray) (w : World) : Calls Tryz.prog 135 #[.string a, .string b] w fun e w' => e = .returned (.int .i64 (scmp a b)) ∧ w = w' := by
  have h1 := less_eq a b
  have h2 := same_eq a b
  rcases scmp_range a b with h | h | h
  · rw [h] at h1 h2
    have H := Lib.hid h
    clear h
    simp only [show decide ((-1 : Int) < 0) = true from rfl, show decide ((-1 : Int) = 0) = false from rfl] at h1 h2
    go_enter Tryz.func135, Tryz.ntmps135
    go_wp2
    go_ret
    exact ⟨ret_int H.out.symm, rfl⟩
  · obtain rfl := (scmp_zero a b).1 h
    rw [h] at h1
    have H := Lib.hid h
    clear h h2
    simp only [show decide ((0 : Int) < 0) = false from rfl] at h1
    go_enter Tryz.func135, Tryz.ntmps135
    go_wp2
    go_ret
    exact ⟨ret_int H.out.symm, rfl⟩
  · rw [h] at h1 h2
    have H := Lib.hid h
    clear h
    simp only [show decide ((1 : Int) < 0) = false from rfl, show decide ((1 : Int) = 0) = false from rfl] at h1 h2
    go_enter Tryz.func135, Tryz.ntmps135
    go_wp2
    go_ret
    exact ⟨ret_int H.out.symm, rfl⟩
set_option maxHeartbeats 1000000 in
set_option maxRecDepth 100000 in
theorem cmp_strings (a b : ByteArray) (w : World) : Calls Tryz.prog 102 #[.string a, .string b] w fun e w' => e = .returned (.int .i64 (scmp a b)) ∧ w = w' := by
  go_enter Tryz.func102, Tryz.ntmps102
  go_wp2
  rw [run_callFunc_extern Tryz.func170 (by kernel_rfl) (by kernel_rfl) (by kernel_rfl) (e := Extern.BytealgCompare.compare) (by kernel_rfl), Lib.run_compareString]
  simp only [Result.andThen]
  rw [Oper.upon_value]
  go_wp2
  go_ret
  exact ⟨rfl, rfl⟩
end Go.Proofs.YtbojpopgjcmlbaaGreatDoor
