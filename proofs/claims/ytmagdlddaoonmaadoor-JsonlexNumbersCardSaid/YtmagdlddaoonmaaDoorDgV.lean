/- A number is a valid value to the reference: a walk at that one kind. -/
import Derived.Test.YtmagdlddaoonmaaDoorJl3
import Derived.Deep.QuietTactic
import Derived.BigQuiet
import Derived.Deep.CutBlock
set_option linter.unusedVariables false
set_option linter.unusedSimpArgs false
namespace Go.Proofs.YtmagdlddaoonmaaDoor
open Go.RowKit
def numV (n : Int) : Value := .agg #[.int .i64 3, .int .i64 n, .string ⟨#[]⟩, .slice none 0 0, .slice none 0 0]
theorem runes_nil_any (w : World) : Calls Tryd.prog 34 #[.string ⟨#[]⟩] w fun e w' => e = .returned (.tuple #[.slice none 0 0, .bool true]) ∧ w = w' := by
  go_enter Tryd.func34, Tryd.ntmps34
  go_wp2
  go_loop [4, 5] (fun v t => v = .slice none 0 0 ∧ t = .int .i64 0) (fun _ _ => 0)
  case atStart => exact ⟨rfl, rfl⟩
  case round =>
    obtain ⟨rfl, rfl⟩ := hrel
    go_wp2
    go_ret2
    exact ⟨rfl, rfl⟩
theorem rval_nil_any (w : World) : Calls Tryd.prog 17 #[.string ⟨#[]⟩] w fun e w' => e = .returned (.bool true) ∧ w = w' := by
  go_enter Tryd.func17, Tryd.ntmps17
  go_wp2_with (go_at_call 34; refine (runes_nil_any _).mono ?_; rintro e w' ⟨rfl, rfl⟩)
  go_ret
  exact ⟨rfl, rfl⟩
set_option maxHeartbeats 4000000 in
set_option maxRecDepth 100000 in
theorem measure_num (n : Int) (w : World) : Calls Tryd.prog 45 #[numV n, .int .i64 0] w fun e w' => e = .returned (.tuple #[.int .i64 1, .int .i64 0, .bool true]) ∧ Below w.heap.size w w' := by
  unfold numV
  obtain ⟨W1, hW1⟩ : ∃ X, X = w.alloc (.cells #[.int .i64 3, .int .i64 n, .string ⟨#[]⟩, .slice none 0 0, .slice none 0 0] 38) := ⟨_, rfl⟩
  have hbx : Box W1 w.heap.size 38 #[.int .i64 3, .int .i64 n, .string ⟨#[]⟩, .slice none 0 0, .slice none 0 0] := by rw [hW1]; exact Box.laid w _ _
  have HBW := Lib.hid (show Below w.heap.size w W1 by rw [hW1]; exact (Below.refl _ _).alloc (Nat.le_refl _) _)
  have HW1 := Lib.hid hW1
  have HBX := Lib.hid hbx
  obtain ⟨t0, t1, t2, t3, t4⟩ := box5 hbx
  clear hW1 hbx
  go_enter Tryd.func45, Tryd.ntmps45
  go_upto_region 1 with fail
  rw [← HW1.out]
  go_wp2_with fail
  go_quiet (fail)
  obtain ⟨W2, hW2⟩ : ∃ X, X = W1.drewN nq := ⟨_, rfl⟩
  rw [← hW2]
  have HBX2 := Lib.hid (show Box W2 w.heap.size 38 #[.int .i64 3, .int .i64 n, .string ⟨#[]⟩, .slice none 0 0, .slice none 0 0] by rw [hW2]; exact HBX.out.drewN _)
  have HBW2 := Lib.hid (show Below w.heap.size w W2 by rw [hW2]; exact below_drewN HBW.out _)
  clear hW2 t0 t1 t2 t3 t4
  obtain ⟨t0, t1, t2, t3, t4⟩ := box5 HBX2.out
  go_wp2_with (go_at_call 17; refine (rval_nil_any _).mono ?_; rintro e w' ⟨rfl, rfl⟩)
  go_wp2
  go_loop [8, 9] (fun t8 t9 => t8 = .int .i64 0 ∧ t9 = .int .i64 0) (fun _ _ => 0)
  case atStart => exact ⟨rfl, rfl⟩
  case round =>
    obtain ⟨rfl, rfl⟩ := hrel
    go_wp2
    go_loop [7, 8, 10] (fun t7 t8 t10 => t7 = .int .i64 1 ∧ t8 = .int .i64 0 ∧ t10 = .int .i64 0) (fun _ _ _ => 0)
    case atStart => exact ⟨rfl, rfl, rfl⟩
    case round =>
      obtain ⟨rfl, rfl, rfl⟩ := hrel
      go_wp2
      go_ret3
      exact ⟨rfl, HBW2.out⟩
theorem valid_num (n : Int) (w : World) : Calls Tryd.prog 32 #[numV n] w fun e w' => e = .returned (.bool true) ∧ Below w.heap.size w w' := by
  have HM := Lib.hid (fun W => measure_num n W)
  unfold numV at HM ⊢
  go_enter Tryd.func32, Tryd.ntmps32
  go_wp2_with (go_at_call 45; refine (HM.out _).mono ?_; rintro e w' ⟨rfl, hb'⟩)
  go_ret
  exact ⟨rfl, chain ((Below.refl _ _).alloc (Nat.le_refl _) _) hb'⟩
end Go.Proofs.YtmagdlddaoonmaaDoor
