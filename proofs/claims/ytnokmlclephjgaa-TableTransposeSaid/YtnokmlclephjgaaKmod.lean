/- keep.Mod: the remainder that is not negative. -/
import Derived.Test.YtnokmlclephjgaaRows
import Derived.WalkKit
import Derived.Lib.Hide
import Derived.WalkSpells
import Derived.WalkLawsBesides
set_option linter.unusedVariables false
set_option linter.unusedSimpArgs false
namespace Go.Proofs.Ytnokmlclephjgaa
open Go.RowKit
theorem retm {k : IntKind} {a b : Int} (h : a = b) : Ending.returned (.int k a) = .returned (.int k b) := by rw [h]
theorem mod_fix' (x n : Int) (hn : 0 < n) : (if x.tmod n < 0 then x.tmod n + n else x.tmod n) = x % n := by
  have h1 := Int.tmod_add_mul_tdiv x n
  have h2 := Int.lt_tmod_of_pos x hn
  have h3 := Int.tmod_lt_of_pos x hn
  split
  · rename_i h
    have : (x.tmod n + n) % n = x % n := by
      conv => rhs; rw [← h1]
      simp
    rw [← this, Int.emod_eq_of_lt (by omega) (by omega)]
  · rename_i h
    have : (x.tmod n) % n = x % n := by
      conv => rhs; rw [← h1]
      simp
    rw [← this, Int.emod_eq_of_lt (by omega) (by omega)]
set_option maxHeartbeats 400000 in
theorem kmod_any (x n : Int) (hn : 0 < n) (hn2 : n ≤ 4611686018427387903) (w : World) :
    Calls Try.prog 7 #[.int .i64 x, .int .i64 n] w fun e w' => e = .returned (.int .i64 (x % n)) ∧ w = w' := by
  have hf := Lib.hid (mod_fix' x n hn)
  have hb : Hid (-n < x.tmod n ∧ x.tmod n < n) := Lib.hid (by
    have h1 := Int.lt_tmod_of_pos x hn
    have h2 := Int.tmod_lt_of_pos x hn
    exact ⟨h1, h2⟩)
  have hne : (n == 0) = false := by simp; omega
  have hne1 : n ≠ 0 := by omega
  obtain ⟨hb1, hb2⟩ := hb.out
  by_cases hs : x.tmod n < 0
  · have he : Hid (x.tmod n + n = x % n) := Lib.hid (by rw [← hf.out, if_pos hs])
    go_enter Try.func7, Try.ntmps7
    go_wp2
    go_ret
    exact ⟨retm he.out, rfl⟩
  · have he : Hid (x.tmod n = x % n) := Lib.hid (by rw [← hf.out, if_neg hs])
    go_enter Try.func7, Try.ntmps7
    go_wp2
    go_ret
    exact ⟨retm he.out, rfl⟩
/-- Mod as a number of its own. -/
theorem kmod_nat (x : Int) (n : Nat) (hn : 0 < n) (hn2 : n ≤ 1000000) : ∃ d : Nat, d < n ∧ ∀ w, Calls Try.prog 7 #[.int .i64 x, .int .i64 (n : Int)] w fun e w' => e = .returned (.int .i64 (d : Int)) ∧ w = w' := by
  have h1 := Int.emod_nonneg x (b := (n : Int)) (by omega)
  have h2 := Int.emod_lt_of_pos x (b := (n : Int)) (by omega)
  refine ⟨(x % n).toNat, by omega, fun w => ?_⟩
  rw [Int.toNat_of_nonneg h1]
  exact kmod_any x n (by omega) (by omega) w
end Go.Proofs.Ytnokmlclephjgaa
