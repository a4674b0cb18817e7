/- The contracts of the small functions of the layer jsonlex and of its reference. -/
import Derived.Test.YtgclmnlnbjjgkaaDoorRows
import Derived.Test.YtgclmnlnbjjgkaaDoorBox
import Derived.Test.YtgclmnlnbjjgkaaDoorJlCov
import Derived.WalkKit
import Derived.Lib.Hide
import Derived.WalkSpells
import Derived.WalkLawsBesides
import Derived.Deep.RegionHeld3
set_option linter.unusedVariables false
set_option linter.unusedSimpArgs false
namespace Go.Proofs.YtgclmnlnbjjgkaaDoor
open Go.RowKit
theorem blank_any (b : UInt8) (w : World) : Calls Tryd.prog 25 #[.int .u8 b.toNat] w fun e w' => e = .returned (.bool (blankB b)) ∧ w = w' := by
  have hb := UInt8.toNat_lt b
  unfold blankB
  generalize b.toNat = n at *
  go_enter Tryd.func25, Tryd.ntmps25
  go_wp2
  all_goals go_ret
  all_goals exact ⟨ret_bool (by (try simp only [beq_iff_eq, beq_eq_false_iff_ne, decide_eq_true_eq, decide_eq_false_iff_not, ne_eq] at *); rw [Bool.eq_iff_iff]; first | (simp; omega) | (simp; done) | omega), rfl⟩
theorem sign_any (b : UInt8) (w : World) : Calls Tryd.prog 39 #[.int .u8 b.toNat] w fun e w' => e = .returned (.bool (signB b)) ∧ w = w' := by
  have hb := UInt8.toNat_lt b
  unfold signB
  generalize b.toNat = n at *
  go_enter Tryd.func39, Tryd.ntmps39
  go_wp2
  all_goals go_ret
  all_goals exact ⟨ret_bool (by (try simp only [beq_iff_eq, beq_eq_false_iff_ne, decide_eq_true_eq, decide_eq_false_iff_not, ne_eq] at *); rw [Bool.eq_iff_iff]; first | (simp; omega) | (simp; done) | omega), rfl⟩
theorem letter_any (b : UInt8) (w : World) : Calls Tryd.prog 40 #[.int .u8 b.toNat] w fun e w' => e = .returned (.bool (letB b)) ∧ w = w' := by
  have hb := UInt8.toNat_lt b
  unfold letB
  generalize b.toNat = n at *
  go_enter Tryd.func40, Tryd.ntmps40
  go_wp2
  all_goals go_ret
  all_goals exact ⟨ret_bool (by (try simp only [beq_iff_eq, beq_eq_false_iff_ne, decide_eq_true_eq, decide_eq_false_iff_not, ne_eq] at *); rw [Bool.eq_iff_iff]; first | (simp; omega) | (simp; done) | omega), rfl⟩
theorem digit_any (b : UInt8) (w : World) : Calls Tryd.prog 42 #[.int .u8 b.toNat] w fun e w' => e = .returned (.bool (digB b)) ∧ w = w' := by
  have hb := UInt8.toNat_lt b
  unfold digB
  generalize b.toNat = n at *
  go_enter Tryd.func42, Tryd.ntmps42
  go_wp2
  all_goals go_ret
  all_goals exact ⟨ret_bool (by (try simp only [beq_iff_eq, beq_eq_false_iff_ne, decide_eq_true_eq, decide_eq_false_iff_not, ne_eq] at *); rw [Bool.eq_iff_iff]; first | (simp; omega) | (simp; done) | omega), rfl⟩
def hexV : Option Nat → Value
  | some d => .tuple #[.int .i64 d, .bool true]
  | none => .tuple #[.int .i64 0, .bool false]
set_option maxHeartbeats 1000000 in
theorem hex_any (b : UInt8) (w : World) : Calls Tryd.prog 68 #[.int .u8 b.toNat] w fun e w' => e = .returned (hexV (hexP b)) ∧ w = w' := by
  have hb := UInt8.toNat_lt b
  have hd := Lib.hid (fun W => digit_any b W)
  unfold hexP
  unfold digB at hd
  generalize b.toNat = n at *
  by_cases h1 : 48 ≤ n ∧ n ≤ 57
  · rw [decide_eq_true h1] at hd
    rw [if_pos h1]
    go_enter Tryd.func68, Tryd.ntmps68
    go_wp2_with (go_at_call 42; refine (hd.out _).mono ?_; rintro e w' ⟨rfl, rfl⟩)
    go_ret2
    exact ⟨by unfold hexV; simp; omega, rfl⟩
  · rw [decide_eq_false h1] at hd
    rw [if_neg h1]
    by_cases h2 : 97 ≤ n ∧ n ≤ 102
    · rw [if_pos h2]
      go_enter Tryd.func68, Tryd.ntmps68
      go_wp2_with (go_at_call 42; refine (hd.out _).mono ?_; rintro e w' ⟨rfl, rfl⟩)
      all_goals first | omega | skip
      all_goals go_ret2
      all_goals exact ⟨by unfold hexV; simp; omega, rfl⟩
    · rw [if_neg h2]
      by_cases h3 : 65 ≤ n ∧ n ≤ 70
      · rw [if_pos h3]
        go_enter Tryd.func68, Tryd.ntmps68
        go_wp2_with (go_at_call 42; refine (hd.out _).mono ?_; rintro e w' ⟨rfl, rfl⟩)
        all_goals first | omega | skip
        all_goals go_ret2
        all_goals exact ⟨by unfold hexV; simp; omega, rfl⟩
      · rw [if_neg h3]
        go_enter Tryd.func68, Tryd.ntmps68
        go_wp2_with (go_at_call 42; refine (hd.out _).mono ?_; rintro e w' ⟨rfl, rfl⟩)
        all_goals first | omega | skip
        all_goals go_ret2
        all_goals exact ⟨rfl, rfl⟩
theorem possible_any (a b : Nat) (low : Bool) (ha : a ≤ 1114111) (hb : b ≤ 1114111) (w : World) : Calls Tryd.prog 69 #[.int .i64 a, .int .i64 b, .bool low] w fun e w' => e = .returned (.bool (possP a b low)) ∧ w = w' := by
  unfold possP
  obtain ⟨x, hx⟩ : ∃ x : Int, x = (a : Int) := ⟨_, rfl⟩
  obtain ⟨y, hy⟩ : ∃ y : Int, y = (b : Int) := ⟨_, rfl⟩
  rw [← hx, ← hy]
  have HX := Lib.hid hx
  have HY := Lib.hid hy
  clear ha hb hx hy
  cases low
  · go_enter Tryd.func69, Tryd.ntmps69
    go_wp2
    all_goals go_ret
    all_goals exact ⟨ret_bool (by have h1 := HX.out; have h2 := HY.out; rw [Bool.eq_iff_iff]; first | (simp; omega) | (simp; done) | omega), rfl⟩
  · go_enter Tryd.func69, Tryd.ntmps69
    go_wp2
    all_goals go_ret
    all_goals exact ⟨ret_bool (by have h1 := HX.out; have h2 := HY.out; rw [Bool.eq_iff_iff]; first | (simp; omega) | (simp; done) | omega), rfl⟩
theorem fail_any (p e : Int) (w : World) : Calls Tryd.prog 37 #[.int .i64 p, .int .i64 e] w fun x w' => x = .returned (.tuple #[.agg #[.int .i64 0, .int .i64 0, .int .i64 0, .int .u8 0, .int .i64 0, .string ⟨#[]⟩], .int .i64 p, .int .i64 e]) ∧ Below w.heap.size w w' := by
  go_enter Tryd.func37, Tryd.ntmps37
  go_wp2_with fail
  refine bodyPost_ret (v := .tuple #[.agg #[.int .i64 0, .int .i64 0, .int .i64 0, .int .u8 0, .int .i64 0, .string ⟨#[]⟩], .int .i64 p, .int .i64 e]) (by simp [results, Tryd.results37, go_sem]) rfl ⟨rfl, ?_⟩
  exact (Below.refl _ _).alloc (Nat.le_refl _) _
theorem found_any (k f t b i : Int) (s : ByteArray) (w : World) : Calls Tryd.prog 38 #[.agg #[.int .i64 k, .int .i64 f, .int .i64 t, .int .u8 b, .int .i64 i, .string s]] w fun x w' => x = .returned (.tuple #[.agg #[.int .i64 k, .int .i64 f, .int .i64 t, .int .u8 b, .int .i64 i, .string s], .int .i64 t, .int .i64 0]) ∧ Below w.heap.size w w' := by
  go_enter Tryd.func38, Tryd.ntmps38
  go_wp2_with fail
  go_region
  go_wp2_with fail
  refine bodyPost_ret (v := .tuple #[.agg #[.int .i64 k, .int .i64 f, .int .i64 t, .int .u8 b, .int .i64 i, .string s], .int .i64 t, .int .i64 0]) (by simp [results, Tryd.results38, go_sem]) rfl ⟨rfl, ?_⟩
  exact (((Below.refl _ _).alloc (Nat.le_refl _) _).alloc (by simp) _).drew
end Go.Proofs.YtgclmnlnbjjgkaaDoor
