/- The contracts of Count, Valid, Runes, and of the reference's. -/
import Derived.Test.YtnokmlclephjgaaUtf1
import Derived.Lib.Hide
import Derived.Deep.CutBlock
import Derived.Deep.DeepCutAuto
import Derived.Test.YtnokmlclephjgaaMem
set_option linter.unusedVariables false
set_option linter.unusedSimpArgs false
namespace Go.Proofs.Ytnokmlclephjgaa
open Go.RowKit
def cntV : Option (List Nat) → Value
  | none => .tuple #[.int .i64 0, .bool false]
  | some xs => .tuple #[.int .i64 xs.length, .bool true]
set_option maxHeartbeats 400000 in
theorem cnt_any (s : ByteArray) (hs : s.size ≤ maxLen) (w : World) :
    Calls Try.prog 49 #[.string s] w fun e w' => e = .returned (cntV (runes s.data.toList)) ∧ w = w' := by
  have hs2 := Lib.hid hs
  have hlen : Hid (s.data.toList.length = s.size) := Lib.hid (by simp)
  unfold maxLen at hs
  go_enter Try.func49, Try.ntmps49
  go_wp2
  go_loop [4, 5] (fun c t => ∃ (k : Nat) (xs : List Nat), k ≤ s.size ∧ xs.length ≤ k ∧ t = .int .i64 k ∧ c = .int .i64 xs.length ∧ Scan s.data.toList k xs) (fun _ t => s.size - (intOf t).toNat)
  case atStart => exact ⟨0, [], Nat.zero_le _, Nat.le_refl _, rfl, rfl, Scan.start _⟩
  case round =>
    obtain ⟨k, xs, hk, hxk, rfl, rfl, hsc0⟩ := hrel
    have hsc := Lib.hid hsc0
    clear hsc0
    by_cases hlt : k < s.size
    · cases hx : dec (s.data.toList.drop k) with
      | none =>
        have hX := Lib.hid hx
        clear hx
        have hv : Hid (cntV (runes s.data.toList) = .tuple #[.int .i64 0, .bool false]) := Lib.hid (by rw [hsc.out.fail (by rw [hlen.out]; exact hlt) hX.out]; rfl)
        go_wp2_with (go_at_call 35; refine (dec_none_of (dec_any s k hs2.out _) hX.out).mono ?_; rintro e w' ⟨rfl, rfl⟩)
        go_ret2
        exact ⟨congrArg Ending.returned hv.out.symm, rfl⟩
      | some rn =>
        obtain ⟨r, n⟩ := rn
        have hX := Lib.hid hx
        clear hx
        obtain ⟨_, hn1, hn4, hnl⟩ := dec_some_cp hX.out
        rw [List.length_drop, hlen.out] at hnl
        go_wp2_with (go_at_call 35; refine (dec_some_of (dec_any s k hs2.out _) r n hX.out).mono ?_; rintro e w' ⟨rfl, rfl⟩)
        go_round
        case rel => exact ⟨k + n, xs ++ [r], by omega, by simp; omega, by go_num, by simp, hsc.out.step hX.out⟩
        case measure => simp [intOf]; omega
    · have hv : Hid (cntV (runes s.data.toList) = .tuple #[.int .i64 xs.length, .bool true]) := Lib.hid (by rw [hsc.out.done (by rw [hlen.out]; exact hlt)]; rfl)
      go_wp2
      go_ret2
      exact ⟨congrArg Ending.returned hv.out.symm, rfl⟩
set_option maxHeartbeats 400000 in
theorem val_any (s : ByteArray) (hs : s.size ≤ maxLen) (w : World) :
    Calls Try.prog 38 #[.string s] w fun e w' => e = .returned (.bool (runes s.data.toList).isSome) ∧ w = w' := by
  cases hx : runes s.data.toList with
  | none =>
    have hc : ∀ w : World, Calls Try.prog 49 #[.string s] w fun e w' => e = .returned (.tuple #[.int .i64 0, .bool false]) ∧ w = w' := fun w => by
      have := cnt_any s hs w; rw [hx] at this; exact this
    have HC := Lib.hid hc
    clear hc hx hs
    go_enter Try.func38, Try.ntmps38
    go_wp2_with (go_at_call 49; refine (HC.out _).mono ?_; rintro e w' ⟨rfl, rfl⟩)
    go_ret
    exact ⟨rfl, rfl⟩
  | some xs =>
    have hc : ∀ w : World, Calls Try.prog 49 #[.string s] w fun e w' => e = .returned (.tuple #[.int .i64 xs.length, .bool true]) ∧ w = w' := fun w => by
      have := cnt_any s hs w; rw [hx] at this; exact this
    have HC := Lib.hid hc
    clear hc hx hs
    go_enter Try.func38, Try.ntmps38
    go_wp2_with (go_at_call 49; refine (HC.out _).mono ?_; rintro e w' ⟨rfl, rfl⟩)
    go_ret
    exact ⟨rfl, rfl⟩
end Go.Proofs.Ytnokmlclephjgaa
