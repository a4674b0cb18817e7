/- Lists of strings: slices.Compare, keep.Strings, keep.Short. -/
import Derived.Test.YtgdnkankleoaoaaOrd
import Derived.Deep.QuietTactic
import Derived.BigQuiet
set_option linter.unusedVariables false
set_option linter.unusedSimpArgs false
namespace Go.Proofs.Ytgdnkankleoaoaa
open Go.RowKit
theorem drewN_two (w : World) (m n : Nat) : (w.drewN m).drewN n = w.drewN (m + n) := by simp [World.drewN, Nat.add_assoc]
theorem take_eq_step {α : Type} {us vs : List α} {k : Nat} {x y : α} (ha : us[k]? = some x) (hb : vs[k]? = some y) (h : us.take k = vs.take k) (hxy : x = y) : us.take (k + 1) = vs.take (k + 1) := by
  rw [List.take_add_one, List.take_add_one, ha, hb, h, hxy]
theorem take_all_eq {α : Type} {us vs : List α} {k : Nat} (h : us.take k = vs.take k) (h1 : us.length ≤ k) (h2 : us.length = vs.length) : us = vs := by
  rw [List.take_of_length_le h1, List.take_of_length_le (by omega)] at h
  exact h
theorem at_ne {α : Type} {us vs : List α} {k : Nat} {x y : α} (ha : us[k]? = some x) (hb : vs[k]? = some y) (hne : x ≠ y) : us ≠ vs := by
  rintro rfl
  rw [ha] at hb
  injection hb with hb
  exact hne hb
set_option maxHeartbeats 1000000 in
theorem strings_any (A B : Option Addr) (a b : Nat) (ks ls : List ByteArray) (S T : Nat → Prop) (w : World) (hA : Rs w S A (kv ks)) (hB : Rs w T B (kv ls)) (hk : ks.length ≤ maxLen) :
    Calls Try.prog 22 #[.slice A ks.length a, .slice B ls.length b] w fun e w' => e = .returned (.bool (decide (ks = ls))) ∧ ∃ m, w' = w.drewN m := by
  have HA := Lib.hid hA
  have HB := Lib.hid hB
  clear hA hB
  unfold maxLen at hk
  by_cases hl : ks.length = ls.length
  · have hbq : (((ks.length : Nat) : Int) != ((ls.length : Nat) : Int)) = false := by simp [hl]
    have HL := Lib.hid hl
    clear hl
    go_enter Try.func22, Try.ntmps22
    go_wp2
    go_loopw [5] (fun t wr => ∃ i : Nat, i ≤ ks.length ∧ t = .int .i64 i ∧ ks.take i = ls.take i ∧ ∃ m, wr = w.drewN m) (fun t _ => ks.length - (intOf t).toNat)
    case atStart => exact ⟨0, Nat.zero_le _, rfl, rfl, 0, rfl⟩
    case round =>
      obtain ⟨i, hi, rfl, heq0, m, rfl⟩ := hrel
      have heq := Lib.hid heq0
      clear heq0
      by_cases hlt : i < ks.length
      · have hltb : i < ls.length := by have := HL.out; omega
        obtain ⟨x, hx⟩ : ∃ x, ks[i]? = some x := ⟨_, List.getElem?_eq_getElem hlt⟩
        obtain ⟨y, hy⟩ : ∃ y, ls[i]? = some y := ⟨_, List.getElem?_eq_getElem hltb⟩
        obtain ⟨b0, o0, rfl, _, hc0⟩ := HA.out.at_ (kv_at hx)
        obtain ⟨b1, o1, rfl, _, hc1⟩ := HB.out.at_ (kv_at hy)
        have HX := Lib.hid hx
        have HY := Lib.hid hy
        have hi1 : (i : Int) < (ks.length : Int) := by omega
        have hi2 : (i : Int) < (ls.length : Int) := by omega
        clear hx hy
        have hse := same_eq x y
        by_cases hz : scmp x y = 0
        · have HQ := Lib.hid ((scmp_zero x y).1 hz)
          obtain rfl := HQ.out
          clear hz hse
          go_wp2
          go_quiet (fail)
          go_wp2
          go_roundw
          case rel => exact ⟨i + 1, by omega, by go_num, take_eq_step HX.out HY.out heq.out rfl, _, rfl⟩
          case measure => simp [intOf]; omega
        · rw [decide_eq_false hz] at hse
          have hne : Hid (decide (ks = ls) = false) := Lib.hid (decide_eq_false (at_ne HX.out HY.out fun h => hz ((scmp_zero x y).2 h)))
          clear hz
          go_wp2
          go_quiet (fail)
          go_wp2
          go_ret
          exact ⟨ret_bool hne.out.symm, m + nq, drewN_two w m nq⟩
      · have he : Hid (decide (ks = ls) = true) := Lib.hid (decide_eq_true (take_all_eq heq.out (by omega) HL.out))
        go_wp2
        go_ret
        exact ⟨ret_bool he.out.symm, _, rfl⟩
  · have hbq : (((ks.length : Nat) : Int) != ((ls.length : Nat) : Int)) = true := by simp; omega
    have hne : Hid (decide (ks = ls) = false) := Lib.hid (decide_eq_false fun h => hl (by rw [h]))
    clear hl
    go_enter Try.func22, Try.ntmps22
    go_wp2
    go_ret
    exact ⟨ret_bool hne.out.symm, 0, rfl⟩
end Go.Proofs.Ytgdnkankleoaoaa
