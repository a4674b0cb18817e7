/- Lists of strings: slices.Compare, keep.Strings, keep.Short. -/
import Derived.Test.YtnokmlclephjgaaOrd
import Derived.Deep.QuietTactic
import Derived.BigQuiet
set_option linter.unusedVariables false
set_option linter.unusedSimpArgs false
namespace Go.Proofs.Ytnokmlclephjgaa
open Go.RowKit
/-- The order of two lists of strings. -/
def kcmp : List ByteArray → List ByteArray → Int
  | [], [] => 0
  | [], _ :: _ => -1
  | _ :: _, [] => 1
  | x :: a, y :: b => if scmp x y = 0 then kcmp a b else scmp x y
theorem kcmp_step {ks ls : List ByteArray} {i : Nat} {x y : ByteArray} (hx : ks[i]? = some x) (hy : ls[i]? = some y) (h : scmp x y = 0) : kcmp (ks.drop i) (ls.drop i) = kcmp (ks.drop (i + 1)) (ls.drop (i + 1)) := by
  obtain ⟨h1, rfl⟩ := List.getElem?_eq_some_iff.1 hx
  obtain ⟨h2, rfl⟩ := List.getElem?_eq_some_iff.1 hy
  rw [List.drop_eq_getElem_cons h1, List.drop_eq_getElem_cons h2, kcmp, if_pos h]
theorem kcmp_part {ks ls : List ByteArray} {i : Nat} {x y : ByteArray} (hx : ks[i]? = some x) (hy : ls[i]? = some y) (h : ¬ scmp x y = 0) : kcmp (ks.drop i) (ls.drop i) = scmp x y := by
  obtain ⟨h1, rfl⟩ := List.getElem?_eq_some_iff.1 hx
  obtain ⟨h2, rfl⟩ := List.getElem?_eq_some_iff.1 hy
  rw [List.drop_eq_getElem_cons h1, List.drop_eq_getElem_cons h2, kcmp, if_neg h]
theorem kcmp_long {ks ls : List ByteArray} {i : Nat} {x : ByteArray} (hx : ks[i]? = some x) (hl : ls.length ≤ i) : kcmp (ks.drop i) (ls.drop i) = 1 := by
  obtain ⟨h1, rfl⟩ := List.getElem?_eq_some_iff.1 hx
  rw [List.drop_eq_getElem_cons h1, List.drop_eq_nil_of_le hl, kcmp]
theorem kcmp_end {ks ls : List ByteArray} (hl : ks.length ≤ ls.length) : kcmp (ks.drop ks.length) (ls.drop ks.length) = if ks.length < ls.length then -1 else 0 := by
  rw [List.drop_eq_nil_of_le (Nat.le_refl _)]
  by_cases h : ks.length < ls.length
  · rw [if_pos h, List.drop_eq_getElem_cons h, kcmp]
  · rw [if_neg h, List.drop_eq_nil_of_le (by omega), kcmp]
set_option maxHeartbeats 1000000 in
theorem slcmp_any (A B : Option Addr) (a b : Nat) (ks ls : List ByteArray) (S T : Nat → Prop) (w : World) (hA : Rs w S A (kv ks)) (hB : Rs w T B (kv ls)) (hk : ks.length ≤ maxLen) (hl : ls.length ≤ maxLen) :
    Calls Try.prog 56 #[.slice A ks.length a, .slice B ls.length b] w fun e w' => e = .returned (.int .i64 (kcmp ks ls)) ∧ w = w' := by
  have HA := Lib.hid hA
  have HB := Lib.hid hB
  clear hA hB
  unfold maxLen at hk hl
  go_enter Try.func56, Try.ntmps56
  go_wp2
  go_loop [11] (fun t => ∃ i : Nat, i ≤ ks.length ∧ i ≤ ls.length ∧ t = .int .i64 i ∧ kcmp ks ls = kcmp (ks.drop i) (ls.drop i)) (fun t => ks.length - (intOf t).toNat)
  case atStart => exact ⟨0, Nat.zero_le _, Nat.zero_le _, rfl, rfl⟩
  case round =>
    obtain ⟨i, hi, hil, rfl, h0⟩ := hrel
    have H0 := Lib.hid h0
    clear h0
    by_cases hlt : i < ks.length
    · obtain ⟨x, hx⟩ : ∃ x, ks[i]? = some x := ⟨_, List.getElem?_eq_getElem hlt⟩
      obtain ⟨b0, o0, rfl, _, hc0⟩ := HA.out.at_ (kv_at hx)
      by_cases hlt2 : i < ls.length
      · obtain ⟨y, hy⟩ : ∃ y, ls[i]? = some y := ⟨_, List.getElem?_eq_getElem hlt2⟩
        obtain ⟨b1, o1, rfl, _, hc1⟩ := HB.out.at_ (kv_at hy)
        by_cases hz : scmp x y = 0
        · have hs := Lib.hid (H0.out.trans (kcmp_step hx hy hz))
          have HZ := Lib.hid hz
          have hzb : ((scmp x y) != 0) = false := by simp [hz]
          have HC := Lib.hid (fun w => cmp_str x y w)
          clear hz hx hy
          go_wp2_with (go_at_call 65; refine (HC.out _).mono ?_; rintro e w' ⟨rfl, rfl⟩)
          go_round
          case rel => exact ⟨i + 1, by omega, by omega, by go_num, hs.out⟩
          case measure => simp [intOf]; omega
        · have hs := Lib.hid (H0.out.trans (kcmp_part hx hy hz))
          have hzb : ((scmp x y) != 0) = true := by simp [hz]
          clear hz hx hy
          go_wp2_with (go_at_call 65; refine (cmp_str x y _).mono ?_; rintro e w' ⟨rfl, rfl⟩)
          go_ret
          exact ⟨ret_int hs.out.symm, rfl⟩
      · have hs := Lib.hid (H0.out.trans (kcmp_long hx (by omega)))
        clear hx
        go_wp2
        go_ret
        exact ⟨ret_int hs.out.symm, rfl⟩
    · obtain rfl : i = ks.length := by omega
      have hs := Lib.hid (H0.out.trans (kcmp_end hil))
      by_cases hlt2 : ks.length < ls.length
      · have hv := Lib.hid (hs.out.trans (if_pos hlt2))
        go_wp2
        go_ret
        exact ⟨ret_int hv.out.symm, rfl⟩
      · have hv := Lib.hid (hs.out.trans (if_neg hlt2))
        go_wp2
        go_ret
        exact ⟨ret_int hv.out.symm, rfl⟩
theorem drewN_two (w : World) (m n : Nat) : (w.drewN m).drewN n = w.drewN (m + n) := by simp [World.drewN, Nat.add_assoc]
theorem take_eq_step {α : Type} {us vs : List α} {k : Nat} {x y : α} (ha : us[k]? = some x) (hb : vs[k]? = some y) (h : us.take k = vs.take k) (hxy : x = y) : us.take (k + 1) = vs.take (k + 1) := by
  rw [List.take_add_one, List.take_add_one, ha, hb, h, hxy]
theorem take_all_eq {α : Type} {us vs : List α} {k : Nat} (h : us.take k = vs.take k) (h1 : us.length ≤ k) (h2 : us.length = vs.length) : us = vs := by
  rw [List.take_of_length_le h1, List.take_of_length_le (by omega)] at h
  exact h
theorem at_ne {α : Type} {us vs : List α} {k : Nat} {x y : α} (ha : us[k]? = some x) (hb : vs[k]? = some y) (hne : x ≠ y) : us ≠ vs := by
  rintro rfl
  rw [ha] at hb
  injection hb with hb
  exact hne hb
set_option maxHeartbeats 1000000 in
theorem strings_any (A B : Option Addr) (a b : Nat) (ks ls : List ByteArray) (S T : Nat → Prop) (w : World) (hA : Rs w S A (kv ks)) (hB : Rs w T B (kv ls)) (hk : ks.length ≤ maxLen) :
    Calls Try.prog 28 #[.slice A ks.length a, .slice B ls.length b] w fun e w' => e = .returned (.bool (decide (ks = ls))) ∧ ∃ m, w' = w.drewN m := by
  have HA := Lib.hid hA
  have HB := Lib.hid hB
  clear hA hB
  unfold maxLen at hk
  by_cases hl : ks.length = ls.length
  · have hbq : (((ks.length : Nat) : Int) != ((ls.length : Nat) : Int)) = false := by simp [hl]
    have HL := Lib.hid hl
    clear hl
    go_enter Try.func28, Try.ntmps28
    go_wp2
    go_loopw [5] (fun t wr => ∃ i : Nat, i ≤ ks.length ∧ t = .int .i64 i ∧ ks.take i = ls.take i ∧ ∃ m, wr = w.drewN m) (fun t _ => ks.length - (intOf t).toNat)
    case atStart => exact ⟨0, Nat.zero_le _, rfl, rfl, 0, rfl⟩
    case round =>
      obtain ⟨i, hi, rfl, heq0, m, rfl⟩ := hrel
      have heq := Lib.hid heq0
      clear heq0
      by_cases hlt : i < ks.length
      · have hltb : i < ls.length := by have := HL.out; omega
        obtain ⟨x, hx⟩ : ∃ x, ks[i]? = some x := ⟨_, List.getElem?_eq_getElem hlt⟩
        obtain ⟨y, hy⟩ : ∃ y, ls[i]? = some y := ⟨_, List.getElem?_eq_getElem hltb⟩
        obtain ⟨b0, o0, rfl, _, hc0⟩ := HA.out.at_ (kv_at hx)
        obtain ⟨b1, o1, rfl, _, hc1⟩ := HB.out.at_ (kv_at hy)
        have HX := Lib.hid hx
        have HY := Lib.hid hy
        have hi1 : (i : Int) < (ks.length : Int) := by omega
        have hi2 : (i : Int) < (ls.length : Int) := by omega
        clear hx hy
        have hse := same_eq x y
        by_cases hz : scmp x y = 0
        · have HQ := Lib.hid ((scmp_zero x y).1 hz)
          obtain rfl := HQ.out
          clear hz hse
          go_wp2
          go_quiet (fail)
          go_wp2
          go_roundw
          case rel => exact ⟨i + 1, by omega, by go_num, take_eq_step HX.out HY.out heq.out rfl, _, rfl⟩
          case measure => simp [intOf]; omega
        · rw [decide_eq_false hz] at hse
          have hne : Hid (decide (ks = ls) = false) := Lib.hid (decide_eq_false (at_ne HX.out HY.out fun h => hz ((scmp_zero x y).2 h)))
          clear hz
          go_wp2
          go_quiet (fail)
          go_wp2
          go_ret
          exact ⟨ret_bool hne.out.symm, m + nq, drewN_two w m nq⟩
      · have he : Hid (decide (ks = ls) = true) := Lib.hid (decide_eq_true (take_all_eq heq.out (by omega) HL.out))
        go_wp2
        go_ret
        exact ⟨ret_bool he.out.symm, _, rfl⟩
  · have hbq : (((ks.length : Nat) : Int) != ((ls.length : Nat) : Int)) = true := by simp; omega
    have hne : Hid (decide (ks = ls) = false) := Lib.hid (decide_eq_false fun h => hl (by rw [h]))
    clear hl
    go_enter Try.func28, Try.ntmps28
    go_wp2
    go_ret
    exact ⟨ret_bool hne.out.symm, 0, rfl⟩
end Go.Proofs.Ytnokmlclephjgaa
