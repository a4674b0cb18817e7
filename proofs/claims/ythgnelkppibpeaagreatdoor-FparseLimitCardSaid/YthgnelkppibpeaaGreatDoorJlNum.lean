/- Numbers of JSON texts: what ParseInt makes of their digits, and what a loop over them knows. Nothing of the program is named here. -/
import Derived.Test.YthgnelkppibpeaaGreatDoorJlP
set_option linter.unusedVariables false
set_option linter.unusedSimpArgs false
namespace Go.Proofs.YthgnelkppibpeaaGreatDoor
theorem natF_cons (a : Nat) (b : UInt8) (l : List UInt8) : natF a (b :: l) = natF (a * 10 + (b.toNat - 48)) l := by unfold natF; rw [List.foldl_cons]
theorem natF_le : ∀ (l : List UInt8) (a : Nat), a ≤ natF a l
  | [], a => Nat.le_refl _
  | b :: l, a => by rw [natF_cons]; have := natF_le l (a * 10 + (b.toNat - 48)); omega
theorem natF_app (a : Nat) (l r : List UInt8) : natF a (l ++ r) = natF (natF a l) r := by unfold natF; rw [List.foldl_append]
theorem natF_take {l : List UInt8} {i : Nat} {b : UInt8} (h : l[i]? = some b) : natF 0 (l.take (i + 1)) = natF 0 (l.take i) * 10 + (b.toNat - 48) := by
  rw [List.take_add_one, h, natF_app]; rfl
theorem natF_take_le (l : List UInt8) (i : Nat) : natF 0 (l.take i) ≤ natF 0 l := by
  conv => rhs; rw [← List.take_append_drop i l]
  rw [natF_app]
  exact natF_le _ _
theorem parse_digits : ∀ (l : List UInt8) (a : Nat), (∀ b ∈ l, digB b = true) → a < 18446744073709551616 → Lib.parseUint10 a l = if natF a l < 18446744073709551616 then .ok (natF a l) else .range
  | [], a, _, h => by unfold Lib.parseUint10; rw [show natF a [] = a from by unfold natF; rfl, if_pos h]
  | b :: l, a, hd, h => by
    have hb : 48 ≤ b.toNat ∧ b.toNat ≤ 57 := by have := hd b (by simp); unfold digB at this; simpa using this
    unfold Lib.parseUint10
    rw [if_pos hb, natF_cons]
    have hle := natF_le l (a * 10 + (b.toNat - 48))
    by_cases h1 : 1844674407370955162 ≤ a
    · rw [if_pos h1, if_neg (by omega)]
    · rw [if_neg h1]
      by_cases h2 : 18446744073709551616 ≤ a * 10 + (b.toNat - 48)
      · rw [if_pos h2, if_neg (by omega)]
      · rw [if_neg h2]
        exact parse_digits l _ (fun c hc => hd c (by simp [hc])) (by omega)
def endP : Option Int → Lib.NumEnd Int
  | some v => .ok v
  | none => .range
theorem atoi_digits {l : List UInt8} (hl : l ≠ []) (hd : ∀ b ∈ l, digB b = true) : Lib.atoiAll l = endP (fitP false (natF 0 l)) := by
  cases l with
  | nil => exact absurd rfl hl
  | cons c r =>
    have hb : 48 ≤ c.toNat ∧ c.toNat ≤ 57 := by have := hd c (by simp); unfold digB at this; simpa using this
    rw [Lib.atoiAll_plain c r (by omega) (by omega)]
    unfold Lib.parseMag
    rw [if_neg (by simp), parse_digits _ 0 hd (by omega)]
    unfold fitP
    simp only []
    by_cases h : natF 0 (c :: r) < 9223372036854775808
    · rw [if_pos h, if_pos (by omega)]
      simp only [Lib.signless]
      rw [if_neg (by omega)]; rfl
    · rw [if_neg h]
      split
      · simp only [Lib.signless]
        rw [if_pos (by omega)]; rfl
      · rfl
theorem atoi_minus {l : List UInt8} (hl : l ≠ []) (hd : ∀ b ∈ l, digB b = true) : Lib.atoiAll (45 :: l) = endP (fitP true (natF 0 l)) := by
  rw [Lib.atoiAll_minus]
  unfold Lib.parseMag
  rw [if_neg hl, parse_digits _ 0 hd (by omega)]
  unfold fitP
  simp only []
  by_cases h : natF 0 l ≤ 9223372036854775808
  · rw [if_pos h, if_pos (by omega)]
    simp only [Lib.signed]
    rw [if_neg (by omega)]; rfl
  · rw [if_neg h]
    split
    · simp only [Lib.signed]
      rw [if_pos (by omega)]; rfl
    · rfl
theorem sub_cons {l : List UInt8} {i j : Nat} (h : i < j) (hi : i < l.length) : sub l i j = l[i] :: sub l (i + 1) j := by
  unfold sub
  rw [List.drop_eq_getElem_cons hi, show j - i = (j - (i + 1)) + 1 from by omega, List.take_succ_cons]
theorem sub_mem {l : List UInt8} {i j : Nat} {b : UInt8} (h : b ∈ sub l i j) : ∃ x, ∃ hx : x < l.length, i ≤ x ∧ x < j ∧ l[x] = b := by
  unfold sub at h
  obtain ⟨n, hn, hb⟩ := List.mem_iff_getElem.1 h
  rw [List.getElem_take, List.getElem_drop] at hb
  simp only [List.length_take, List.length_drop] at hn
  exact ⟨i + n, by omega, by omega, by omega, hb⟩
theorem sub_len {l : List UInt8} {i j : Nat} (h : j ≤ l.length) : (sub l i j).length = j - i := by unfold sub; simp; omega
theorem sub_digits (l : List UInt8) (k : Nat) : ∀ b ∈ sub l k (span digB l k), digB b = true := fun b hb => by
  obtain ⟨x, hx, h1, h2, rfl⟩ := sub_mem hb
  exact span_all hx h1 h2
/-- What ParseInt makes of a number: '-' or not, and digits. -/
theorem atoi_sub {l : List UInt8} {k : Nat} (hk : k < l.length) (hne : span digB l (firstP l k) ≠ firstP l k) :
    Lib.atoiAll (sub l k (span digB l (firstP l k))) = endP (fitP (decide (byt l k = 45)) (natF 0 (sub l (firstP l k) (span digB l (firstP l k))))) := by
  have hge := span_ge digB l (firstP l k)
  have hdig := sub_digits l (firstP l k)
  rcases firstP_cases (l := l) (k := k) with ⟨h1, h2⟩ | ⟨h1, h2⟩
  · rw [h2] at hge hdig hne ⊢
    have hle : span digB l (k + 1) ≤ l.length := span_le (by omega)
    have hc : l[k] = 45 := by rw [byt_at hk] at h1; exact UInt8.toNat_inj.1 h1
    rw [sub_cons (by omega) hk, hc, decide_eq_true h1]
    exact atoi_minus (by intro h; have := congrArg List.length h; rw [sub_len hle] at this; simp at this; omega) hdig
  · rw [h2] at hge hdig hne ⊢
    have hle : span digB l k ≤ l.length := span_le (by omega)
    rw [decide_eq_false h1]
    exact atoi_digits (by intro h; have := congrArg List.length h; rw [sub_len hle] at this; simp at this; omega) hdig
theorem fitP_big {neg : Bool} {v : Nat} (h : 9223372036854775808 < v) : fitP neg v = none := by
  cases neg <;> unfold fitP <;> simp <;> omega
theorem fitP_range {neg : Bool} {v : Nat} {i : Int} (h : fitP neg v = some i) : -9223372036854775808 ≤ i ∧ i ≤ 9223372036854775807 := by
  cases neg <;> unfold fitP at h <;> simp at h <;> omega
end Go.Proofs.YthgnelkppibpeaaGreatDoor
