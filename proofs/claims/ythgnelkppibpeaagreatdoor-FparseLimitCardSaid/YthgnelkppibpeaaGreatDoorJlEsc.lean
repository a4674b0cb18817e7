/- Escapes of JSON strings as functions on lists of bytes: the reference's reading and the program's, and that both are the same. Nothing of the program is named here. -/
import Derived.Test.YthgnelkppibpeaaGreatDoorUtfPlain
set_option linter.unusedVariables false
set_option linter.unusedSimpArgs false
namespace Go.Proofs.YthgnelkppibpeaaGreatDoor
/-- The value of a hexadecimal digit. -/
def hexP (b : UInt8) : Option Nat :=
  if 48 ≤ b.toNat ∧ b.toNat ≤ 57 then some (b.toNat - 48) else if 97 ≤ b.toNat ∧ b.toNat ≤ 102 then some (b.toNat - 97 + 10) else if 65 ≤ b.toNat ∧ b.toNat ≤ 70 then some (b.toNat - 65 + 10) else none
theorem hexP_lt {b : UInt8} {d : Nat} (h : hexP b = some d) : d < 16 := by
  unfold hexP at h
  (repeat' split at h) <;> simp at h <;> omega
/-- What is read of an element: a number, or that the text ends too early, or that there is no element. -/
inductive U where
  | ok (n : Nat)
  | trunc
  | bad
deriving DecidableEq
/-- The reference's four digits in a range: m are left, n is read. -/
def quadR (lo hi : Nat) : Nat → Nat → List UInt8 → U
  | 0, n, _ => .ok n
  | m + 1, n, [] => .trunc
  | m + 1, n, b :: r => match hexP b with
    | none => .bad
    | some d => if (n * 16 + d + 1) * 16 ^ m - 1 < lo ∨ hi < (n * 16 + d) * 16 ^ m then .bad else quadR lo hi m (n * 16 + d) r
/-- Is a number from least to most the second one of a pair, or, without low, none? -/
def possP (least most : Nat) (low : Bool) : Bool := if low then decide (least ≤ 57343 ∧ 56320 ≤ most) else decide (least < 56320 ∨ 57343 < most)
/-- The program's four digits: m are left, n is read. -/
def unitD (low : Bool) : Nat → Nat → List UInt8 → U
  | 0, n, _ => .ok n
  | m + 1, n, [] => .trunc
  | m + 1, n, b :: r => match hexP b with
    | none => .bad
    | some d => if possP ((n * 16 + d) * 16 ^ m) ((n * 16 + d) * 16 ^ m + 16 ^ m - 1) low = true then unitD low m (n * 16 + d) r else .bad
theorem pow16 (m x : Nat) : (x + 1) * 16 ^ m - 1 = x * 16 ^ m + 16 ^ m - 1 := by rw [Nat.add_mul, Nat.one_mul]
theorem unit_low : ∀ (m n : Nat) (l : List UInt8), unitD true m n l = quadR 56320 57343 m n l
  | 0, n, l => by rw [unitD, quadR]
  | m + 1, n, [] => by rw [unitD, quadR]
  | m + 1, n, b :: r => by
    rw [unitD, quadR]
    cases hexP b with
    | none => rfl
    | some d =>
      simp only []
      rw [unit_low m, pow16]
      generalize (n * 16 + d) * 16 ^ m = x
      generalize 16 ^ m = p
      unfold possP
      by_cases h : x ≤ 57343 ∧ 56320 ≤ x + p - 1
      · rw [if_pos (by simpa using h), if_neg (by omega)]
      · rw [if_neg (by simpa using h), if_pos (by omega)]
/-- Without a range the reference reads any four digits. -/
def quadA : Nat → Nat → List UInt8 → U
  | 0, n, _ => .ok n
  | m + 1, n, [] => .trunc
  | m + 1, n, b :: r => match hexP b with
    | none => .bad
    | some d => quadA m (n * 16 + d) r
theorem quad_any : ∀ (m n : Nat) (l : List UInt8), (n + 1) * 16 ^ m ≤ 65536 → quadR 0 65535 m n l = quadA m n l
  | 0, n, l, _ => by rw [quadR, quadA]
  | m + 1, n, [], _ => by rw [quadR, quadA]
  | m + 1, n, b :: r, h => by
    rw [quadR, quadA]
    cases hd : hexP b with
    | none => rfl
    | some d =>
      have hd16 := hexP_lt hd
      simp only []
      have hle : (n * 16 + d + 1) * 16 ^ m ≤ 65536 := by
        refine Nat.le_trans ?_ h
        rw [Nat.pow_succ, Nat.mul_comm (16 ^ m) 16, ← Nat.mul_assoc]
        exact Nat.mul_le_mul_right _ (by omega)
      have hlt : (n * 16 + d) * 16 ^ m ≤ 65535 := by
        have : (n * 16 + d) * 16 ^ m < (n * 16 + d + 1) * 16 ^ m := Nat.mul_lt_mul_of_pos_right (by omega) (Nat.pow_pos (by omega))
        omega
      rw [if_neg (by omega), quad_any m _ r hle]
/-- The reference's first number of an element: any four digits, but no second number of a pair; too early an end is none if no element begins so. -/
def firstR (l : List UInt8) : U :=
  match quadA 4 0 l with
  | .bad => .bad
  | .trunc => match l with
    | b :: c :: _ => match hexP b, hexP c with
      | some d, some e => if d = 13 ∧ 12 ≤ e then .bad else .trunc
      | _, _ => .trunc
    | _ => .trunc
  | .ok n => if 56320 ≤ n ∧ n ≤ 57343 then .bad else .ok n
theorem hexP_none_or (b : UInt8) : hexP b = none ∨ ∃ d, hexP b = some d ∧ d < 16 := by
  cases h : hexP b with
  | none => exact .inl rfl
  | some d => exact .inr ⟨d, rfl, hexP_lt h⟩
theorem unitD_some {low : Bool} {m n d : Nat} {b : UInt8} {r : List UInt8} (h : hexP b = some d) : unitD low (m + 1) n (b :: r) = if possP ((n * 16 + d) * 16 ^ m) ((n * 16 + d) * 16 ^ m + 16 ^ m - 1) low = true then unitD low m (n * 16 + d) r else .bad := by rw [unitD, h]
theorem unitD_none {low : Bool} {m n : Nat} {b : UInt8} {r : List UInt8} (h : hexP b = none) : unitD low (m + 1) n (b :: r) = .bad := by rw [unitD, h]
theorem quadA_some {m n d : Nat} {b : UInt8} {r : List UInt8} (h : hexP b = some d) : quadA (m + 1) n (b :: r) = quadA m (n * 16 + d) r := by rw [quadA, h]
theorem quadA_none {m n : Nat} {b : UInt8} {r : List UInt8} (h : hexP b = none) : quadA (m + 1) n (b :: r) = .bad := by rw [quadA, h]
theorem poss_no {x y : Nat} : possP x y false = true ↔ (x < 56320 ∨ 57343 < y) := by unfold possP; simp
/-- Behind two digits that are possible every further one is. -/
theorem unit_rest : ∀ (m n : Nat) (l : List UInt8), (n + 1) * 16 ^ m ≤ 56320 ∨ 57344 ≤ n * 16 ^ m → unitD false m n l = quadA m n l
  | 0, n, l, _ => by rw [unitD, quadA]
  | m + 1, n, [], _ => by rw [unitD, quadA]
  | m + 1, n, b :: r, h => by
    rcases hexP_none_or b with hb | ⟨d, hb, hd⟩
    · rw [unitD_none hb, quadA_none hb]
    · rw [unitD_some hb, quadA_some hb]
      have hp : 0 < 16 ^ m := Nat.pow_pos (by omega)
      have e1 : (n + 1) * 16 ^ (m + 1) = (n * 16 + 16) * 16 ^ m := by rw [Nat.pow_succ, Nat.mul_comm (16 ^ m) 16, ← Nat.mul_assoc]; congr 1; omega
      have e2 : n * 16 ^ (m + 1) = (n * 16) * 16 ^ m := by rw [Nat.pow_succ, Nat.mul_comm (16 ^ m) 16, ← Nat.mul_assoc]
      rw [e1, e2] at h
      have a1 : (n * 16 + d + 1) * 16 ^ m ≤ (n * 16 + 16) * 16 ^ m := Nat.mul_le_mul_right _ (by omega)
      have a2 : (n * 16) * 16 ^ m ≤ (n * 16 + d) * 16 ^ m := Nat.mul_le_mul_right _ (by omega)
      have a3 : (n * 16 + d + 1) * 16 ^ m = (n * 16 + d) * 16 ^ m + 16 ^ m := by rw [Nat.add_mul, Nat.one_mul]
      rw [if_pos (poss_no.2 (by omega))]
      exact unit_rest m _ r (by omega)
theorem quadA_lo : ∀ (m n : Nat) (l : List UInt8) (x : Nat), quadA m n l = .ok x → n * 16 ^ m ≤ x ∧ x < (n + 1) * 16 ^ m
  | 0, n, l, x, h => by rw [quadA] at h; injection h with h; subst h; simp
  | m + 1, n, [], x, h => by rw [quadA] at h; cases h
  | m + 1, n, b :: r, x, h => by
    rcases hexP_none_or b with hb | ⟨d, hb, hd⟩
    · rw [quadA_none hb] at h; cases h
    · rw [quadA_some hb] at h
      obtain ⟨h1, h2⟩ := quadA_lo m _ r x h
      have e1 : (n + 1) * 16 ^ (m + 1) = (n * 16 + 16) * 16 ^ m := by rw [Nat.pow_succ, Nat.mul_comm (16 ^ m) 16, ← Nat.mul_assoc]; congr 1; omega
      have e2 : n * 16 ^ (m + 1) = (n * 16) * 16 ^ m := by rw [Nat.pow_succ, Nat.mul_comm (16 ^ m) 16, ← Nat.mul_assoc]
      have a1 : (n * 16 + d + 1) * 16 ^ m ≤ (n * 16 + 16) * 16 ^ m := Nat.mul_le_mul_right _ (by omega)
      have a2 : (n * 16) * 16 ^ m ≤ (n * 16 + d) * 16 ^ m := Nat.mul_le_mul_right _ (by omega)
      rw [e1, e2]
      omega
/-- The program's first number of an element is the reference's. -/
theorem unit_first (l : List UInt8) : unitD false 4 0 l = firstR l := by
  unfold firstR
  match l with
  | [] => simp [unitD, quadA]
  | [b] =>
    rcases hexP_none_or b with h | ⟨d, h, hd⟩
    · rw [unitD_none h, quadA_none h]
    · rw [unitD_some h, quadA_some h, if_pos (poss_no.2 (by omega))]
      rw [unitD, quadA]
  | b :: c :: r =>
    rcases hexP_none_or b with h | ⟨d, h, hd⟩
    · rw [unitD_none h, quadA_none h]
    · rw [unitD_some h, quadA_some h, if_pos (poss_no.2 (by omega))]
      rcases hexP_none_or c with k | ⟨e, k, he⟩
      · rw [unitD_none k, quadA_none k]
      · rw [unitD_some k, quadA_some k]
        simp only [h, k]
        by_cases hb : d = 13 ∧ 12 ≤ e
        · rw [if_neg (by rw [poss_no]; omega)]
          cases hq : quadA 2 ((0 * 16 + d) * 16 + e) r with
          | bad => rfl
          | trunc => simp only []; rw [if_pos hb]
          | ok x =>
            have := quadA_lo _ _ _ _ hq
            simp only []
            rw [if_pos (by omega)]
        · rw [if_pos (by rw [poss_no]; omega), unit_rest 2 _ r (by omega)]
          cases hq : quadA 2 ((0 * 16 + d) * 16 + e) r with
          | bad => rfl
          | trunc => simp only []; rw [if_neg hb]
          | ok x =>
            have := quadA_lo _ _ _ _ hq
            simp only []
            rw [if_neg (by omega)]
end Go.Proofs.YthgnelkppibpeaaGreatDoor
