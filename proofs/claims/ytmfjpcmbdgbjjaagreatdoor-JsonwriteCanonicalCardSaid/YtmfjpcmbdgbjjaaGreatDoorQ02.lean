/- Escapes of JSON strings as functions on lists of bytes: the reference's reading and the program's, and that both are the same. Nothing of the program is named here. Plain facts on the encoding of code points, and how it fits their decoding. Nothing of the program is named here. -/
import Derived.Test.YtmfjpcmbdgbjjaaGreatDoorQ01
set_option linter.unusedVariables false
set_option linter.unusedSimpArgs false
namespace Go.Proofs.YtmfjpcmbdgbjjaaGreatDoor
/-- The value of a hexadecimal digit. -/
def hexP (b : UInt8) : Option Nat :=
  if 48 ≤ b.toNat ∧ b.toNat ≤ 57 then some (b.toNat - 48) else if 97 ≤ b.toNat ∧ b.toNat ≤ 102 then some (b.toNat - 97 + 10) else if 65 ≤ b.toNat ∧ b.toNat ≤ 70 then some (b.toNat - 65 + 10) else none
theorem hexP_lt {b : UInt8} {d : Nat} (h : hexP b = some d) : d < 16 := by
  unfold hexP at h
  (repeat' split at h) <;> simp at h <;> omega
/-- What is read of an element: a number, or that the text ends too early, or that there is no element. -/
inductive U where
  | ok (n : Nat)
  | trunc
  | bad
deriving DecidableEq
/-- The reference's four digits in a range: m are left, n is read. -/
def quadR (lo hi : Nat) : Nat → Nat → List UInt8 → U
  | 0, n, _ => .ok n
  | m + 1, n, [] => .trunc
  | m + 1, n, b :: r => match hexP b with
    | none => .bad
    | some d => if (n * 16 + d + 1) * 16 ^ m - 1 < lo ∨ hi < (n * 16 + d) * 16 ^ m then .bad else quadR lo hi m (n * 16 + d) r
/-- Is a number from least to most the second one of a pair, or, without low, none? -/
def possP (least most : Nat) (low : Bool) : Bool := if low then decide (least ≤ 57343 ∧ 56320 ≤ most) else decide (least < 56320 ∨ 57343 < most)
/-- The program's four digits: m are left, n is read. -/
def unitD (low : Bool) : Nat → Nat → List UInt8 → U
  | 0, n, _ => .ok n
  | m + 1, n, [] => .trunc
  | m + 1, n, b :: r => match hexP b with
    | none => .bad
    | some d => if possP ((n * 16 + d) * 16 ^ m) ((n * 16 + d) * 16 ^ m + 16 ^ m - 1) low = true then unitD low m (n * 16 + d) r else .bad
theorem pow16 (m x : Nat) : (x + 1) * 16 ^ m - 1 = x * 16 ^ m + 16 ^ m - 1 := by rw [Nat.add_mul, Nat.one_mul]
theorem unit_low : ∀ (m n : Nat) (l : List UInt8), unitD true m n l = quadR 56320 57343 m n l
  | 0, n, l => by rw [unitD, quadR]
  | m + 1, n, [] => by rw [unitD, quadR]
  | m + 1, n, b :: r => by
    rw [unitD, quadR]
    cases hexP b with
    | none => rfl
    | some d =>
      simp only []
      rw [unit_low m, pow16]
      generalize (n * 16 + d) * 16 ^ m = x
      generalize 16 ^ m = p
      unfold possP
      by_cases h : x ≤ 57343 ∧ 56320 ≤ x + p - 1
      · rw [if_pos (by simpa using h), if_neg (by omega)]
      · rw [if_neg (by simpa using h), if_pos (by omega)]
/-- Without a range the reference reads any four digits. -/
def quadA : Nat → Nat → List UInt8 → U
  | 0, n, _ => .ok n
  | m + 1, n, [] => .trunc
  | m + 1, n, b :: r => match hexP b with
    | none => .bad
    | some d => quadA m (n * 16 + d) r
/-- The reference's first number of an element: any four digits, but no second number of a pair; too early an end is none if no element begins so. -/
def firstR (l : List UInt8) : U :=
  match quadA 4 0 l with
  | .bad => .bad
  | .trunc => match l with
    | b :: c :: _ => match hexP b, hexP c with
      | some d, some e => if d = 13 ∧ 12 ≤ e then .bad else .trunc
      | _, _ => .trunc
    | _ => .trunc
  | .ok n => if 56320 ≤ n ∧ n ≤ 57343 then .bad else .ok n
theorem hexP_none_or (b : UInt8) : hexP b = none ∨ ∃ d, hexP b = some d ∧ d < 16 := by
  cases h : hexP b with
  | none => exact .inl rfl
  | some d => exact .inr ⟨d, rfl, hexP_lt h⟩
theorem unitD_some {low : Bool} {m n d : Nat} {b : UInt8} {r : List UInt8} (h : hexP b = some d) : unitD low (m + 1) n (b :: r) = if possP ((n * 16 + d) * 16 ^ m) ((n * 16 + d) * 16 ^ m + 16 ^ m - 1) low = true then unitD low m (n * 16 + d) r else .bad := by rw [unitD, h]
theorem unitD_none {low : Bool} {m n : Nat} {b : UInt8} {r : List UInt8} (h : hexP b = none) : unitD low (m + 1) n (b :: r) = .bad := by rw [unitD, h]
theorem quadA_some {m n d : Nat} {b : UInt8} {r : List UInt8} (h : hexP b = some d) : quadA (m + 1) n (b :: r) = quadA m (n * 16 + d) r := by rw [quadA, h]
theorem quadA_none {m n : Nat} {b : UInt8} {r : List UInt8} (h : hexP b = none) : quadA (m + 1) n (b :: r) = .bad := by rw [quadA, h]
theorem poss_no {x y : Nat} : possP x y false = true ↔ (x < 56320 ∨ 57343 < y) := by unfold possP; simp
/-- Behind two digits that are possible every further one is. -/
theorem unit_rest : ∀ (m n : Nat) (l : List UInt8), (n + 1) * 16 ^ m ≤ 56320 ∨ 57344 ≤ n * 16 ^ m → unitD false m n l = quadA m n l
  | 0, n, l, _ => by rw [unitD, quadA]
  | m + 1, n, [], _ => by rw [unitD, quadA]
  | m + 1, n, b :: r, h => by
    rcases hexP_none_or b with hb | ⟨d, hb, hd⟩
    · rw [unitD_none hb, quadA_none hb]
    · rw [unitD_some hb, quadA_some hb]
      have hp : 0 < 16 ^ m := Nat.pow_pos (by omega)
      have e1 : (n + 1) * 16 ^ (m + 1) = (n * 16 + 16) * 16 ^ m := by rw [Nat.pow_succ, Nat.mul_comm (16 ^ m) 16, ← Nat.mul_assoc]; congr 1; omega
      have e2 : n * 16 ^ (m + 1) = (n * 16) * 16 ^ m := by rw [Nat.pow_succ, Nat.mul_comm (16 ^ m) 16, ← Nat.mul_assoc]
      rw [e1, e2] at h
      have a1 : (n * 16 + d + 1) * 16 ^ m ≤ (n * 16 + 16) * 16 ^ m := Nat.mul_le_mul_right _ (by omega)
      have a2 : (n * 16) * 16 ^ m ≤ (n * 16 + d) * 16 ^ m := Nat.mul_le_mul_right _ (by omega)
      have a3 : (n * 16 + d + 1) * 16 ^ m = (n * 16 + d) * 16 ^ m + 16 ^ m := by rw [Nat.add_mul, Nat.one_mul]
      rw [if_pos (poss_no.2 (by omega))]
      exact unit_rest m _ r (by omega)
theorem quadA_lo : ∀ (m n : Nat) (l : List UInt8) (x : Nat), quadA m n l = .ok x → n * 16 ^ m ≤ x ∧ x < (n + 1) * 16 ^ m
  | 0, n, l, x, h => by rw [quadA] at h; injection h with h; subst h; simp
  | m + 1, n, [], x, h => by rw [quadA] at h; cases h
  | m + 1, n, b :: r, x, h => by
    rcases hexP_none_or b with hb | ⟨d, hb, hd⟩
    · rw [quadA_none hb] at h; cases h
    · rw [quadA_some hb] at h
      obtain ⟨h1, h2⟩ := quadA_lo m _ r x h
      have e1 : (n + 1) * 16 ^ (m + 1) = (n * 16 + 16) * 16 ^ m := by rw [Nat.pow_succ, Nat.mul_comm (16 ^ m) 16, ← Nat.mul_assoc]; congr 1; omega
      have e2 : n * 16 ^ (m + 1) = (n * 16) * 16 ^ m := by rw [Nat.pow_succ, Nat.mul_comm (16 ^ m) 16, ← Nat.mul_assoc]
      have a1 : (n * 16 + d + 1) * 16 ^ m ≤ (n * 16 + 16) * 16 ^ m := Nat.mul_le_mul_right _ (by omega)
      have a2 : (n * 16) * 16 ^ m ≤ (n * 16 + d) * 16 ^ m := Nat.mul_le_mul_right _ (by omega)
      rw [e1, e2]
      omega
/-- The program's first number of an element is the reference's. -/
theorem unit_first (l : List UInt8) : unitD false 4 0 l = firstR l := by
  unfold firstR
  match l with
  | [] => simp [unitD, quadA]
  | [b] =>
    rcases hexP_none_or b with h | ⟨d, h, hd⟩
    · rw [unitD_none h, quadA_none h]
    · rw [unitD_some h, quadA_some h, if_pos (poss_no.2 (by omega))]
      rw [unitD, quadA]
  | b :: c :: r =>
    rcases hexP_none_or b with h | ⟨d, h, hd⟩
    · rw [unitD_none h, quadA_none h]
    · rw [unitD_some h, quadA_some h, if_pos (poss_no.2 (by omega))]
      rcases hexP_none_or c with k | ⟨e, k, he⟩
      · rw [unitD_none k, quadA_none k]
      · rw [unitD_some k, quadA_some k]
        simp only [h, k]
        by_cases hb : d = 13 ∧ 12 ≤ e
        · rw [if_neg (by rw [poss_no]; omega)]
          cases hq : quadA 2 ((0 * 16 + d) * 16 + e) r with
          | bad => rfl
          | trunc => simp only []; rw [if_pos hb]
          | ok x =>
            have := quadA_lo _ _ _ _ hq
            simp only []
            rw [if_pos (by omega)]
        · rw [if_pos (by rw [poss_no]; omega), unit_rest 2 _ r (by omega)]
          cases hq : quadA 2 ((0 * 16 + d) * 16 + e) r with
          | bad => rfl
          | trunc => simp only []; rw [if_neg hb]
          | ok x =>
            have := quadA_lo _ _ _ _ hq
            simp only []
            rw [if_neg (by omega)]
end Go.Proofs.YtmfjpcmbdgbjjaaGreatDoor
namespace Go.Proofs.YtmfjpcmbdgbjjaaGreatDoor
open Go.RowKit
/-- The encoding of a code point. -/
def enc (r : Nat) : List UInt8 :=
  if r < 128 then [UInt8.ofNat r]
  else if r < 2048 then [UInt8.ofNat (192 + r / 64), UInt8.ofNat (128 + r % 64)]
  else if r < 65536 then [UInt8.ofNat (224 + r / 4096), UInt8.ofNat (128 + r / 64 % 64), UInt8.ofNat (128 + r % 64)]
  else [UInt8.ofNat (240 + r / 262144), UInt8.ofNat (128 + r / 4096 % 64), UInt8.ofNat (128 + r / 64 % 64), UInt8.ofNat (128 + r % 64)]
def encs (xs : List Nat) : List UInt8 := xs.flatMap enc
theorem encs_nil : encs [] = [] := rfl
theorem encs_cons (r : Nat) (xs : List Nat) : encs (r :: xs) = enc r ++ encs xs := by simp [encs]
theorem encs_snoc (xs : List Nat) (r : Nat) : encs (xs ++ [r]) = encs xs ++ enc r := by simp [encs]
theorem enc_len (r : Nat) : 1 ≤ (enc r).length ∧ (enc r).length ≤ 4 := by unfold enc; (repeat' split) <;> simp
theorem toNat_ofNat {n : Nat} (h : n < 256) : (UInt8.ofNat n).toNat = n := by
  rw [UInt8.toNat_ofNat']; exact Nat.mod_eq_of_lt h
theorem tl_cons (n acc : Nat) (b : UInt8) (r : List UInt8) (h : 128 ≤ b.toNat ∧ b.toNat ≤ 191) : tl (n + 1) acc (b :: r) = tl n (acc * 64 + b.toNat % 64) r := by
  show (if _ then _ else _) = _
  rw [if_pos h]
theorem tl_zero (acc : Nat) (l : List UInt8) : tl 0 acc l = some acc := rfl
theorem fin_ok {n least r : Nat} (h1 : least ≤ r) (h2 : cp r = true) : fin n least (some r) = some (r, n + 1) := by
  unfold fin
  simp only []
  rw [if_neg (by simp [h2]; omega)]
/-- What an encoding begins with is decoded to its code point. -/
theorem dec_enc {r : Nat} (h : cp r = true) (t : List UInt8) : dec (enc r ++ t) = some (r, (enc r).length) := by
  have hr := cp_range h
  unfold enc
  split
  · rename_i h1
    show dec (UInt8.ofNat r :: t) = _
    rw [dec_cons, if_pos (by rw [toNat_ofNat (by omega)]; omega), toNat_ofNat (by omega)]; rfl
  · split
    · show dec (UInt8.ofNat (192 + r / 64) :: UInt8.ofNat (128 + r % 64) :: t) = _
      have e0 : (UInt8.ofNat (192 + r / 64)).toNat = 192 + r / 64 := toNat_ofNat (by omega)
      have e1 : (UInt8.ofNat (128 + r % 64)).toNat = 128 + r % 64 := toNat_ofNat (by omega)
      rw [dec_cons, e0, if_neg (by omega), if_neg (by omega), if_pos (by omega), tl_cons _ _ _ _ (by rw [e1]; omega), tl_zero, e1,
        show (192 + r / 64) % 32 * 64 + (128 + r % 64) % 64 = r from by omega, fin_ok (by omega) h]; rfl
    · split
      · show dec (UInt8.ofNat (224 + r / 4096) :: UInt8.ofNat (128 + r / 64 % 64) :: UInt8.ofNat (128 + r % 64) :: t) = _
        have e0 : (UInt8.ofNat (224 + r / 4096)).toNat = 224 + r / 4096 := toNat_ofNat (by omega)
        have e1 : (UInt8.ofNat (128 + r / 64 % 64)).toNat = 128 + r / 64 % 64 := toNat_ofNat (by omega)
        have e2 : (UInt8.ofNat (128 + r % 64)).toNat = 128 + r % 64 := toNat_ofNat (by omega)
        rw [dec_cons, e0, if_neg (by omega), if_neg (by omega), if_neg (by omega), if_pos (by omega), tl_cons _ _ _ _ (by rw [e1]; omega), tl_cons _ _ _ _ (by rw [e2]; omega), tl_zero, e1, e2,
          show ((224 + r / 4096) % 16 * 64 + (128 + r / 64 % 64) % 64) * 64 + (128 + r % 64) % 64 = r from by omega, fin_ok (by omega) h]; rfl
      · show dec (UInt8.ofNat (240 + r / 262144) :: UInt8.ofNat (128 + r / 4096 % 64) :: UInt8.ofNat (128 + r / 64 % 64) :: UInt8.ofNat (128 + r % 64) :: t) = _
        have e0 : (UInt8.ofNat (240 + r / 262144)).toNat = 240 + r / 262144 := toNat_ofNat (by omega)
        have e1 : (UInt8.ofNat (128 + r / 4096 % 64)).toNat = 128 + r / 4096 % 64 := toNat_ofNat (by omega)
        have e2 : (UInt8.ofNat (128 + r / 64 % 64)).toNat = 128 + r / 64 % 64 := toNat_ofNat (by omega)
        have e3 : (UInt8.ofNat (128 + r % 64)).toNat = 128 + r % 64 := toNat_ofNat (by omega)
        rw [dec_cons, e0, if_neg (by omega), if_neg (by omega), if_neg (by omega), if_neg (by omega), if_pos (by omega), tl_cons _ _ _ _ (by rw [e1]; omega), tl_cons _ _ _ _ (by rw [e2]; omega),
          tl_cons _ _ _ _ (by rw [e3]; omega), tl_zero, e1, e2, e3,
          show (((240 + r / 262144) % 8 * 64 + (128 + r / 4096 % 64) % 64) * 64 + (128 + r / 64 % 64) % 64) * 64 + (128 + r % 64) % 64 = r from by omega, fin_ok (by omega) h]; rfl
theorem runes_encs {xs : List Nat} (h : ∀ r ∈ xs, cp (r : Int) = true) : runes (encs xs) = some xs := by
  induction xs with
  | nil => rfl
  | cons r xs ih =>
    rw [encs_cons, runes_some (dec_enc (h r (by simp)) _), List.drop_left, ih (fun q hq => h q (by simp [hq]))]; rfl
/-- What is decoded is the shortest encoding of what it is decoded to. -/
theorem enc_dec {l : List UInt8} {r n : Nat} (h : dec l = some (r, n)) : l.take n = enc r ∧ n = (enc r).length := by
  have tcs : ∀ (m acc v : Nat) (b : UInt8) (t : List UInt8), tl (m + 1) acc (b :: t) = some v → (128 ≤ b.toNat ∧ b.toNat ≤ 191) ∧ tl m (acc * 64 + b.toNat % 64) t = some v := by
    intro m acc v b t h
    have h' : (if 128 ≤ b.toNat ∧ b.toNat ≤ 191 then tl m (acc * 64 + b.toNat % 64) t else none) = some v := h
    split at h'
    · exact ⟨by assumption, h'⟩
    · cases h'
  have tnil : ∀ (m acc v : Nat), tl (m + 1) acc [] = some v → False := by intro m acc v h; cases h
  have fs : ∀ (m least : Nat) (o : Option Nat), fin m least o = some (r, n) → ∃ v, o = some v ∧ least ≤ v ∧ v = r ∧ n = m + 1 := by
    intro m least o h
    cases o with
    | none => cases h
    | some v =>
      unfold fin at h
      simp only [] at h
      split at h
      · cases h
      · rename_i hc
        injection h with h; injection h with h1 h2
        exact ⟨v, rfl, by omega, h1, h2.symm⟩
  have u8 : ∀ (b : UInt8) (m : Nat), b.toNat = m → b = UInt8.ofNat m := by
    intro b m h; rw [← h]; simp
  cases l with
  | nil => cases h
  | cons b t =>
    have hb := UInt8.toNat_lt b
    rw [dec_cons] at h
    split at h
    · injection h with h; injection h with h1 h2
      subst h1; subst h2
      unfold enc
      rw [if_pos (by omega)]
      simp
    · split at h
      · cases h
      · split at h
        · obtain ⟨v, hv, hl, rfl, rfl⟩ := fs _ _ _ h
          cases t with
          | nil => exact (tnil _ _ _ hv).elim
          | cons b1 t =>
            obtain ⟨g1, hv⟩ := tcs _ _ _ _ _ hv
            rw [tl_zero] at hv; injection hv with hv
            unfold enc
            rw [if_neg (by omega), if_pos (by omega)]
            refine ⟨?_, rfl⟩
            rw [← u8 b _ (by omega), ← u8 b1 _ (by omega)]; rfl
        · split at h
          · obtain ⟨v, hv, hl, rfl, rfl⟩ := fs _ _ _ h
            cases t with
            | nil => exact (tnil _ _ _ hv).elim
            | cons b1 t =>
              obtain ⟨g1, hv⟩ := tcs _ _ _ _ _ hv
              cases t with
              | nil => exact (tnil _ _ _ hv).elim
              | cons b2 t =>
                obtain ⟨g2, hv⟩ := tcs _ _ _ _ _ hv
                rw [tl_zero] at hv; injection hv with hv
                unfold enc
                rw [if_neg (by omega), if_neg (by omega), if_pos (by omega)]
                refine ⟨?_, rfl⟩
                rw [← u8 b _ (by omega), ← u8 b1 _ (by omega), ← u8 b2 _ (by omega)]; rfl
          · split at h
            · obtain ⟨v, hv, hl, rfl, rfl⟩ := fs _ _ _ h
              cases t with
              | nil => exact (tnil _ _ _ hv).elim
              | cons b1 t =>
                obtain ⟨g1, hv⟩ := tcs _ _ _ _ _ hv
                cases t with
                | nil => exact (tnil _ _ _ hv).elim
                | cons b2 t =>
                  obtain ⟨g2, hv⟩ := tcs _ _ _ _ _ hv
                  cases t with
                  | nil => exact (tnil _ _ _ hv).elim
                  | cons b3 t =>
                    obtain ⟨g3, hv⟩ := tcs _ _ _ _ _ hv
                    rw [tl_zero] at hv; injection hv with hv
                    unfold enc
                    rw [if_neg (by omega), if_neg (by omega), if_neg (by omega)]
                    refine ⟨?_, rfl⟩
                    rw [← u8 b _ (by omega), ← u8 b1 _ (by omega), ← u8 b2 _ (by omega), ← u8 b3 _ (by omega)]; rfl
            · cases h
theorem encs_runes : ∀ (m : Nat) (l : List UInt8), l.length ≤ m → ∀ xs, runes l = some xs → encs xs = l ∧ ∀ r ∈ xs, cp (r : Int) = true := by
  intro m
  induction m with
  | zero =>
    intro l hl xs h
    have : l = [] := List.eq_nil_of_length_eq_zero (by omega)
    subst this; rw [runes_nil] at h; injection h with h; subst h; exact ⟨rfl, by simp⟩
  | succ m ih =>
    intro l hl xs h
    cases l with
    | nil => rw [runes_nil] at h; injection h with h; subst h; exact ⟨rfl, by simp⟩
    | cons b t =>
      cases hd : dec (b :: t) with
      | none => rw [runes_none (by simp) hd] at h; cases h
      | some rn =>
        obtain ⟨r, n⟩ := rn
        obtain ⟨hc, h1, _, h4⟩ := dec_some_cp hd
        obtain ⟨e1, e2⟩ := enc_dec hd
        rw [runes_some hd] at h
        cases hr : runes ((b :: t).drop n) with
        | none => rw [hr] at h; cases h
        | some ys =>
          rw [hr] at h; injection h with h; subst h
          obtain ⟨i1, i2⟩ := ih _ (by rw [List.length_drop]; omega) ys hr
          refine ⟨?_, ?_⟩
          · rw [encs_cons, i1, ← e1, List.take_append_drop]
          · intro q hq
            rcases List.mem_cons.1 hq with rfl | hq
            · exact hc
            · exact i2 q hq
end Go.Proofs.YtmfjpcmbdgbjjaaGreatDoor
