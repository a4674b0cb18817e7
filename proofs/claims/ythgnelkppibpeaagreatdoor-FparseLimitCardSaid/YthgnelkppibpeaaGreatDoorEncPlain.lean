/- Plain facts on the encoding of code points, and how it fits their decoding. Nothing of the program is named here. -/
import Derived.Test.YthgnelkppibpeaaGreatDoorUtfPlain
set_option linter.unusedVariables false
set_option linter.unusedSimpArgs false
namespace Go.Proofs.YthgnelkppibpeaaGreatDoor
open Go.RowKit
/-- The encoding of a code point. -/
def enc (r : Nat) : List UInt8 :=
  if r < 128 then [UInt8.ofNat r]
  else if r < 2048 then [UInt8.ofNat (192 + r / 64), UInt8.ofNat (128 + r % 64)]
  else if r < 65536 then [UInt8.ofNat (224 + r / 4096), UInt8.ofNat (128 + r / 64 % 64), UInt8.ofNat (128 + r % 64)]
  else [UInt8.ofNat (240 + r / 262144), UInt8.ofNat (128 + r / 4096 % 64), UInt8.ofNat (128 + r / 64 % 64), UInt8.ofNat (128 + r % 64)]
def encs (xs : List Nat) : List UInt8 := xs.flatMap enc
theorem encs_nil : encs [] = [] := rfl
theorem encs_cons (r : Nat) (xs : List Nat) : encs (r :: xs) = enc r ++ encs xs := by simp [encs]
theorem encs_snoc (xs : List Nat) (r : Nat) : encs (xs ++ [r]) = encs xs ++ enc r := by simp [encs]
theorem encs_append (xs ys : List Nat) : encs (xs ++ ys) = encs xs ++ encs ys := by simp [encs]
theorem enc_len (r : Nat) : 1 ≤ (enc r).length ∧ (enc r).length ≤ 4 := by unfold enc; (repeat' split) <;> simp
theorem encs_len (xs : List Nat) : xs.length ≤ (encs xs).length ∧ (encs xs).length ≤ 4 * xs.length := by
  induction xs with
  | nil => simp [encs]
  | cons r xs ih => rw [encs_cons]; have := enc_len r; simp; omega
theorem sz_enc {r : Nat} (h : cp r = true) : sz r = (enc r).length := by
  unfold sz enc
  rw [if_neg (by simp [h])]
  (repeat' split) <;> simp <;> omega
theorem toNat_ofNat {n : Nat} (h : n < 256) : (UInt8.ofNat n).toNat = n := by
  rw [UInt8.toNat_ofNat']; exact Nat.mod_eq_of_lt h
theorem tl_cons (n acc : Nat) (b : UInt8) (r : List UInt8) (h : 128 ≤ b.toNat ∧ b.toNat ≤ 191) : tl (n + 1) acc (b :: r) = tl n (acc * 64 + b.toNat % 64) r := by
  show (if _ then _ else _) = _
  rw [if_pos h]
theorem tl_zero (acc : Nat) (l : List UInt8) : tl 0 acc l = some acc := rfl
theorem fin_ok {n least r : Nat} (h1 : least ≤ r) (h2 : cp r = true) : fin n least (some r) = some (r, n + 1) := by
  unfold fin
  simp only []
  rw [if_neg (by simp [h2]; omega)]
/-- What an encoding begins with is decoded to its code point. -/
theorem dec_enc {r : Nat} (h : cp r = true) (t : List UInt8) : dec (enc r ++ t) = some (r, (enc r).length) := by
  have hr := cp_range h
  unfold enc
  split
  · rename_i h1
    show dec (UInt8.ofNat r :: t) = _
    rw [dec_cons, if_pos (by rw [toNat_ofNat (by omega)]; omega), toNat_ofNat (by omega)]; rfl
  · split
    · show dec (UInt8.ofNat (192 + r / 64) :: UInt8.ofNat (128 + r % 64) :: t) = _
      have e0 : (UInt8.ofNat (192 + r / 64)).toNat = 192 + r / 64 := toNat_ofNat (by omega)
      have e1 : (UInt8.ofNat (128 + r % 64)).toNat = 128 + r % 64 := toNat_ofNat (by omega)
      rw [dec_cons, e0, if_neg (by omega), if_neg (by omega), if_pos (by omega), tl_cons _ _ _ _ (by rw [e1]; omega), tl_zero, e1,
        show (192 + r / 64) % 32 * 64 + (128 + r % 64) % 64 = r from by omega, fin_ok (by omega) h]; rfl
    · split
      · show dec (UInt8.ofNat (224 + r / 4096) :: UInt8.ofNat (128 + r / 64 % 64) :: UInt8.ofNat (128 + r % 64) :: t) = _
        have e0 : (UInt8.ofNat (224 + r / 4096)).toNat = 224 + r / 4096 := toNat_ofNat (by omega)
        have e1 : (UInt8.ofNat (128 + r / 64 % 64)).toNat = 128 + r / 64 % 64 := toNat_ofNat (by omega)
        have e2 : (UInt8.ofNat (128 + r % 64)).toNat = 128 + r % 64 := toNat_ofNat (by omega)
        rw [dec_cons, e0, if_neg (by omega), if_neg (by omega), if_neg (by omega), if_pos (by omega), tl_cons _ _ _ _ (by rw [e1]; omega), tl_cons _ _ _ _ (by rw [e2]; omega), tl_zero, e1, e2,
          show ((224 + r / 4096) % 16 * 64 + (128 + r / 64 % 64) % 64) * 64 + (128 + r % 64) % 64 = r from by omega, fin_ok (by omega) h]; rfl
      · show dec (UInt8.ofNat (240 + r / 262144) :: UInt8.ofNat (128 + r / 4096 % 64) :: UInt8.ofNat (128 + r / 64 % 64) :: UInt8.ofNat (128 + r % 64) :: t) = _
        have e0 : (UInt8.ofNat (240 + r / 262144)).toNat = 240 + r / 262144 := toNat_ofNat (by omega)
        have e1 : (UInt8.ofNat (128 + r / 4096 % 64)).toNat = 128 + r / 4096 % 64 := toNat_ofNat (by omega)
        have e2 : (UInt8.ofNat (128 + r / 64 % 64)).toNat = 128 + r / 64 % 64 := toNat_ofNat (by omega)
        have e3 : (UInt8.ofNat (128 + r % 64)).toNat = 128 + r % 64 := toNat_ofNat (by omega)
        rw [dec_cons, e0, if_neg (by omega), if_neg (by omega), if_neg (by omega), if_neg (by omega), if_pos (by omega), tl_cons _ _ _ _ (by rw [e1]; omega), tl_cons _ _ _ _ (by rw [e2]; omega),
          tl_cons _ _ _ _ (by rw [e3]; omega), tl_zero, e1, e2, e3,
          show (((240 + r / 262144) % 8 * 64 + (128 + r / 4096 % 64) % 64) * 64 + (128 + r / 64 % 64) % 64) * 64 + (128 + r % 64) % 64 = r from by omega, fin_ok (by omega) h]; rfl
theorem runes_encs {xs : List Nat} (h : ∀ r ∈ xs, cp (r : Int) = true) : runes (encs xs) = some xs := by
  induction xs with
  | nil => rfl
  | cons r xs ih =>
    rw [encs_cons, runes_some (dec_enc (h r (by simp)) _), List.drop_left, ih (fun q hq => h q (by simp [hq]))]; rfl
/-- What is decoded is the shortest encoding of what it is decoded to. -/
theorem enc_dec {l : List UInt8} {r n : Nat} (h : dec l = some (r, n)) : l.take n = enc r ∧ n = (enc r).length := by
  have tcs : ∀ (m acc v : Nat) (b : UInt8) (t : List UInt8), tl (m + 1) acc (b :: t) = some v → (128 ≤ b.toNat ∧ b.toNat ≤ 191) ∧ tl m (acc * 64 + b.toNat % 64) t = some v := by
    intro m acc v b t h
    have h' : (if 128 ≤ b.toNat ∧ b.toNat ≤ 191 then tl m (acc * 64 + b.toNat % 64) t else none) = some v := h
    split at h'
    · exact ⟨by assumption, h'⟩
    · cases h'
  have tnil : ∀ (m acc v : Nat), tl (m + 1) acc [] = some v → False := by intro m acc v h; cases h
  have fs : ∀ (m least : Nat) (o : Option Nat), fin m least o = some (r, n) → ∃ v, o = some v ∧ least ≤ v ∧ v = r ∧ n = m + 1 := by
    intro m least o h
    cases o with
    | none => cases h
    | some v =>
      unfold fin at h
      simp only [] at h
      split at h
      · cases h
      · rename_i hc
        injection h with h; injection h with h1 h2
        exact ⟨v, rfl, by omega, h1, h2.symm⟩
  have u8 : ∀ (b : UInt8) (m : Nat), b.toNat = m → b = UInt8.ofNat m := by
    intro b m h; rw [← h]; simp
  cases l with
  | nil => cases h
  | cons b t =>
    have hb := UInt8.toNat_lt b
    rw [dec_cons] at h
    split at h
    · injection h with h; injection h with h1 h2
      subst h1; subst h2
      unfold enc
      rw [if_pos (by omega)]
      simp
    · split at h
      · cases h
      · split at h
        · obtain ⟨v, hv, hl, rfl, rfl⟩ := fs _ _ _ h
          cases t with
          | nil => exact (tnil _ _ _ hv).elim
          | cons b1 t =>
            obtain ⟨g1, hv⟩ := tcs _ _ _ _ _ hv
            rw [tl_zero] at hv; injection hv with hv
            unfold enc
            rw [if_neg (by omega), if_pos (by omega)]
            refine ⟨?_, rfl⟩
            rw [← u8 b _ (by omega), ← u8 b1 _ (by omega)]; rfl
        · split at h
          · obtain ⟨v, hv, hl, rfl, rfl⟩ := fs _ _ _ h
            cases t with
            | nil => exact (tnil _ _ _ hv).elim
            | cons b1 t =>
              obtain ⟨g1, hv⟩ := tcs _ _ _ _ _ hv
              cases t with
              | nil => exact (tnil _ _ _ hv).elim
              | cons b2 t =>
                obtain ⟨g2, hv⟩ := tcs _ _ _ _ _ hv
                rw [tl_zero] at hv; injection hv with hv
                unfold enc
                rw [if_neg (by omega), if_neg (by omega), if_pos (by omega)]
                refine ⟨?_, rfl⟩
                rw [← u8 b _ (by omega), ← u8 b1 _ (by omega), ← u8 b2 _ (by omega)]; rfl
          · split at h
            · obtain ⟨v, hv, hl, rfl, rfl⟩ := fs _ _ _ h
              cases t with
              | nil => exact (tnil _ _ _ hv).elim
              | cons b1 t =>
                obtain ⟨g1, hv⟩ := tcs _ _ _ _ _ hv
                cases t with
                | nil => exact (tnil _ _ _ hv).elim
                | cons b2 t =>
                  obtain ⟨g2, hv⟩ := tcs _ _ _ _ _ hv
                  cases t with
                  | nil => exact (tnil _ _ _ hv).elim
                  | cons b3 t =>
                    obtain ⟨g3, hv⟩ := tcs _ _ _ _ _ hv
                    rw [tl_zero] at hv; injection hv with hv
                    unfold enc
                    rw [if_neg (by omega), if_neg (by omega), if_neg (by omega)]
                    refine ⟨?_, rfl⟩
                    rw [← u8 b _ (by omega), ← u8 b1 _ (by omega), ← u8 b2 _ (by omega), ← u8 b3 _ (by omega)]; rfl
            · cases h
theorem encs_runes : ∀ (m : Nat) (l : List UInt8), l.length ≤ m → ∀ xs, runes l = some xs → encs xs = l ∧ ∀ r ∈ xs, cp (r : Int) = true := by
  intro m
  induction m with
  | zero =>
    intro l hl xs h
    have : l = [] := List.eq_nil_of_length_eq_zero (by omega)
    subst this; rw [runes_nil] at h; injection h with h; subst h; exact ⟨rfl, by simp⟩
  | succ m ih =>
    intro l hl xs h
    cases l with
    | nil => rw [runes_nil] at h; injection h with h; subst h; exact ⟨rfl, by simp⟩
    | cons b t =>
      cases hd : dec (b :: t) with
      | none => rw [runes_none (by simp) hd] at h; cases h
      | some rn =>
        obtain ⟨r, n⟩ := rn
        obtain ⟨hc, h1, _, h4⟩ := dec_some_cp hd
        obtain ⟨e1, e2⟩ := enc_dec hd
        rw [runes_some hd] at h
        cases hr : runes ((b :: t).drop n) with
        | none => rw [hr] at h; cases h
        | some ys =>
          rw [hr] at h; injection h with h; subst h
          obtain ⟨i1, i2⟩ := ih _ (by rw [List.length_drop]; omega) ys hr
          refine ⟨?_, ?_⟩
          · rw [encs_cons, i1, ← e1, List.take_append_drop]
          · intro q hq
            rcases List.mem_cons.1 hq with rfl | hq
            · exact hc
            · exact i2 q hq
/-- No proper beginning of an encoding is decoded. -/
theorem dec_short {l : List UInt8} {r n i : Nat} (h : dec l = some (r, n)) (hi : i < n) : dec (l.take i) = none := by
  cases hd : dec (l.take i) with
  | none => rfl
  | some rn =>
    exfalso
    obtain ⟨r', n'⟩ := rn
    obtain ⟨hc, _, _, hl⟩ := dec_some_cp hd
    obtain ⟨e1, e2⟩ := enc_dec hd
    have hle : n' ≤ i := by rw [List.length_take] at hl; omega
    rw [List.take_take, Nat.min_eq_left hle] at e1
    have e3 : dec l = some (r', n') := by
      have h2 := dec_enc hc (l.drop n')
      rw [← e1, List.take_append_drop, e1, ← e2] at h2
      exact h2
    rw [h] at e3
    injection e3 with e3; injection e3 with _ e4
    omega
theorem dec_cont {b : UInt8} {t : List UInt8} (h1 : 128 ≤ b.toNat) (h2 : b.toNat < 192) : dec (b :: t) = none := by
  rw [dec_cons, if_neg (by omega), if_pos h2]
/-- No end of an encoding is decoded. -/
theorem dec_tail {r i : Nat} (_hr : r ≤ 1114111) (h1 : 1 ≤ i) (hi : i < (enc r).length) : dec ((enc r).drop i) = none := by
  have hc : ∀ (m : Nat) (t : List UInt8), m < 64 → dec (UInt8.ofNat (128 + m) :: t) = none := fun m t hm =>
    dec_cont (by rw [toNat_ofNat (by omega)]; omega) (by rw [toNat_ofNat (by omega)]; omega)
  unfold enc at hi ⊢
  split
  · rename_i h; rw [if_pos h] at hi; simp at hi; omega
  · rename_i h; rw [if_neg h] at hi
    split
    · rename_i h; rw [if_pos h] at hi
      obtain rfl : i = 1 := by simp at hi; omega
      exact hc _ _ (by omega)
    · rename_i h; rw [if_neg h] at hi
      split
      · rename_i h; rw [if_pos h] at hi
        have : i = 1 ∨ i = 2 := by simp at hi; omega
        rcases this with rfl | rfl
        · exact hc _ _ (by omega)
        · exact hc _ _ (by omega)
      · rename_i h; rw [if_neg h] at hi
        have : i = 1 ∨ i = 2 ∨ i = 3 := by simp at hi; omega
        rcases this with rfl | rfl | rfl
        · exact hc _ _ (by omega)
        · exact hc _ _ (by omega)
        · exact hc _ _ (by omega)
theorem mod_fix (x n : Int) (hn : 0 < n) : (if x.tmod n < 0 then x.tmod n + n else x.tmod n) = x % n := by
  rw [Int.tmod_eq_emod]
  have h1 := Int.emod_nonneg x (show n ≠ 0 by omega)
  have h2 := Int.emod_lt_of_pos x hn
  by_cases hd : 0 ≤ x ∨ n ∣ x
  · rw [if_pos hd, show ((0 : Nat) : Int) = 0 from rfl, Int.sub_zero, if_neg (by omega)]
  · rw [if_neg hd, show (n.natAbs : Int) = n from by omega]
    split
    · omega
    · omega
end Go.Proofs.YthgnelkppibpeaaGreatDoor
