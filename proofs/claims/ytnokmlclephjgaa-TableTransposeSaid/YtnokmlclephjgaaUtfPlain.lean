/- Plain facts for the layer utf: the decoding of UTF-8 as functions on lists of bytes; bit operations on int. Nothing of the program is named here. -/
import Derived.WalkKit
import Derived.Laws.BitsAllLaws
import Derived.Laws.BitsLemmas
set_option linter.unusedVariables false
set_option linter.unusedSimpArgs false
namespace Go.Proofs.Ytnokmlclephjgaa
open Go.RowKit
theorem toNat_i64 {a : Nat} (h : a < 9223372036854775808) : (BitVec.ofInt 64 (a : Int)).toNat = a := by
  rw [BitVec.ofInt_natCast, BitVec.toNat_ofNat, Nat.mod_eq_of_lt (by omega)]
theorem and_i64 (a b : Nat) (ha : a < 9223372036854775808) (hb : b < 9223372036854775808) : bits .and .i64 (a : Int) (b : Int) = ((a &&& b : Nat) : Int) := by
  have hle : a &&& b ≤ a := Nat.and_le_left
  have h : bits .and .i64 (a : Int) (b : Int) = IntKind.i64.wrap ((BitVec.ofInt 64 (a : Int) &&& BitVec.ofInt 64 (b : Int)).toNat : Int) := rfl
  rw [h, BitVec.toNat_and, toNat_i64 ha, toNat_i64 hb, IntKind.wrap_i64]; omega
theorem or_i64 (a b : Nat) (ha : a < 9223372036854775808) (hb : b < 9223372036854775808) : bits .or .i64 (a : Int) (b : Int) = ((a ||| b : Nat) : Int) := by
  have hlt : a ||| b < 2 ^ 63 := Nat.or_lt_two_pow (by omega) (by omega)
  have h : bits .or .i64 (a : Int) (b : Int) = IntKind.i64.wrap ((BitVec.ofInt 64 (a : Int) ||| BitVec.ofInt 64 (b : Int)).toNat : Int) := rfl
  rw [h, BitVec.toNat_or, toNat_i64 ha, toNat_i64 hb, IntKind.wrap_i64]; omega
theorem and31 (a : Nat) (ha : a < 4294967296) : bits .and .i64 (a : Int) 31 = ((a % 32 : Nat) : Int) := by
  have h := and_i64 a 31 (by omega) (by omega)
  rw [nat_mask5] at h; exact h
theorem and15 (a : Nat) (ha : a < 4294967296) : bits .and .i64 (a : Int) 15 = ((a % 16 : Nat) : Int) := by
  have h := and_i64 a 15 (by omega) (by omega)
  rw [nat_mask4] at h; exact h
theorem and7 (a : Nat) (ha : a < 4294967296) : bits .and .i64 (a : Int) 7 = ((a % 8 : Nat) : Int) := by
  have h := and_i64 a 7 (by omega) (by omega)
  rw [nat_mask3] at h; exact h
theorem or_low (k a c : Nat) (hc : c < 2 ^ k) : 2 ^ k * a ||| c = 2 ^ k * a + c := (Nat.two_pow_add_eq_or_of_lt hc a).symm
theorem or64 (a c : Nat) (ha : a < 4294967296) (hc : c < 64) : bits .or .i64 ((a * 64 : Nat) : Int) (c : Int) = ((a * 64 + c : Nat) : Int) := by
  rw [or_i64 _ _ (by omega) (by omega)]
  have h := or_low 6 a c (by omega)
  rw [show a * 64 = 2 ^ 6 * a from by omega, h]
/-- Is a number a code point? -/
def cp (r : Int) : Bool := decide (0 ≤ r ∧ r ≤ 1114111 ∧ ¬ (55296 ≤ r ∧ r ≤ 57343))
/-- The bits of n bytes behind a first one. -/
def tl : Nat → Nat → List UInt8 → Option Nat
  | 0, acc, _ => some acc
  | _ + 1, _, [] => none
  | n + 1, acc, b :: r => if 128 ≤ b.toNat ∧ b.toNat ≤ 191 then tl n (acc * 64 + b.toNat % 64) r else none
def fin (n least : Nat) : Option Nat → Option (Nat × Nat)
  | none => none
  | some r => if r < least ∨ cp r = false then none else some (r, n + 1)
/-- The code point at the head of a list of bytes, and the length of its encoding. -/
def dec : List UInt8 → Option (Nat × Nat)
  | [] => none
  | b :: r =>
    if b.toNat < 128 then some (b.toNat, 1)
    else if b.toNat < 192 then none
    else if b.toNat < 224 then fin 1 128 (tl 1 (b.toNat % 32) r)
    else if b.toNat < 240 then fin 2 2048 (tl 2 (b.toNat % 16) r)
    else if b.toNat < 248 then fin 3 65536 (tl 3 (b.toNat % 8) r)
    else none
theorem dec_cons (b : UInt8) (r : List UInt8) : dec (b :: r) = if b.toNat < 128 then some (b.toNat, 1)
    else if b.toNat < 192 then none
    else if b.toNat < 224 then fin 1 128 (tl 1 (b.toNat % 32) r)
    else if b.toNat < 240 then fin 2 2048 (tl 2 (b.toNat % 16) r)
    else if b.toNat < 248 then fin 3 65536 (tl 3 (b.toNat % 8) r)
    else none := rfl
def decV : Option (Nat × Nat) → Value
  | none => .tuple #[.int .i64 0, .int .i64 0, .bool false]
  | some (r, n) => .tuple #[.int .i64 r, .int .i64 n, .bool true]
theorem tl_short (n acc : Nat) (l : List UInt8) (h : l.length < n) : tl n acc l = none := by
  induction n generalizing acc l with
  | zero => omega
  | succ n ih =>
    cases l with
    | nil => rfl
    | cons b r => unfold tl; split
                  · exact ih _ _ (by simp at h; omega)
                  · rfl
theorem tl_step (n acc : Nat) (l : List UInt8) (k : Nat) (hk : k < l.length) :
    tl (n + 1) acc (l.drop k) = if 128 ≤ l[k].toNat ∧ l[k].toNat ≤ 191 then tl n (acc * 64 + l[k].toNat % 64) (l.drop (k + 1)) else none := by
  rw [List.drop_eq_getElem_cons hk]; rfl
theorem dec_some_cp {l : List UInt8} {r n : Nat} (h : dec l = some (r, n)) : cp r = true ∧ 1 ≤ n ∧ n ≤ 4 ∧ n ≤ l.length := by
  have ft : ∀ (m least acc : Nat) (t : List UInt8), fin m least (tl m acc t) = some (r, n) → cp r = true ∧ n = m + 1 ∧ m ≤ t.length := by
    intro m least acc t h
    rcases Nat.lt_or_ge t.length m with hlt | hge
    · rw [tl_short m acc t hlt] at h; simp [fin] at h
    · cases hx : tl m acc t with
      | none => rw [hx] at h; simp [fin] at h
      | some v =>
        rw [hx] at h; unfold fin at h; simp only at h
        split at h
        · simp at h
        · rename_i hc
          injection h with h; injection h with h1 h2
          subst h1; subst h2
          refine ⟨?_, rfl, hge⟩
          cases hcp : cp v with
          | true => rfl
          | false => exact absurd (.inr hcp) hc
  cases l with
  | nil => simp [dec] at h
  | cons b t =>
    rw [dec_cons] at h
    split at h
    · injection h with h; injection h with h1 h2
      subst h1; subst h2
      refine ⟨?_, by omega, by omega, by simp⟩
      unfold cp; simp; omega
    · split at h
      · simp at h
      · split at h
        · obtain ⟨x, y, z⟩ := ft _ _ _ _ h; exact ⟨x, by omega, by omega, by simp; omega⟩
        · split at h
          · obtain ⟨x, y, z⟩ := ft _ _ _ _ h; exact ⟨x, by omega, by omega, by simp; omega⟩
          · split at h
            · obtain ⟨x, y, z⟩ := ft _ _ _ _ h; exact ⟨x, by omega, by omega, by simp; omega⟩
            · simp at h
/-- The number of bytes of an encoding. -/
def sz (r : Int) : Nat := if cp r = false then 0 else if r < 128 then 1 else if r < 2048 then 2 else if r < 65536 then 3 else 4
/-- All code points of a list of bytes. -/
def runesF : Nat → List UInt8 → Option (List Nat)
  | _, [] => some []
  | 0, _ :: _ => none
  | f + 1, b :: t => match dec (b :: t) with
    | none => none
    | some (r, n) => (runesF f ((b :: t).drop n)).map (r :: ·)
def runes (l : List UInt8) : Option (List Nat) := runesF l.length l
theorem runesF_enough (f g : Nat) (l : List UInt8) (hf : l.length ≤ f) (hg : l.length ≤ g) : runesF f l = runesF g l := by
  induction f generalizing g l with
  | zero =>
    cases l with
    | nil => unfold runesF; rfl
    | cons b t => simp at hf
  | succ f ih =>
    cases l with
    | nil => cases g <;> rfl
    | cons b t =>
      cases g with
      | zero => simp at hg
      | succ g =>
        unfold runesF
        cases h : dec (b :: t) with
        | none => rfl
        | some rn =>
          obtain ⟨r, n⟩ := rn
          have hn := (dec_some_cp h).2.1
          simp only []
          rw [ih g _ (by simp at hf ⊢; omega) (by simp at hg ⊢; omega)]
theorem runes_nil : runes [] = some [] := rfl
theorem runes_none {l : List UInt8} (hl : l ≠ []) (h : dec l = none) : runes l = none := by
  cases l with
  | nil => exact absurd rfl hl
  | cons b t => unfold runes runesF; simp only [List.length_cons]; rw [h]
theorem runes_some {l : List UInt8} {r n : Nat} (h : dec l = some (r, n)) : runes l = (runes (l.drop n)).map (r :: ·) := by
  have hn := (dec_some_cp h).2.1
  cases l with
  | nil => simp [dec] at h
  | cons b t =>
    show runesF (t.length + 1) (b :: t) = _
    unfold runesF
    rw [h]
    simp only []
    unfold runes
    rw [runesF_enough t.length ((b :: t).drop n).length _ (by simp; omega) (Nat.le_refl _)]
/-- What a scan of the whole list knows when it stands at offset k and has read xs. -/
def Scan (l : List UInt8) (k : Nat) (xs : List Nat) : Prop := k ≤ l.length ∧ xs.length ≤ k ∧ runes l = (runes (l.drop k)).map (xs ++ ·)
theorem Scan.start (l : List UInt8) : Scan l 0 [] := ⟨Nat.zero_le _, Nat.le_refl _, by simp⟩
theorem Scan.step {l : List UInt8} {k : Nat} {xs : List Nat} (h : Scan l k xs) {r n : Nat} (hd : dec (l.drop k) = some (r, n)) : Scan l (k + n) (xs ++ [r]) := by
  obtain ⟨_, hn, _, hl⟩ := dec_some_cp hd
  refine ⟨by rw [List.length_drop] at hl; have := h.1; omega, by have := h.2.1; simp; omega, ?_⟩
  rw [h.2.2, runes_some hd, List.drop_drop, Option.map_map]
  congr 1; funext x; simp
theorem Scan.fail {l : List UInt8} {k : Nat} {xs : List Nat} (h : Scan l k xs) (hk : k < l.length) (hd : dec (l.drop k) = none) : runes l = none := by
  rw [h.2.2, runes_none (by simp; omega) hd]; rfl
theorem Scan.done {l : List UInt8} {k : Nat} {xs : List Nat} (h : Scan l k xs) (hk : ¬ k < l.length) : runes l = some xs := by
  rw [h.2.2, List.drop_eq_nil_of_le (by omega), runes_nil]; simp
end Go.Proofs.Ytnokmlclephjgaa
