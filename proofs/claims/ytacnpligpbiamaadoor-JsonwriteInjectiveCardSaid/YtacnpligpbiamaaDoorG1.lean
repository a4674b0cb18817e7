/- Plain facts for the layer utf: the decoding of UTF-8 as functions on lists of bytes; bit operations on int. Nothing of the program is named here. Escapes of JSON strings as functions on lists of bytes: the reference's reading and the program's, and that both are the same. Nothing of the program is named here. Plain facts on the encoding of code points, and how it fits their decoding. Nothing of the program is named here. What the first token of a JSON text is, as functions on lists of bytes. Nothing of the program is named here. The quoted text of a string: what the first token of it and of its beginnings is. Nothing of the program is named here. Numbers of JSON texts: what ParseInt makes of their digits, and what a loop over them knows. Nothing of the program is named here. The decimal text of a number, and what the first token of it is: plain. Nothing of the program is named here. The length of a decimal text: plain. -/
import Derived.WalkKit
import Derived.Laws.BitsAllLaws
import Derived.Laws.BitsLemmas
import Derived.Lib.ParseIntBTie
import Derived.Lib.AtoiAllCases
set_option linter.unusedVariables false
set_option linter.unusedSimpArgs false
namespace Go.Proofs.YtacnpligpbiamaaDoor
open Go.RowKit
theorem toNat_i64 {a : Nat} (h : a < 9223372036854775808) : (BitVec.ofInt 64 (a : Int)).toNat = a := by
  rw [BitVec.ofInt_natCast, BitVec.toNat_ofNat, Nat.mod_eq_of_lt (by omega)]
theorem and_i64 (a b : Nat) (ha : a < 9223372036854775808) (hb : b < 9223372036854775808) : bits .and .i64 (a : Int) (b : Int) = ((a &&& b : Nat) : Int) := by
  have hle : a &&& b ≤ a := Nat.and_le_left
  have h : bits .and .i64 (a : Int) (b : Int) = IntKind.i64.wrap ((BitVec.ofInt 64 (a : Int) &&& BitVec.ofInt 64 (b : Int)).toNat : Int) := rfl
  rw [h, BitVec.toNat_and, toNat_i64 ha, toNat_i64 hb, IntKind.wrap_i64]; omega
theorem or_i64 (a b : Nat) (ha : a < 9223372036854775808) (hb : b < 9223372036854775808) : bits .or .i64 (a : Int) (b : Int) = ((a ||| b : Nat) : Int) := by
  have hlt : a ||| b < 2 ^ 63 := Nat.or_lt_two_pow (by omega) (by omega)
  have h : bits .or .i64 (a : Int) (b : Int) = IntKind.i64.wrap ((BitVec.ofInt 64 (a : Int) ||| BitVec.ofInt 64 (b : Int)).toNat : Int) := rfl
  rw [h, BitVec.toNat_or, toNat_i64 ha, toNat_i64 hb, IntKind.wrap_i64]; omega
theorem and63 (a : Nat) (ha : a < 4294967296) : bits .and .i64 (a : Int) 63 = ((a % 64 : Nat) : Int) := by
  have h := and_i64 a 63 (by omega) (by omega)
  rw [nat_mask6] at h; exact h
theorem and31 (a : Nat) (ha : a < 4294967296) : bits .and .i64 (a : Int) 31 = ((a % 32 : Nat) : Int) := by
  have h := and_i64 a 31 (by omega) (by omega)
  rw [nat_mask5] at h; exact h
theorem and15 (a : Nat) (ha : a < 4294967296) : bits .and .i64 (a : Int) 15 = ((a % 16 : Nat) : Int) := by
  have h := and_i64 a 15 (by omega) (by omega)
  rw [nat_mask4] at h; exact h
theorem and7 (a : Nat) (ha : a < 4294967296) : bits .and .i64 (a : Int) 7 = ((a % 8 : Nat) : Int) := by
  have h := and_i64 a 7 (by omega) (by omega)
  rw [nat_mask3] at h; exact h
theorem or_low (k a c : Nat) (hc : c < 2 ^ k) : 2 ^ k * a ||| c = 2 ^ k * a + c := (Nat.two_pow_add_eq_or_of_lt hc a).symm
theorem or64 (a c : Nat) (ha : a < 4294967296) (hc : c < 64) : bits .or .i64 ((a * 64 : Nat) : Int) (c : Int) = ((a * 64 + c : Nat) : Int) := by
  rw [or_i64 _ _ (by omega) (by omega)]
  have h := or_low 6 a c (by omega)
  rw [show a * 64 = 2 ^ 6 * a from by omega, h]
/-- Is a number a code point? -/
def cp (r : Int) : Bool := decide (0 ≤ r ∧ r ≤ 1114111 ∧ ¬ (55296 ≤ r ∧ r ≤ 57343))
/-- The bits of n bytes behind a first one. -/
def tl : Nat → Nat → List UInt8 → Option Nat
  | 0, acc, _ => some acc
  | _ + 1, _, [] => none
  | n + 1, acc, b :: r => if 128 ≤ b.toNat ∧ b.toNat ≤ 191 then tl n (acc * 64 + b.toNat % 64) r else none
def fin (n least : Nat) : Option Nat → Option (Nat × Nat)
  | none => none
  | some r => if r < least ∨ cp r = false then none else some (r, n + 1)
/-- The code point at the head of a list of bytes, and the length of its encoding. -/
def dec : List UInt8 → Option (Nat × Nat)
  | [] => none
  | b :: r =>
    if b.toNat < 128 then some (b.toNat, 1)
    else if b.toNat < 192 then none
    else if b.toNat < 224 then fin 1 128 (tl 1 (b.toNat % 32) r)
    else if b.toNat < 240 then fin 2 2048 (tl 2 (b.toNat % 16) r)
    else if b.toNat < 248 then fin 3 65536 (tl 3 (b.toNat % 8) r)
    else none
theorem dec_cons (b : UInt8) (r : List UInt8) : dec (b :: r) = if b.toNat < 128 then some (b.toNat, 1)
    else if b.toNat < 192 then none
    else if b.toNat < 224 then fin 1 128 (tl 1 (b.toNat % 32) r)
    else if b.toNat < 240 then fin 2 2048 (tl 2 (b.toNat % 16) r)
    else if b.toNat < 248 then fin 3 65536 (tl 3 (b.toNat % 8) r)
    else none := rfl
def decV : Option (Nat × Nat) → Value
  | none => .tuple #[.int .i64 0, .int .i64 0, .bool false]
  | some (r, n) => .tuple #[.int .i64 r, .int .i64 n, .bool true]
theorem tl_short (n acc : Nat) (l : List UInt8) (h : l.length < n) : tl n acc l = none := by
  induction n generalizing acc l with
  | zero => omega
  | succ n ih =>
    cases l with
    | nil => rfl
    | cons b r => unfold tl; split
                  · exact ih _ _ (by simp at h; omega)
                  · rfl
theorem tl_step (n acc : Nat) (l : List UInt8) (k : Nat) (hk : k < l.length) :
    tl (n + 1) acc (l.drop k) = if 128 ≤ l[k].toNat ∧ l[k].toNat ≤ 191 then tl n (acc * 64 + l[k].toNat % 64) (l.drop (k + 1)) else none := by
  rw [List.drop_eq_getElem_cons hk]; rfl
theorem tl_bound (n acc : Nat) (l : List UInt8) (r : Nat) (h : tl n acc l = some r) : r < (acc + 1) * 64 ^ n := by
  induction n generalizing acc l with
  | zero => simp [tl] at h; omega
  | succ n ih =>
    cases l with
    | nil => simp [tl] at h
    | cons b t =>
      unfold tl at h
      split at h
      · have := ih _ _ h
        have hb : b.toNat % 64 < 64 := by omega
        have h1 : (acc * 64 + b.toNat % 64 + 1) * 64 ^ n ≤ ((acc + 1) * 64) * 64 ^ n := Nat.mul_le_mul_right _ (by omega)
        rw [Nat.pow_succ, Nat.mul_comm (64 ^ n) 64, ← Nat.mul_assoc]; omega
      · simp at h
theorem dec_some_cp {l : List UInt8} {r n : Nat} (h : dec l = some (r, n)) : cp r = true ∧ 1 ≤ n ∧ n ≤ 4 ∧ n ≤ l.length := by
  have ft : ∀ (m least acc : Nat) (t : List UInt8), fin m least (tl m acc t) = some (r, n) → cp r = true ∧ n = m + 1 ∧ m ≤ t.length := by
    intro m least acc t h
    rcases Nat.lt_or_ge t.length m with hlt | hge
    · rw [tl_short m acc t hlt] at h; simp [fin] at h
    · cases hx : tl m acc t with
      | none => rw [hx] at h; simp [fin] at h
      | some v =>
        rw [hx] at h; unfold fin at h; simp only at h
        split at h
        · simp at h
        · rename_i hc
          injection h with h; injection h with h1 h2
          subst h1; subst h2
          refine ⟨?_, rfl, hge⟩
          cases hcp : cp v with
          | true => rfl
          | false => exact absurd (.inr hcp) hc
  cases l with
  | nil => simp [dec] at h
  | cons b t =>
    rw [dec_cons] at h
    split at h
    · injection h with h; injection h with h1 h2
      subst h1; subst h2
      refine ⟨?_, by omega, by omega, by simp⟩
      unfold cp; simp; omega
    · split at h
      · simp at h
      · split at h
        · obtain ⟨x, y, z⟩ := ft _ _ _ _ h; exact ⟨x, by omega, by omega, by simp; omega⟩
        · split at h
          · obtain ⟨x, y, z⟩ := ft _ _ _ _ h; exact ⟨x, by omega, by omega, by simp; omega⟩
          · split at h
            · obtain ⟨x, y, z⟩ := ft _ _ _ _ h; exact ⟨x, by omega, by omega, by simp; omega⟩
            · simp at h
/-- The number of bytes of an encoding. -/
def sz (r : Int) : Nat := if cp r = false then 0 else if r < 128 then 1 else if r < 2048 then 2 else if r < 65536 then 3 else 4
def lst (n : Nat) : Nat := if n = 2 then 128 else if n = 3 then 2048 else 65536
def top (n : Nat) : Nat := if n = 2 then 32 else if n = 3 then 16 else 8
theorem top_le (n : Nat) : top n ≤ 32 := by unfold top; (repeat' split) <;> omega
theorem fin_size (n r0 acc : Nat) (l : List UInt8) (h2 : 2 ≤ n) (h4 : n ≤ 4) (hr : r0 < top n) (h : tl (n - 1) r0 l = some acc) :
    fin (n - 1) (lst n) (some acc) = if sz acc = n then some (acc, n) else none := by
  have hb := tl_bound _ _ _ _ h
  have hcase : n = 2 ∨ n = 3 ∨ n = 4 := by omega
  unfold fin
  simp only []
  rcases hcase with rfl | rfl | rfl
  all_goals
    simp only [top, lst] at hr hb ⊢
    simp at hr hb
    cases hc : cp acc
    · unfold sz
      simp [hc]
    · have hcr : (acc : Int) ≤ 1114111 := by unfold cp at hc; simp at hc; omega
      unfold sz
      simp only [hc, or_false, Bool.true_eq_false, if_false]
      simp
      (repeat' split) <;> first | rfl | omega
/-- All code points of a list of bytes. -/
def runesF : Nat → List UInt8 → Option (List Nat)
  | _, [] => some []
  | 0, _ :: _ => none
  | f + 1, b :: t => match dec (b :: t) with
    | none => none
    | some (r, n) => (runesF f ((b :: t).drop n)).map (r :: ·)
def runes (l : List UInt8) : Option (List Nat) := runesF l.length l
theorem runesF_enough (f g : Nat) (l : List UInt8) (hf : l.length ≤ f) (hg : l.length ≤ g) : runesF f l = runesF g l := by
  induction f generalizing g l with
  | zero =>
    cases l with
    | nil => unfold runesF; rfl
    | cons b t => simp at hf
  | succ f ih =>
    cases l with
    | nil => cases g <;> rfl
    | cons b t =>
      cases g with
      | zero => simp at hg
      | succ g =>
        unfold runesF
        cases h : dec (b :: t) with
        | none => rfl
        | some rn =>
          obtain ⟨r, n⟩ := rn
          have hn := (dec_some_cp h).2.1
          simp only []
          rw [ih g _ (by simp at hf ⊢; omega) (by simp at hg ⊢; omega)]
theorem runes_nil : runes [] = some [] := rfl
theorem runes_none {l : List UInt8} (hl : l ≠ []) (h : dec l = none) : runes l = none := by
  cases l with
  | nil => exact absurd rfl hl
  | cons b t => unfold runes runesF; simp only [List.length_cons]; rw [h]
theorem runes_some {l : List UInt8} {r n : Nat} (h : dec l = some (r, n)) : runes l = (runes (l.drop n)).map (r :: ·) := by
  have hn := (dec_some_cp h).2.1
  cases l with
  | nil => simp [dec] at h
  | cons b t =>
    show runesF (t.length + 1) (b :: t) = _
    unfold runesF
    rw [h]
    simp only []
    unfold runes
    rw [runesF_enough t.length ((b :: t).drop n).length _ (by simp; omega) (Nat.le_refl _)]
/-- What a scan of the whole list knows when it stands at offset k and has read xs. -/
def Scan (l : List UInt8) (k : Nat) (xs : List Nat) : Prop := k ≤ l.length ∧ xs.length ≤ k ∧ runes l = (runes (l.drop k)).map (xs ++ ·)
theorem Scan.start (l : List UInt8) : Scan l 0 [] := ⟨Nat.zero_le _, Nat.le_refl _, by simp⟩
theorem Scan.step {l : List UInt8} {k : Nat} {xs : List Nat} (h : Scan l k xs) {r n : Nat} (hd : dec (l.drop k) = some (r, n)) : Scan l (k + n) (xs ++ [r]) := by
  obtain ⟨_, hn, _, hl⟩ := dec_some_cp hd
  refine ⟨by rw [List.length_drop] at hl; have := h.1; omega, by have := h.2.1; simp; omega, ?_⟩
  rw [h.2.2, runes_some hd, List.drop_drop, Option.map_map]
  congr 1; funext x; simp
theorem Scan.fail {l : List UInt8} {k : Nat} {xs : List Nat} (h : Scan l k xs) (hk : k < l.length) (hd : dec (l.drop k) = none) : runes l = none := by
  rw [h.2.2, runes_none (by simp; omega) hd]; rfl
theorem Scan.done {l : List UInt8} {k : Nat} {xs : List Nat} (h : Scan l k xs) (hk : ¬ k < l.length) : runes l = some xs := by
  rw [h.2.2, List.drop_eq_nil_of_le (by omega), runes_nil]; simp
end Go.Proofs.YtacnpligpbiamaaDoor
namespace Go.Proofs.YtacnpligpbiamaaDoor
/-- The value of a hexadecimal digit. -/
def hexP (b : UInt8) : Option Nat :=
  if 48 ≤ b.toNat ∧ b.toNat ≤ 57 then some (b.toNat - 48) else if 97 ≤ b.toNat ∧ b.toNat ≤ 102 then some (b.toNat - 97 + 10) else if 65 ≤ b.toNat ∧ b.toNat ≤ 70 then some (b.toNat - 65 + 10) else none
theorem hexP_lt {b : UInt8} {d : Nat} (h : hexP b = some d) : d < 16 := by
  unfold hexP at h
  (repeat' split at h) <;> simp at h <;> omega
/-- What is read of an element: a number, or that the text ends too early, or that there is no element. -/
inductive U where
  | ok (n : Nat)
  | trunc
  | bad
deriving DecidableEq
/-- The reference's four digits in a range: m are left, n is read. -/
def quadR (lo hi : Nat) : Nat → Nat → List UInt8 → U
  | 0, n, _ => .ok n
  | m + 1, n, [] => .trunc
  | m + 1, n, b :: r => match hexP b with
    | none => .bad
    | some d => if (n * 16 + d + 1) * 16 ^ m - 1 < lo ∨ hi < (n * 16 + d) * 16 ^ m then .bad else quadR lo hi m (n * 16 + d) r
/-- Is a number from least to most the second one of a pair, or, without low, none? -/
def possP (least most : Nat) (low : Bool) : Bool := if low then decide (least ≤ 57343 ∧ 56320 ≤ most) else decide (least < 56320 ∨ 57343 < most)
/-- The program's four digits: m are left, n is read. -/
def unitD (low : Bool) : Nat → Nat → List UInt8 → U
  | 0, n, _ => .ok n
  | m + 1, n, [] => .trunc
  | m + 1, n, b :: r => match hexP b with
    | none => .bad
    | some d => if possP ((n * 16 + d) * 16 ^ m) ((n * 16 + d) * 16 ^ m + 16 ^ m - 1) low = true then unitD low m (n * 16 + d) r else .bad
/-- Without a range the reference reads any four digits. -/
def quadA : Nat → Nat → List UInt8 → U
  | 0, n, _ => .ok n
  | m + 1, n, [] => .trunc
  | m + 1, n, b :: r => match hexP b with
    | none => .bad
    | some d => quadA m (n * 16 + d) r
/-- The reference's first number of an element: any four digits, but no second number of a pair; too early an end is none if no element begins so. -/
def firstR (l : List UInt8) : U :=
  match quadA 4 0 l with
  | .bad => .bad
  | .trunc => match l with
    | b :: c :: _ => match hexP b, hexP c with
      | some d, some e => if d = 13 ∧ 12 ≤ e then .bad else .trunc
      | _, _ => .trunc
    | _ => .trunc
  | .ok n => if 56320 ≤ n ∧ n ≤ 57343 then .bad else .ok n
theorem hexP_none_or (b : UInt8) : hexP b = none ∨ ∃ d, hexP b = some d ∧ d < 16 := by
  cases h : hexP b with
  | none => exact .inl rfl
  | some d => exact .inr ⟨d, rfl, hexP_lt h⟩
theorem unitD_some {low : Bool} {m n d : Nat} {b : UInt8} {r : List UInt8} (h : hexP b = some d) : unitD low (m + 1) n (b :: r) = if possP ((n * 16 + d) * 16 ^ m) ((n * 16 + d) * 16 ^ m + 16 ^ m - 1) low = true then unitD low m (n * 16 + d) r else .bad := by rw [unitD, h]
theorem unitD_none {low : Bool} {m n : Nat} {b : UInt8} {r : List UInt8} (h : hexP b = none) : unitD low (m + 1) n (b :: r) = .bad := by rw [unitD, h]
theorem quadA_some {m n d : Nat} {b : UInt8} {r : List UInt8} (h : hexP b = some d) : quadA (m + 1) n (b :: r) = quadA m (n * 16 + d) r := by rw [quadA, h]
theorem quadA_none {m n : Nat} {b : UInt8} {r : List UInt8} (h : hexP b = none) : quadA (m + 1) n (b :: r) = .bad := by rw [quadA, h]
theorem quadA_lo : ∀ (m n : Nat) (l : List UInt8) (x : Nat), quadA m n l = .ok x → n * 16 ^ m ≤ x ∧ x < (n + 1) * 16 ^ m
  | 0, n, l, x, h => by rw [quadA] at h; injection h with h; subst h; simp
  | m + 1, n, [], x, h => by rw [quadA] at h; cases h
  | m + 1, n, b :: r, x, h => by
    rcases hexP_none_or b with hb | ⟨d, hb, hd⟩
    · rw [quadA_none hb] at h; cases h
    · rw [quadA_some hb] at h
      obtain ⟨h1, h2⟩ := quadA_lo m _ r x h
      have e1 : (n + 1) * 16 ^ (m + 1) = (n * 16 + 16) * 16 ^ m := by rw [Nat.pow_succ, Nat.mul_comm (16 ^ m) 16, ← Nat.mul_assoc]; congr 1; omega
      have e2 : n * 16 ^ (m + 1) = (n * 16) * 16 ^ m := by rw [Nat.pow_succ, Nat.mul_comm (16 ^ m) 16, ← Nat.mul_assoc]
      have a1 : (n * 16 + d + 1) * 16 ^ m ≤ (n * 16 + 16) * 16 ^ m := Nat.mul_le_mul_right _ (by omega)
      have a2 : (n * 16) * 16 ^ m ≤ (n * 16 + d) * 16 ^ m := Nat.mul_le_mul_right _ (by omega)
      rw [e1, e2]
      omega
end Go.Proofs.YtacnpligpbiamaaDoor
namespace Go.Proofs.YtacnpligpbiamaaDoor
open Go.RowKit
/-- The encoding of a code point. -/
def enc (r : Nat) : List UInt8 :=
  if r < 128 then [UInt8.ofNat r]
  else if r < 2048 then [UInt8.ofNat (192 + r / 64), UInt8.ofNat (128 + r % 64)]
  else if r < 65536 then [UInt8.ofNat (224 + r / 4096), UInt8.ofNat (128 + r / 64 % 64), UInt8.ofNat (128 + r % 64)]
  else [UInt8.ofNat (240 + r / 262144), UInt8.ofNat (128 + r / 4096 % 64), UInt8.ofNat (128 + r / 64 % 64), UInt8.ofNat (128 + r % 64)]
def encs (xs : List Nat) : List UInt8 := xs.flatMap enc
theorem enc_len (r : Nat) : 1 ≤ (enc r).length ∧ (enc r).length ≤ 4 := by unfold enc; (repeat' split) <;> simp
theorem toNat_ofNat {n : Nat} (h : n < 256) : (UInt8.ofNat n).toNat = n := by
  rw [UInt8.toNat_ofNat']; exact Nat.mod_eq_of_lt h
end Go.Proofs.YtacnpligpbiamaaDoor
namespace Go.Proofs.YtacnpligpbiamaaDoor
open Go.RowKit
/-- A token, the offset, the error. -/
structure Lx where
  k : Nat
  f : Nat
  t : Nat
  b : Nat
  i : Int
  s : ByteArray
  p : Nat
  e : Nat
def Lx.val (x : Lx) : Value := .tuple #[.agg #[.int .i64 x.k, .int .i64 x.f, .int .i64 x.t, .int .u8 x.b, .int .i64 x.i, .string x.s], .int .i64 x.p, .int .i64 x.e]
def okX (k f t b : Nat) (i : Int) (s : ByteArray) : Lx := ⟨k, f, t, b, i, s, t, 0⟩
def noX (p e : Nat) : Lx := ⟨0, 0, 0, 0, 0, ⟨#[]⟩, p, e⟩
def digB (b : UInt8) : Bool := decide (48 ≤ b.toNat ∧ b.toNat ≤ 57)
def byt (l : List UInt8) (k : Nat) : Nat := (l[k]?.getD 0).toNat
/-- A number. -/
def natF (a : Nat) (l : List UInt8) : Nat := l.foldl (fun n b => n * 10 + (b.toNat - 48)) a
/-- An element of a string that begins with a backslash: the bytes behind it. -/
inductive Esc where
  | ok (r n : Nat)
  | trunc
  | bad
deriving DecidableEq
def pairP (n : Nat) : List UInt8 → Esc
  | [] => .trunc
  | [b] => if b.toNat = 92 then .trunc else .bad
  | b :: c :: r => if b.toNat = 92 ∧ c.toNat = 117 then (match quadR 56320 57343 4 0 r with
    | .ok m => .ok (65536 + (n - 55296) * 1024 + (m - 56320)) 12
    | .trunc => .trunc
    | .bad => .bad) else .bad
def uniP (r : List UInt8) : Esc := match firstR r with
  | .bad => .bad
  | .trunc => .trunc
  | .ok n => if 55296 ≤ n ∧ n ≤ 56319 then pairP n (r.drop 4) else .ok n 6
def escP : List UInt8 → Esc
  | [] => .trunc
  | c :: r => if c.toNat = 34 ∨ c.toNat = 92 ∨ c.toNat = 47 then .ok c.toNat 2
    else if c.toNat = 98 then .ok 8 2 else if c.toNat = 102 then .ok 12 2 else if c.toNat = 110 then .ok 10 2 else if c.toNat = 114 then .ok 13 2 else if c.toNat = 116 then .ok 9 2
    else if c.toNat = 117 then uniP r else .bad
/-- An element of a string. -/
inductive El where
  | quote
  | add (r n : Nat)
  | trunc
  | stop (e : Nat)
def elP : List UInt8 → El
  | [] => .trunc
  | b :: r => if b.toNat = 34 then .quote
    else if b.toNat = 92 then (match escP r with
      | .ok r n => .add r n
      | .trunc => .trunc
      | .bad => .stop 4)
    else if b.toNat < 32 then .stop 4
    else match dec (b :: r) with
      | some (r, n) => .add r n
      | none => .stop 6
/-- A string from the offset i on, out is read. -/
def strF (l : List UInt8) (k : Nat) : Nat → Nat → List UInt8 → Lx
  | 0, i, out => noX l.length 5
  | m + 1, i, out => match elP (l.drop i) with
    | .quote => if out.length ≤ 4096 then okX 4 k (i + 1) 0 0 ⟨out.toArray⟩ else noX k 2
    | .trunc => noX l.length 5
    | .stop e => noX i e
    | .add r n => strF l k m (i + n) (out ++ enc r)
def strP (l : List UInt8) (k : Nat) : Lx := strF l k (l.length - k) (k + 1) []
/-- How far an element reaches. -/
theorem quadR_len : ∀ {lo hi m n : Nat} {l : List UInt8} {x : Nat}, quadR lo hi m n l = .ok x → m ≤ l.length
  | lo, hi, 0, n, l, x, h => Nat.zero_le _
  | lo, hi, m + 1, n, [], x, h => by rw [quadR] at h; cases h
  | lo, hi, m + 1, n, b :: r, x, h => by
    rw [quadR] at h
    split at h
    · cases h
    · split at h
      · cases h
      · have := quadR_len h
        simp; omega
theorem quadA_len : ∀ {m n : Nat} {l : List UInt8} {x : Nat}, quadA m n l = .ok x → m ≤ l.length
  | 0, n, l, x, h => Nat.zero_le _
  | m + 1, n, [], x, h => by rw [quadA] at h; cases h
  | m + 1, n, b :: r, x, h => by
    rw [quadA] at h
    split at h
    · cases h
    · have := quadA_len h
      simp; omega
theorem quadR_range : ∀ {lo hi m n : Nat} {l : List UInt8} {x : Nat}, quadR lo hi m n l = .ok x → m ≠ 0 → lo ≤ x ∧ x ≤ hi
  | lo, hi, 0, n, l, x, h, h0 => absurd rfl h0
  | lo, hi, m + 1, n, [], x, h, _ => by rw [quadR] at h; cases h
  | lo, hi, m + 1, n, b :: r, x, h, _ => by
    rw [quadR] at h
    split at h
    · cases h
    · rename_i d hd
      split at h
      · cases h
      · rename_i hno
        cases m with
        | zero =>
          rw [quadR] at h
          injection h with h
          simp at hno
          omega
        | succ m => exact quadR_range h (by omega)
theorem firstR_ok {l : List UInt8} {x : Nat} (h : firstR l = .ok x) : quadA 4 0 l = .ok x ∧ 4 ≤ l.length ∧ x < 65536 ∧ ¬ (56320 ≤ x ∧ x ≤ 57343) := by
  unfold firstR at h
  cases hq : quadA 4 0 l with
  | bad => rw [hq] at h; cases h
  | trunc =>
    rw [hq] at h
    simp only [] at h
    (repeat' split at h) <;> cases h
  | ok n =>
    rw [hq] at h
    simp only [] at h
    split at h
    · cases h
    · rename_i hno
      injection h with h
      subst h
      have h2 := quadA_lo _ _ _ _ hq
      exact ⟨rfl, quadA_len hq, by omega, hno⟩
theorem pairP_ok {n : Nat} {l : List UInt8} {r m : Nat} (hn : 55296 ≤ n ∧ n ≤ 56319) (h : pairP n l = .ok r m) : m = 12 ∧ 6 ≤ l.length ∧ r ≤ 1114111 ∧ 65536 ≤ r := by
  match l, h with
  | [], h => cases h
  | [b], h =>
    rw [pairP] at h
    split at h <;> cases h
  | b :: c :: t, h =>
    rw [pairP] at h
    split at h
    · cases hq : quadR 56320 57343 4 0 t with
      | bad => rw [hq] at h; cases h
      | trunc => rw [hq] at h; cases h
      | ok x =>
        rw [hq] at h
        simp only [Esc.ok.injEq] at h
        have h1 := quadR_len hq
        have h2 := quadR_range hq (by omega)
        obtain ⟨h, rfl⟩ := h
        exact ⟨rfl, by simp; omega, by omega, by omega⟩
    · cases h
theorem cp_of {r : Nat} (h : r ≤ 1114111) (h2 : ¬ (55296 ≤ r ∧ r ≤ 57343)) : cp (r : Int) = true := by unfold cp; simp; omega
theorem uniP_ok {l : List UInt8} {r m : Nat} (h : uniP l = .ok r m) : 6 ≤ m ∧ m ≤ l.length + 2 ∧ cp (r : Int) = true := by
  unfold uniP at h
  cases hq : firstR l with
  | bad => rw [hq] at h; cases h
  | trunc => rw [hq] at h; cases h
  | ok n =>
    rw [hq] at h
    simp only [] at h
    obtain ⟨-, h1, h2, h3⟩ := firstR_ok hq
    split at h
    · rename_i hn
      obtain ⟨h4, h5, h6, h7⟩ := pairP_ok hn h
      rw [List.length_drop] at h5
      exact ⟨by omega, by omega, cp_of (by omega) (by omega)⟩
    · injection h with h4 h5
      subst h4; subst h5
      exact ⟨by omega, by omega, cp_of (by omega) (by omega)⟩
theorem escP_ok {l : List UInt8} {r m : Nat} (h : escP l = .ok r m) : 2 ≤ m ∧ m ≤ l.length + 1 ∧ cp (r : Int) = true := by
  match l, h with
  | [], h => cases h
  | c :: t, h =>
    rw [escP] at h
    split at h
    · injection h with h1 h2
      subst h1; subst h2
      exact ⟨by omega, by simp, cp_of (by omega) (by omega)⟩
    (repeat' split at h)
    all_goals first
      | (obtain ⟨h1, h2, h3⟩ := uniP_ok h; exact ⟨by omega, by simp; omega, h3⟩)
      | (injection h with h1 h2; subst h1; subst h2; exact ⟨by omega, by simp, by decide⟩)
      | cases h
/-- An element that adds takes at least one byte, and none behind the end. -/
theorem elP_add {l : List UInt8} {r n : Nat} (h : elP l = .add r n) : 1 ≤ n ∧ n ≤ l.length ∧ cp (r : Int) = true ∧ (enc r).length ≤ 4 := by
  match l, h with
  | [], h => cases h
  | b :: t, h =>
    rw [elP] at h
    split at h
    · cases h
    · split at h
      · cases hq : escP t with
        | bad => rw [hq] at h; cases h
        | trunc => rw [hq] at h; cases h
        | ok x y =>
          rw [hq] at h
          injection h with h1 h2
          subst h1; subst h2
          obtain ⟨h1, h2, h3⟩ := escP_ok hq
          exact ⟨by omega, by simp; omega, h3, (enc_len _).2⟩
      · split at h
        · cases h
        · cases hq : dec (b :: t) with
          | none => rw [hq] at h; cases h
          | some x =>
            obtain ⟨x, y⟩ := x
            rw [hq] at h
            injection h with h1 h2
            subst h1; subst h2
            obtain ⟨h1, h2, _, h4⟩ := dec_some_cp hq
            exact ⟨by omega, h4, h1, (enc_len _).2⟩
/-- What a scan of a string knows when it stands at the offset i and has read out. -/
def StrAt (l : List UInt8) (k i : Nat) (out : List UInt8) : Prop := k + 1 ≤ i ∧ i ≤ l.length ∧ out.length ≤ 4 * (i - k) ∧ ∃ m, l.length - i < m ∧ strP l k = strF l k m i out
theorem StrAt.start {l : List UInt8} {k : Nat} (h : k < l.length) : StrAt l k (k + 1) [] := ⟨Nat.le_refl _, h, by simp, l.length - k, by omega, rfl⟩
theorem StrAt.step {l : List UInt8} {k i : Nat} {out : List UInt8} (h : StrAt l k i out) : strP l k = match elP (l.drop i) with
    | .quote => if out.length ≤ 4096 then okX 4 k (i + 1) 0 0 ⟨out.toArray⟩ else noX k 2
    | .trunc => noX l.length 5
    | .stop e => noX i e
    | .add r n => strP l k := by
  obtain ⟨h1, h2, h3, m, h4, h5⟩ := h
  obtain ⟨m, rfl⟩ : ∃ x, m = x + 1 := ⟨m - 1, by omega⟩
  cases hq : elP (l.drop i) with
  | add r n => rfl
  | quote => rw [h5, strF, hq]
  | trunc => rw [h5, strF, hq]
  | stop e => rw [h5, strF, hq]
theorem StrAt.next {l : List UInt8} {k i : Nat} {out : List UInt8} (h : StrAt l k i out) {r n : Nat} (he : elP (l.drop i) = .add r n) : StrAt l k (i + n) (out ++ enc r) := by
  obtain ⟨h1, h2, h3, m, h4, h5⟩ := h
  obtain ⟨h6, h7, h8, h9⟩ := elP_add he
  rw [List.length_drop] at h7
  refine ⟨by omega, by omega, by rw [List.length_append]; omega, ?_⟩
  obtain ⟨m, rfl⟩ : ∃ x, m = x + 1 := ⟨m - 1, by omega⟩
  refine ⟨m, by omega, ?_⟩
  rw [h5, strF, he]
end Go.Proofs.YtacnpligpbiamaaDoor
namespace Go.Proofs.YtacnpligpbiamaaDoor
open Go.RowKit
def hx (n : Nat) : UInt8 := if n < 10 then UInt8.ofNat (48 + n) else UInt8.ofNat (87 + n)
/-- What is written of a byte. -/
def qb (c : UInt8) : List UInt8 :=
  if c.toNat = 34 ∨ c.toNat = 92 then [92, c] else if c.toNat = 8 then [92, 98] else if c.toNat = 9 then [92, 116] else if c.toNat = 10 then [92, 110]
  else if c.toNat = 12 then [92, 102] else if c.toNat = 13 then [92, 114] else if c.toNat < 32 then [92, 117, 48, 48, hx (c.toNat / 16), hx (c.toNat % 16)] else [c]
def qbs (l : List UInt8) : List UInt8 := l.flatMap qb
theorem qbs_nil : qbs [] = [] := rfl
theorem qbs_cons (c : UInt8) (l : List UInt8) : qbs (c :: l) = qb c ++ qbs l := by simp [qbs]
theorem qbs_append (a b : List UInt8) : qbs (a ++ b) = qbs a ++ qbs b := by simp [qbs]
theorem qb_len (c : UInt8) : 1 ≤ (qb c).length ∧ (qb c).length ≤ 6 := by unfold qb; (repeat' split) <;> simp
theorem qbs_len (l : List UInt8) : l.length ≤ (qbs l).length ∧ (qbs l).length ≤ 6 * l.length := by
  induction l with
  | nil => exact ⟨Nat.le_refl _, Nat.le_refl _⟩
  | cons c l ih =>
    have := qb_len c
    rw [qbs_cons, List.length_append, List.length_cons]
    omega
end Go.Proofs.YtacnpligpbiamaaDoor
namespace Go.Proofs.YtacnpligpbiamaaDoor
theorem natF_cons (a : Nat) (b : UInt8) (l : List UInt8) : natF a (b :: l) = natF (a * 10 + (b.toNat - 48)) l := by unfold natF; rw [List.foldl_cons]
theorem natF_app (a : Nat) (l r : List UInt8) : natF a (l ++ r) = natF (natF a l) r := by unfold natF; rw [List.foldl_append]
end Go.Proofs.YtacnpligpbiamaaDoor
namespace Go.Proofs.YtacnpligpbiamaaDoor
/-- The digits of a number; none of 0. -/
def digF : Nat → Nat → List UInt8
  | 0, _ => []
  | f + 1, v => if v = 0 then [] else digF f (v / 10) ++ [UInt8.ofNat (48 + v % 10)]
def digN (v : Nat) : List UInt8 := digF v v
theorem digF_any : ∀ (f g v : Nat), v ≤ f → v ≤ g → digF f v = digF g v
  | 0, g, v, h1, h2 => by
    have : v = 0 := by omega
    subst this
    cases g <;> simp [digF]
  | f + 1, 0, v, h1, h2 => by
    have : v = 0 := by omega
    subst this
    simp [digF]
  | f + 1, g + 1, v, h1, h2 => by
    unfold digF
    by_cases h : v = 0
    · rw [if_pos h, if_pos h]
    · rw [if_neg h, if_neg h, digF_any f g (v / 10) (by omega) (by omega)]
theorem digN_zero : digN 0 = [] := rfl
theorem digN_pos {v : Nat} (h : v ≠ 0) : digN v = digN (v / 10) ++ [UInt8.ofNat (48 + v % 10)] := by
  obtain ⟨f, rfl⟩ : ∃ f, v = f + 1 := ⟨v - 1, by omega⟩
  have h1 : digN (f + 1) = digF f ((f + 1) / 10) ++ [UInt8.ofNat (48 + (f + 1) % 10)] := by
    show digF (f + 1) (f + 1) = _
    rw [digF, if_neg h]
  rw [h1, digF_any f ((f + 1) / 10) _ (by omega) (Nat.le_refl _)]
  rfl
theorem dig_byte {d : Nat} (h : d < 10) : (UInt8.ofNat (48 + d)).toNat = 48 + d := toNat_ofNat (by omega)
theorem digN_all : ∀ (v : Nat), (∀ b ∈ digN v, digB b = true) ∧ natF 0 (digN v) = v ∧ (v ≠ 0 → ∃ b t, digN v = b :: t ∧ b.toNat ≠ 48) := by
  intro v
  induction v using Nat.strongRecOn with
  | _ v ih =>
    by_cases h : v = 0
    · subst h
      exact ⟨by simp [digN_zero], rfl, fun h => absurd rfl h⟩
    · have hlt : v / 10 < v := by omega
      obtain ⟨h1, h2, h3⟩ := ih (v / 10) hlt
      have hd := dig_byte (d := v % 10) (by omega)
      rw [digN_pos h]
      refine ⟨fun b hb => ?_, ?_, fun _ => ?_⟩
      · rcases List.mem_append.1 hb with hb | hb
        · exact h1 b hb
        · have hb := List.mem_singleton.1 hb
          subst hb
          unfold digB
          rw [hd]; simp; omega
      · rw [natF_app, h2, natF_cons, hd]
        show v / 10 * 10 + (48 + v % 10 - 48) = v
        omega
      · by_cases h10 : v / 10 = 0
        · rw [h10, digN_zero]
          exact ⟨_, _, rfl, by rw [hd]; omega⟩
        · obtain ⟨b, t, hb, hne⟩ := h3 h10
          exact ⟨b, t ++ [UInt8.ofNat (48 + v % 10)], by rw [hb]; rfl, hne⟩
/-- The digits of a number that is not negative. -/
def magL (v : Nat) : List UInt8 := if v = 0 then [48] else digN v
theorem magL_spec (v : Nat) : (∀ b ∈ magL v, digB b = true) ∧ natF 0 (magL v) = v ∧ 1 ≤ (magL v).length ∧ (byt (magL v) 0 = 48 → (magL v).length = 1) := by
  unfold magL
  by_cases h : v = 0
  · rw [if_pos h]
    subst h
    exact ⟨by decide, rfl, by decide, fun _ => rfl⟩
  · rw [if_neg h]
    obtain ⟨h1, h2, h3⟩ := digN_all v
    obtain ⟨b, t, hb, hne⟩ := h3 h
    refine ⟨h1, h2, by rw [hb]; simp, fun h4 => ?_⟩
    rw [hb] at h4
    exact absurd h4 hne
def numL (n : Int) : List UInt8 := if n < 0 then 45 :: magL n.natAbs else magL n.natAbs
theorem span_whole {p : UInt8 → Bool} : ∀ (l r : List UInt8), (∀ b ∈ l, p b = true) → (∀ b, r.head? = some b → p b = false) → ((l ++ r).takeWhile p) = l
  | [], r, _, h => by
    cases r with
    | nil => rfl
    | cons b t => rw [List.nil_append, List.takeWhile_cons, if_neg (by rw [h b rfl]; exact Bool.false_ne_true)]
  | b :: l, r, h1, h2 => by
    rw [List.cons_append, List.takeWhile_cons, if_pos (h1 b (by simp)), span_whole l r (fun c hc => h1 c (by simp [hc])) h2]
end Go.Proofs.YtacnpligpbiamaaDoor
namespace Go.Proofs.YtacnpligpbiamaaDoor
open Go.RowKit
theorem digN_len : ∀ (k v : Nat), v < 10 ^ k → (digN v).length ≤ k
  | 0, v, h => by
    have : v = 0 := by simpa using h
    subst this
    exact Nat.le_refl _
  | k + 1, v, h => by
    by_cases h0 : v = 0
    · subst h0; exact Nat.zero_le _
    · rw [digN_pos h0, List.length_append]
      have := digN_len k (v / 10) (by rw [Nat.pow_succ] at h; exact Nat.div_lt_of_lt_mul (by rw [Nat.mul_comm]; exact h))
      simp; omega
theorem numL_len {n : Int} (hn : -9223372036854775808 ≤ n ∧ n ≤ 9223372036854775807) : 1 ≤ (numL n).length ∧ (numL n).length ≤ 21 := by
  have h := digN_len 20 n.natAbs (by simp; omega)
  obtain ⟨-, -, h3, -⟩ := magL_spec n.natAbs
  have h4 : (magL n.natAbs).length ≤ 20 := by
    unfold magL
    split
    · simp
    · exact h
  unfold numL
  split
  · simp; omega
  · omega
end Go.Proofs.YtacnpligpbiamaaDoor
