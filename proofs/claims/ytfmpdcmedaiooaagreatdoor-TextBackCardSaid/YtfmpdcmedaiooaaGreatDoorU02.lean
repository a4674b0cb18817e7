/- Plain facts on the encoding of code points, and how it fits their decoding. Nothing of the program is named here. What the first token of a JSON text is, as functions on lists of bytes. Nothing of the program is named here. -/
import Derived.Test.YtfmpdcmedaiooaaGreatDoorU01
import Derived.Lib.ParseIntBTie
import Derived.Lib.AtoiAllCases
set_option linter.unusedVariables false
set_option linter.unusedSimpArgs false
namespace Go.Proofs.YtfmpdcmedaiooaaGreatDoor
open Go.RowKit
/-- The encoding of a code point. -/
def enc (r : Nat) : List UInt8 :=
  if r < 128 then [UInt8.ofNat r]
  else if r < 2048 then [UInt8.ofNat (192 + r / 64), UInt8.ofNat (128 + r % 64)]
  else if r < 65536 then [UInt8.ofNat (224 + r / 4096), UInt8.ofNat (128 + r / 64 % 64), UInt8.ofNat (128 + r % 64)]
  else [UInt8.ofNat (240 + r / 262144), UInt8.ofNat (128 + r / 4096 % 64), UInt8.ofNat (128 + r / 64 % 64), UInt8.ofNat (128 + r % 64)]
def encs (xs : List Nat) : List UInt8 := xs.flatMap enc
theorem encs_nil : encs [] = [] := rfl
theorem encs_cons (r : Nat) (xs : List Nat) : encs (r :: xs) = enc r ++ encs xs := by simp [encs]
theorem encs_snoc (xs : List Nat) (r : Nat) : encs (xs ++ [r]) = encs xs ++ enc r := by simp [encs]
theorem encs_append (xs ys : List Nat) : encs (xs ++ ys) = encs xs ++ encs ys := by simp [encs]
theorem enc_len (r : Nat) : 1 ≤ (enc r).length ∧ (enc r).length ≤ 4 := by unfold enc; (repeat' split) <;> simp
theorem encs_len (xs : List Nat) : xs.length ≤ (encs xs).length ∧ (encs xs).length ≤ 4 * xs.length := by
  induction xs with
  | nil => simp [encs]
  | cons r xs ih => rw [encs_cons]; have := enc_len r; simp; omega
theorem toNat_ofNat {n : Nat} (h : n < 256) : (UInt8.ofNat n).toNat = n := by
  rw [UInt8.toNat_ofNat']; exact Nat.mod_eq_of_lt h
theorem tl_cons (n acc : Nat) (b : UInt8) (r : List UInt8) (h : 128 ≤ b.toNat ∧ b.toNat ≤ 191) : tl (n + 1) acc (b :: r) = tl n (acc * 64 + b.toNat % 64) r := by
  show (if _ then _ else _) = _
  rw [if_pos h]
theorem tl_zero (acc : Nat) (l : List UInt8) : tl 0 acc l = some acc := rfl
theorem fin_ok {n least r : Nat} (h1 : least ≤ r) (h2 : cp r = true) : fin n least (some r) = some (r, n + 1) := by
  unfold fin
  simp only []
  rw [if_neg (by simp [h2]; omega)]
/-- What an encoding begins with is decoded to its code point. -/
theorem dec_enc {r : Nat} (h : cp r = true) (t : List UInt8) : dec (enc r ++ t) = some (r, (enc r).length) := by
  have hr := cp_range h
  unfold enc
  split
  · rename_i h1
    show dec (UInt8.ofNat r :: t) = _
    rw [dec_cons, if_pos (by rw [toNat_ofNat (by omega)]; omega), toNat_ofNat (by omega)]; rfl
  · split
    · show dec (UInt8.ofNat (192 + r / 64) :: UInt8.ofNat (128 + r % 64) :: t) = _
      have e0 : (UInt8.ofNat (192 + r / 64)).toNat = 192 + r / 64 := toNat_ofNat (by omega)
      have e1 : (UInt8.ofNat (128 + r % 64)).toNat = 128 + r % 64 := toNat_ofNat (by omega)
      rw [dec_cons, e0, if_neg (by omega), if_neg (by omega), if_pos (by omega), tl_cons _ _ _ _ (by rw [e1]; omega), tl_zero, e1,
        show (192 + r / 64) % 32 * 64 + (128 + r % 64) % 64 = r from by omega, fin_ok (by omega) h]; rfl
    · split
      · show dec (UInt8.ofNat (224 + r / 4096) :: UInt8.ofNat (128 + r / 64 % 64) :: UInt8.ofNat (128 + r % 64) :: t) = _
        have e0 : (UInt8.ofNat (224 + r / 4096)).toNat = 224 + r / 4096 := toNat_ofNat (by omega)
        have e1 : (UInt8.ofNat (128 + r / 64 % 64)).toNat = 128 + r / 64 % 64 := toNat_ofNat (by omega)
        have e2 : (UInt8.ofNat (128 + r % 64)).toNat = 128 + r % 64 := toNat_ofNat (by omega)
        rw [dec_cons, e0, if_neg (by omega), if_neg (by omega), if_neg (by omega), if_pos (by omega), tl_cons _ _ _ _ (by rw [e1]; omega), tl_cons _ _ _ _ (by rw [e2]; omega), tl_zero, e1, e2,
          show ((224 + r / 4096) % 16 * 64 + (128 + r / 64 % 64) % 64) * 64 + (128 + r % 64) % 64 = r from by omega, fin_ok (by omega) h]; rfl
      · show dec (UInt8.ofNat (240 + r / 262144) :: UInt8.ofNat (128 + r / 4096 % 64) :: UInt8.ofNat (128 + r / 64 % 64) :: UInt8.ofNat (128 + r % 64) :: t) = _
        have e0 : (UInt8.ofNat (240 + r / 262144)).toNat = 240 + r / 262144 := toNat_ofNat (by omega)
        have e1 : (UInt8.ofNat (128 + r / 4096 % 64)).toNat = 128 + r / 4096 % 64 := toNat_ofNat (by omega)
        have e2 : (UInt8.ofNat (128 + r / 64 % 64)).toNat = 128 + r / 64 % 64 := toNat_ofNat (by omega)
        have e3 : (UInt8.ofNat (128 + r % 64)).toNat = 128 + r % 64 := toNat_ofNat (by omega)
        rw [dec_cons, e0, if_neg (by omega), if_neg (by omega), if_neg (by omega), if_neg (by omega), if_pos (by omega), tl_cons _ _ _ _ (by rw [e1]; omega), tl_cons _ _ _ _ (by rw [e2]; omega),
          tl_cons _ _ _ _ (by rw [e3]; omega), tl_zero, e1, e2, e3,
          show (((240 + r / 262144) % 8 * 64 + (128 + r / 4096 % 64) % 64) * 64 + (128 + r / 64 % 64) % 64) * 64 + (128 + r % 64) % 64 = r from by omega, fin_ok (by omega) h]; rfl
theorem runes_encs {xs : List Nat} (h : ∀ r ∈ xs, cp (r : Int) = true) : runes (encs xs) = some xs := by
  induction xs with
  | nil => rfl
  | cons r xs ih =>
    rw [encs_cons, runes_some (dec_enc (h r (by simp)) _), List.drop_left, ih (fun q hq => h q (by simp [hq]))]; rfl
/-- What is decoded is the shortest encoding of what it is decoded to. -/
theorem enc_dec {l : List UInt8} {r n : Nat} (h : dec l = some (r, n)) : l.take n = enc r ∧ n = (enc r).length := by
  have tcs : ∀ (m acc v : Nat) (b : UInt8) (t : List UInt8), tl (m + 1) acc (b :: t) = some v → (128 ≤ b.toNat ∧ b.toNat ≤ 191) ∧ tl m (acc * 64 + b.toNat % 64) t = some v := by
    intro m acc v b t h
    have h' : (if 128 ≤ b.toNat ∧ b.toNat ≤ 191 then tl m (acc * 64 + b.toNat % 64) t else none) = some v := h
    split at h'
    · exact ⟨by assumption, h'⟩
    · cases h'
  have tnil : ∀ (m acc v : Nat), tl (m + 1) acc [] = some v → False := by intro m acc v h; cases h
  have fs : ∀ (m least : Nat) (o : Option Nat), fin m least o = some (r, n) → ∃ v, o = some v ∧ least ≤ v ∧ v = r ∧ n = m + 1 := by
    intro m least o h
    cases o with
    | none => cases h
    | some v =>
      unfold fin at h
      simp only [] at h
      split at h
      · cases h
      · rename_i hc
        injection h with h; injection h with h1 h2
        exact ⟨v, rfl, by omega, h1, h2.symm⟩
  have u8 : ∀ (b : UInt8) (m : Nat), b.toNat = m → b = UInt8.ofNat m := by
    intro b m h; rw [← h]; simp
  cases l with
  | nil => cases h
  | cons b t =>
    have hb := UInt8.toNat_lt b
    rw [dec_cons] at h
    split at h
    · injection h with h; injection h with h1 h2
      subst h1; subst h2
      unfold enc
      rw [if_pos (by omega)]
      simp
    · split at h
      · cases h
      · split at h
        · obtain ⟨v, hv, hl, rfl, rfl⟩ := fs _ _ _ h
          cases t with
          | nil => exact (tnil _ _ _ hv).elim
          | cons b1 t =>
            obtain ⟨g1, hv⟩ := tcs _ _ _ _ _ hv
            rw [tl_zero] at hv; injection hv with hv
            unfold enc
            rw [if_neg (by omega), if_pos (by omega)]
            refine ⟨?_, rfl⟩
            rw [← u8 b _ (by omega), ← u8 b1 _ (by omega)]; rfl
        · split at h
          · obtain ⟨v, hv, hl, rfl, rfl⟩ := fs _ _ _ h
            cases t with
            | nil => exact (tnil _ _ _ hv).elim
            | cons b1 t =>
              obtain ⟨g1, hv⟩ := tcs _ _ _ _ _ hv
              cases t with
              | nil => exact (tnil _ _ _ hv).elim
              | cons b2 t =>
                obtain ⟨g2, hv⟩ := tcs _ _ _ _ _ hv
                rw [tl_zero] at hv; injection hv with hv
                unfold enc
                rw [if_neg (by omega), if_neg (by omega), if_pos (by omega)]
                refine ⟨?_, rfl⟩
                rw [← u8 b _ (by omega), ← u8 b1 _ (by omega), ← u8 b2 _ (by omega)]; rfl
          · split at h
            · obtain ⟨v, hv, hl, rfl, rfl⟩ := fs _ _ _ h
              cases t with
              | nil => exact (tnil _ _ _ hv).elim
              | cons b1 t =>
                obtain ⟨g1, hv⟩ := tcs _ _ _ _ _ hv
                cases t with
                | nil => exact (tnil _ _ _ hv).elim
                | cons b2 t =>
                  obtain ⟨g2, hv⟩ := tcs _ _ _ _ _ hv
                  cases t with
                  | nil => exact (tnil _ _ _ hv).elim
                  | cons b3 t =>
                    obtain ⟨g3, hv⟩ := tcs _ _ _ _ _ hv
                    rw [tl_zero] at hv; injection hv with hv
                    unfold enc
                    rw [if_neg (by omega), if_neg (by omega), if_neg (by omega)]
                    refine ⟨?_, rfl⟩
                    rw [← u8 b _ (by omega), ← u8 b1 _ (by omega), ← u8 b2 _ (by omega), ← u8 b3 _ (by omega)]; rfl
            · cases h
theorem encs_runes : ∀ (m : Nat) (l : List UInt8), l.length ≤ m → ∀ xs, runes l = some xs → encs xs = l ∧ ∀ r ∈ xs, cp (r : Int) = true := by
  intro m
  induction m with
  | zero =>
    intro l hl xs h
    have : l = [] := List.eq_nil_of_length_eq_zero (by omega)
    subst this; rw [runes_nil] at h; injection h with h; subst h; exact ⟨rfl, by simp⟩
  | succ m ih =>
    intro l hl xs h
    cases l with
    | nil => rw [runes_nil] at h; injection h with h; subst h; exact ⟨rfl, by simp⟩
    | cons b t =>
      cases hd : dec (b :: t) with
      | none => rw [runes_none (by simp) hd] at h; cases h
      | some rn =>
        obtain ⟨r, n⟩ := rn
        obtain ⟨hc, h1, _, h4⟩ := dec_some_cp hd
        obtain ⟨e1, e2⟩ := enc_dec hd
        rw [runes_some hd] at h
        cases hr : runes ((b :: t).drop n) with
        | none => rw [hr] at h; cases h
        | some ys =>
          rw [hr] at h; injection h with h; subst h
          obtain ⟨i1, i2⟩ := ih _ (by rw [List.length_drop]; omega) ys hr
          refine ⟨?_, ?_⟩
          · rw [encs_cons, i1, ← e1, List.take_append_drop]
          · intro q hq
            rcases List.mem_cons.1 hq with rfl | hq
            · exact hc
            · exact i2 q hq
end Go.Proofs.YtfmpdcmedaiooaaGreatDoor
namespace Go.Proofs.YtfmpdcmedaiooaaGreatDoor
open Go.RowKit
/-- A token, the offset, the error. -/
structure Lx where
  k : Nat
  f : Nat
  t : Nat
  b : Nat
  i : Int
  s : ByteArray
  p : Nat
  e : Nat
def Lx.val (x : Lx) : Value := .tuple #[.agg #[.int .i64 x.k, .int .i64 x.f, .int .i64 x.t, .int .u8 x.b, .int .i64 x.i, .string x.s], .int .i64 x.p, .int .i64 x.e]
def okX (k f t b : Nat) (i : Int) (s : ByteArray) : Lx := ⟨k, f, t, b, i, s, t, 0⟩
def noX (p e : Nat) : Lx := ⟨0, 0, 0, 0, 0, ⟨#[]⟩, p, e⟩
/-- The offset of the first byte from k on that is not of a kind. -/
def span (p : UInt8 → Bool) (l : List UInt8) (k : Nat) : Nat := k + ((l.drop k).takeWhile p).length
theorem span_in {p : UInt8 → Bool} {l : List UInt8} {k : Nat} (h : k < l.length) (hp : p l[k] = true) : span p l k = span p l (k + 1) := by
  unfold span
  rw [List.drop_eq_getElem_cons h, List.takeWhile_cons, if_pos hp]
  simp; omega
theorem span_no {p : UInt8 → Bool} {l : List UInt8} {k : Nat} (h : k < l.length) (hp : p l[k] = false) : span p l k = k := by
  unfold span
  rw [List.drop_eq_getElem_cons h, List.takeWhile_cons, if_neg (by simp [hp])]
  simp
theorem span_end {p : UInt8 → Bool} {l : List UInt8} {k : Nat} (h : l.length ≤ k) : span p l k = k := by
  unfold span
  rw [List.drop_eq_nil_of_le h]
  simp
theorem span_ge (p : UInt8 → Bool) (l : List UInt8) (k : Nat) : k ≤ span p l k := Nat.le_add_right _ _
theorem span_spec (p : UInt8 → Bool) (l : List UInt8) : ∀ (n k : Nat), l.length - k = n → k ≤ l.length → span p l k ≤ l.length ∧ (∀ i (h : i < l.length), k ≤ i → i < span p l k → p l[i] = true) ∧ (∀ h : span p l k < l.length, p l[span p l k] = false)
  | 0, k, hn, hk => by
    have h : l.length ≤ k := by omega
    rw [span_end h]
    exact ⟨hk, fun i h1 h2 h3 => by omega, fun h1 => by omega⟩
  | n + 1, k, hn, hk => by
    have h : k < l.length := by omega
    cases hp : p l[k] with
    | false =>
      rw [span_no h hp]
      exact ⟨hk, fun i h1 h2 h3 => by omega, fun _ => hp⟩
    | true =>
      rw [span_in h hp]
      obtain ⟨h1, h2, h3⟩ := span_spec p l n (k + 1) (by omega) (by omega)
      refine ⟨h1, fun i g1 g2 g3 => ?_, h3⟩
      rcases Nat.eq_or_lt_of_le g2 with rfl | g2
      · exact hp
      · exact h2 i g1 g2 g3
theorem span_le {p : UInt8 → Bool} {l : List UInt8} {k : Nat} (h : k ≤ l.length) : span p l k ≤ l.length := (span_spec p l _ k rfl h).1
theorem span_all {p : UInt8 → Bool} {l : List UInt8} {k i : Nat} (h : i < l.length) (h1 : k ≤ i) (h2 : i < span p l k) : p l[i] = true := (span_spec p l _ k rfl (by omega)).2.1 i h h1 h2
def blankB (b : UInt8) : Bool := decide (b.toNat = 32 ∨ b.toNat = 9 ∨ b.toNat = 10 ∨ b.toNat = 13)
def signB (b : UInt8) : Bool := decide (b.toNat = 91 ∨ b.toNat = 93 ∨ b.toNat = 123 ∨ b.toNat = 125 ∨ b.toNat = 44 ∨ b.toNat = 58)
def letB (b : UInt8) : Bool := decide (97 ≤ b.toNat ∧ b.toNat ≤ 122)
def digB (b : UInt8) : Bool := decide (48 ≤ b.toNat ∧ b.toNat ≤ 57)
def byt (l : List UInt8) (k : Nat) : Nat := (l[k]?.getD 0).toNat
theorem byt_at {l : List UInt8} {k : Nat} (h : k < l.length) : byt l k = l[k].toNat := by unfold byt; rw [List.getElem?_eq_getElem h]; rfl
theorem byt_no {l : List UInt8} {k : Nat} (h : l.length ≤ k) : byt l k = 0 := by unfold byt; rw [List.getElem?_eq_none h]; rfl
def sub (l : List UInt8) (i j : Nat) : List UInt8 := (l.drop i).take (j - i)
/-- A word. -/
def wordB (l : List UInt8) : Bool := l == [110, 117, 108, 108] || l == [116, 114, 117, 101] || l == [102, 97, 108, 115, 101]
def wordP (l : List UInt8) (k : Nat) : Lx := match wordB (sub l k (span letB l k)) with
  | true => okX 2 k (span letB l k) (byt l k) 0 ⟨#[]⟩
  | false => noX k 4
/-- A number. -/
def natF (a : Nat) (l : List UInt8) : Nat := l.foldl (fun n b => n * 10 + (b.toNat - 48)) a
def fitP (neg : Bool) (v : Nat) : Option Int := match neg with
  | true => if v ≤ 9223372036854775808 then some (-(v : Int)) else none
  | false => if v < 9223372036854775808 then some (v : Int) else none
def firstP (l : List UInt8) (k : Nat) : Nat := if byt l k = 45 then k + 1 else k
def moreB (l : List UInt8) (t : Nat) : Bool := decide (byt l t = 46 ∨ byt l t = 101 ∨ byt l t = 69)
def numP (l : List UInt8) (k : Nat) : Lx :=
  if span digB l (firstP l k) = firstP l k then noX (firstP l k) 4
  else if byt l (firstP l k) = 48 ∧ firstP l k + 1 < span digB l (firstP l k) then noX (firstP l k + 1) 4
  else if moreB l (span digB l (firstP l k)) = true then noX k 7
  else match fitP (decide (byt l k = 45)) (natF 0 (sub l (firstP l k) (span digB l (firstP l k)))) with
    | none => noX k 7
    | some v => okX 3 k (span digB l (firstP l k)) 0 v ⟨#[]⟩
/-- An element of a string that begins with a backslash: the bytes behind it. -/
inductive Esc where
  | ok (r n : Nat)
  | trunc
  | bad
deriving DecidableEq
def pairP (n : Nat) : List UInt8 → Esc
  | [] => .trunc
  | [b] => if b.toNat = 92 then .trunc else .bad
  | b :: c :: r => if b.toNat = 92 ∧ c.toNat = 117 then (match quadR 56320 57343 4 0 r with
    | .ok m => .ok (65536 + (n - 55296) * 1024 + (m - 56320)) 12
    | .trunc => .trunc
    | .bad => .bad) else .bad
def uniP (r : List UInt8) : Esc := match firstR r with
  | .bad => .bad
  | .trunc => .trunc
  | .ok n => if 55296 ≤ n ∧ n ≤ 56319 then pairP n (r.drop 4) else .ok n 6
def escP : List UInt8 → Esc
  | [] => .trunc
  | c :: r => if c.toNat = 34 ∨ c.toNat = 92 ∨ c.toNat = 47 then .ok c.toNat 2
    else if c.toNat = 98 then .ok 8 2 else if c.toNat = 102 then .ok 12 2 else if c.toNat = 110 then .ok 10 2 else if c.toNat = 114 then .ok 13 2 else if c.toNat = 116 then .ok 9 2
    else if c.toNat = 117 then uniP r else .bad
/-- An element of a string. -/
inductive El where
  | quote
  | add (r n : Nat)
  | trunc
  | stop (e : Nat)
def elP : List UInt8 → El
  | [] => .trunc
  | b :: r => if b.toNat = 34 then .quote
    else if b.toNat = 92 then (match escP r with
      | .ok r n => .add r n
      | .trunc => .trunc
      | .bad => .stop 4)
    else if b.toNat < 32 then .stop 4
    else match dec (b :: r) with
      | some (r, n) => .add r n
      | none => .stop 6
/-- A string from the offset i on, out is read. -/
def strF (l : List UInt8) (k : Nat) : Nat → Nat → List UInt8 → Lx
  | 0, i, out => noX l.length 5
  | m + 1, i, out => match elP (l.drop i) with
    | .quote => if out.length ≤ 4096 then okX 4 k (i + 1) 0 0 ⟨out.toArray⟩ else noX k 2
    | .trunc => noX l.length 5
    | .stop e => noX i e
    | .add r n => strF l k m (i + n) (out ++ enc r)
def strP (l : List UInt8) (k : Nat) : Lx := strF l k (l.length - k) (k + 1) []
def lexN (l : List UInt8) (k : Nat) : Lx :=
  if k = l.length then okX 0 k k 0 0 ⟨#[]⟩
  else if signB (l[k]?.getD 0) = true then okX 1 k (k + 1) (byt l k) 0 ⟨#[]⟩
  else if letB (l[k]?.getD 0) = true then wordP l k
  else if byt l k = 45 ∨ digB (l[k]?.getD 0) = true then numP l k
  else if byt l k = 34 then strP l k
  else noX k 4
def lexP (l : List UInt8) (k : Int) : Lx := if k < 0 ∨ (l.length : Int) < k then noX 0 3 else lexN l (span blankB l k.toNat)
theorem firstP_cases {l : List UInt8} {k : Nat} : (byt l k = 45 ∧ firstP l k = k + 1) ∨ (byt l k ≠ 45 ∧ firstP l k = k) := by
  unfold firstP
  by_cases h : byt l k = 45
  · rw [if_pos h]; exact .inl ⟨h, rfl⟩
  · rw [if_neg h]; exact .inr ⟨h, rfl⟩
/-- How far an element reaches. -/
theorem quadR_len : ∀ {lo hi m n : Nat} {l : List UInt8} {x : Nat}, quadR lo hi m n l = .ok x → m ≤ l.length
  | lo, hi, 0, n, l, x, h => Nat.zero_le _
  | lo, hi, m + 1, n, [], x, h => by rw [quadR] at h; cases h
  | lo, hi, m + 1, n, b :: r, x, h => by
    rw [quadR] at h
    split at h
    · cases h
    · split at h
      · cases h
      · have := quadR_len h
        simp; omega
theorem quadA_len : ∀ {m n : Nat} {l : List UInt8} {x : Nat}, quadA m n l = .ok x → m ≤ l.length
  | 0, n, l, x, h => Nat.zero_le _
  | m + 1, n, [], x, h => by rw [quadA] at h; cases h
  | m + 1, n, b :: r, x, h => by
    rw [quadA] at h
    split at h
    · cases h
    · have := quadA_len h
      simp; omega
theorem quadR_range : ∀ {lo hi m n : Nat} {l : List UInt8} {x : Nat}, quadR lo hi m n l = .ok x → m ≠ 0 → lo ≤ x ∧ x ≤ hi
  | lo, hi, 0, n, l, x, h, h0 => absurd rfl h0
  | lo, hi, m + 1, n, [], x, h, _ => by rw [quadR] at h; cases h
  | lo, hi, m + 1, n, b :: r, x, h, _ => by
    rw [quadR] at h
    split at h
    · cases h
    · rename_i d hd
      split at h
      · cases h
      · rename_i hno
        cases m with
        | zero =>
          rw [quadR] at h
          injection h with h
          simp at hno
          omega
        | succ m => exact quadR_range h (by omega)
theorem firstR_ok {l : List UInt8} {x : Nat} (h : firstR l = .ok x) : quadA 4 0 l = .ok x ∧ 4 ≤ l.length ∧ x < 65536 ∧ ¬ (56320 ≤ x ∧ x ≤ 57343) := by
  unfold firstR at h
  cases hq : quadA 4 0 l with
  | bad => rw [hq] at h; cases h
  | trunc =>
    rw [hq] at h
    simp only [] at h
    (repeat' split at h) <;> cases h
  | ok n =>
    rw [hq] at h
    simp only [] at h
    split at h
    · cases h
    · rename_i hno
      injection h with h
      subst h
      have h2 := quadA_lo _ _ _ _ hq
      exact ⟨rfl, quadA_len hq, by omega, hno⟩
theorem pairP_ok {n : Nat} {l : List UInt8} {r m : Nat} (hn : 55296 ≤ n ∧ n ≤ 56319) (h : pairP n l = .ok r m) : m = 12 ∧ 6 ≤ l.length ∧ r ≤ 1114111 ∧ 65536 ≤ r := by
  match l, h with
  | [], h => cases h
  | [b], h =>
    rw [pairP] at h
    split at h <;> cases h
  | b :: c :: t, h =>
    rw [pairP] at h
    split at h
    · cases hq : quadR 56320 57343 4 0 t with
      | bad => rw [hq] at h; cases h
      | trunc => rw [hq] at h; cases h
      | ok x =>
        rw [hq] at h
        simp only [Esc.ok.injEq] at h
        have h1 := quadR_len hq
        have h2 := quadR_range hq (by omega)
        obtain ⟨h, rfl⟩ := h
        exact ⟨rfl, by simp; omega, by omega, by omega⟩
    · cases h
theorem cp_of {r : Nat} (h : r ≤ 1114111) (h2 : ¬ (55296 ≤ r ∧ r ≤ 57343)) : cp (r : Int) = true := by unfold cp; simp; omega
theorem uniP_ok {l : List UInt8} {r m : Nat} (h : uniP l = .ok r m) : 6 ≤ m ∧ m ≤ l.length + 2 ∧ cp (r : Int) = true := by
  unfold uniP at h
  cases hq : firstR l with
  | bad => rw [hq] at h; cases h
  | trunc => rw [hq] at h; cases h
  | ok n =>
    rw [hq] at h
    simp only [] at h
    obtain ⟨-, h1, h2, h3⟩ := firstR_ok hq
    split at h
    · rename_i hn
      obtain ⟨h4, h5, h6, h7⟩ := pairP_ok hn h
      rw [List.length_drop] at h5
      exact ⟨by omega, by omega, cp_of (by omega) (by omega)⟩
    · injection h with h4 h5
      subst h4; subst h5
      exact ⟨by omega, by omega, cp_of (by omega) (by omega)⟩
theorem escP_ok {l : List UInt8} {r m : Nat} (h : escP l = .ok r m) : 2 ≤ m ∧ m ≤ l.length + 1 ∧ cp (r : Int) = true := by
  match l, h with
  | [], h => cases h
  | c :: t, h =>
    rw [escP] at h
    split at h
    · injection h with h1 h2
      subst h1; subst h2
      exact ⟨by omega, by simp, cp_of (by omega) (by omega)⟩
    (repeat' split at h)
    all_goals first
      | (obtain ⟨h1, h2, h3⟩ := uniP_ok h; exact ⟨by omega, by simp; omega, h3⟩)
      | (injection h with h1 h2; subst h1; subst h2; exact ⟨by omega, by simp, by decide⟩)
      | cases h
/-- An element that adds takes at least one byte, and none behind the end. -/
theorem elP_add {l : List UInt8} {r n : Nat} (h : elP l = .add r n) : 1 ≤ n ∧ n ≤ l.length ∧ cp (r : Int) = true ∧ (enc r).length ≤ 4 := by
  match l, h with
  | [], h => cases h
  | b :: t, h =>
    rw [elP] at h
    split at h
    · cases h
    · split at h
      · cases hq : escP t with
        | bad => rw [hq] at h; cases h
        | trunc => rw [hq] at h; cases h
        | ok x y =>
          rw [hq] at h
          injection h with h1 h2
          subst h1; subst h2
          obtain ⟨h1, h2, h3⟩ := escP_ok hq
          exact ⟨by omega, by simp; omega, h3, (enc_len _).2⟩
      · split at h
        · cases h
        · cases hq : dec (b :: t) with
          | none => rw [hq] at h; cases h
          | some x =>
            obtain ⟨x, y⟩ := x
            rw [hq] at h
            injection h with h1 h2
            subst h1; subst h2
            obtain ⟨h1, h2, _, h4⟩ := dec_some_cp hq
            exact ⟨by omega, h4, h1, (enc_len _).2⟩
/-- What a scan of a string knows when it stands at the offset i and has read out. -/
def StrAt (l : List UInt8) (k i : Nat) (out : List UInt8) : Prop := k + 1 ≤ i ∧ i ≤ l.length ∧ out.length ≤ 4 * (i - k) ∧ ∃ m, l.length - i < m ∧ strP l k = strF l k m i out
theorem StrAt.start {l : List UInt8} {k : Nat} (h : k < l.length) : StrAt l k (k + 1) [] := ⟨Nat.le_refl _, h, by simp, l.length - k, by omega, rfl⟩
theorem StrAt.step {l : List UInt8} {k i : Nat} {out : List UInt8} (h : StrAt l k i out) : strP l k = match elP (l.drop i) with
    | .quote => if out.length ≤ 4096 then okX 4 k (i + 1) 0 0 ⟨out.toArray⟩ else noX k 2
    | .trunc => noX l.length 5
    | .stop e => noX i e
    | .add r n => strP l k := by
  obtain ⟨h1, h2, h3, m, h4, h5⟩ := h
  obtain ⟨m, rfl⟩ : ∃ x, m = x + 1 := ⟨m - 1, by omega⟩
  cases hq : elP (l.drop i) with
  | add r n => rfl
  | quote => rw [h5, strF, hq]
  | trunc => rw [h5, strF, hq]
  | stop e => rw [h5, strF, hq]
theorem StrAt.next {l : List UInt8} {k i : Nat} {out : List UInt8} (h : StrAt l k i out) {r n : Nat} (he : elP (l.drop i) = .add r n) : StrAt l k (i + n) (out ++ enc r) := by
  obtain ⟨h1, h2, h3, m, h4, h5⟩ := h
  obtain ⟨h6, h7, h8, h9⟩ := elP_add he
  rw [List.length_drop] at h7
  refine ⟨by omega, by omega, by rw [List.length_append]; omega, ?_⟩
  obtain ⟨m, rfl⟩ : ∃ x, m = x + 1 := ⟨m - 1, by omega⟩
  refine ⟨m, by omega, ?_⟩
  rw [h5, strF, he]
end Go.Proofs.YtfmpdcmedaiooaaGreatDoor
