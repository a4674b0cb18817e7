/- What the first token of a JSON text is, as functions on lists of bytes. Nothing of the program is named here. Numbers of JSON texts: what ParseInt makes of their digits, and what a loop over them knows. Nothing of the program is named here. Where the first token of a JSON text lies: plain. Nothing of the program is named here. -/
import Derived.Test.YtmfjpcmbdgbjjaaGreatDoorQ02
import Derived.Lib.ParseIntBTie
import Derived.Lib.AtoiAllCases
set_option linter.unusedVariables false
set_option linter.unusedSimpArgs false
namespace Go.Proofs.YtmfjpcmbdgbjjaaGreatDoor
open Go.RowKit
/-- A token, the offset, the error. -/
structure Lx where
  k : Nat
  f : Nat
  t : Nat
  b : Nat
  i : Int
  s : ByteArray
  p : Nat
  e : Nat
def Lx.val (x : Lx) : Value := .tuple #[.agg #[.int .i64 x.k, .int .i64 x.f, .int .i64 x.t, .int .u8 x.b, .int .i64 x.i, .string x.s], .int .i64 x.p, .int .i64 x.e]
def okX (k f t b : Nat) (i : Int) (s : ByteArray) : Lx := ⟨k, f, t, b, i, s, t, 0⟩
def noX (p e : Nat) : Lx := ⟨0, 0, 0, 0, 0, ⟨#[]⟩, p, e⟩
/-- The offset of the first byte from k on that is not of a kind. -/
def span (p : UInt8 → Bool) (l : List UInt8) (k : Nat) : Nat := k + ((l.drop k).takeWhile p).length
theorem span_in {p : UInt8 → Bool} {l : List UInt8} {k : Nat} (h : k < l.length) (hp : p l[k] = true) : span p l k = span p l (k + 1) := by
  unfold span
  rw [List.drop_eq_getElem_cons h, List.takeWhile_cons, if_pos hp]
  simp; omega
theorem span_no {p : UInt8 → Bool} {l : List UInt8} {k : Nat} (h : k < l.length) (hp : p l[k] = false) : span p l k = k := by
  unfold span
  rw [List.drop_eq_getElem_cons h, List.takeWhile_cons, if_neg (by simp [hp])]
  simp
theorem span_end {p : UInt8 → Bool} {l : List UInt8} {k : Nat} (h : l.length ≤ k) : span p l k = k := by
  unfold span
  rw [List.drop_eq_nil_of_le h]
  simp
theorem span_ge (p : UInt8 → Bool) (l : List UInt8) (k : Nat) : k ≤ span p l k := Nat.le_add_right _ _
theorem span_spec (p : UInt8 → Bool) (l : List UInt8) : ∀ (n k : Nat), l.length - k = n → k ≤ l.length → span p l k ≤ l.length ∧ (∀ i (h : i < l.length), k ≤ i → i < span p l k → p l[i] = true) ∧ (∀ h : span p l k < l.length, p l[span p l k] = false)
  | 0, k, hn, hk => by
    have h : l.length ≤ k := by omega
    rw [span_end h]
    exact ⟨hk, fun i h1 h2 h3 => by omega, fun h1 => by omega⟩
  | n + 1, k, hn, hk => by
    have h : k < l.length := by omega
    cases hp : p l[k] with
    | false =>
      rw [span_no h hp]
      exact ⟨hk, fun i h1 h2 h3 => by omega, fun _ => hp⟩
    | true =>
      rw [span_in h hp]
      obtain ⟨h1, h2, h3⟩ := span_spec p l n (k + 1) (by omega) (by omega)
      refine ⟨h1, fun i g1 g2 g3 => ?_, h3⟩
      rcases Nat.eq_or_lt_of_le g2 with rfl | g2
      · exact hp
      · exact h2 i g1 g2 g3
theorem span_le {p : UInt8 → Bool} {l : List UInt8} {k : Nat} (h : k ≤ l.length) : span p l k ≤ l.length := (span_spec p l _ k rfl h).1
theorem span_all {p : UInt8 → Bool} {l : List UInt8} {k i : Nat} (h : i < l.length) (h1 : k ≤ i) (h2 : i < span p l k) : p l[i] = true := (span_spec p l _ k rfl (by omega)).2.1 i h h1 h2
def blankB (b : UInt8) : Bool := decide (b.toNat = 32 ∨ b.toNat = 9 ∨ b.toNat = 10 ∨ b.toNat = 13)
def signB (b : UInt8) : Bool := decide (b.toNat = 91 ∨ b.toNat = 93 ∨ b.toNat = 123 ∨ b.toNat = 125 ∨ b.toNat = 44 ∨ b.toNat = 58)
def letB (b : UInt8) : Bool := decide (97 ≤ b.toNat ∧ b.toNat ≤ 122)
def digB (b : UInt8) : Bool := decide (48 ≤ b.toNat ∧ b.toNat ≤ 57)
def byt (l : List UInt8) (k : Nat) : Nat := (l[k]?.getD 0).toNat
theorem byt_at {l : List UInt8} {k : Nat} (h : k < l.length) : byt l k = l[k].toNat := by unfold byt; rw [List.getElem?_eq_getElem h]; rfl
theorem byt_no {l : List UInt8} {k : Nat} (h : l.length ≤ k) : byt l k = 0 := by unfold byt; rw [List.getElem?_eq_none h]; rfl
def sub (l : List UInt8) (i j : Nat) : List UInt8 := (l.drop i).take (j - i)
/-- A word. -/
def wordB (l : List UInt8) : Bool := l == [110, 117, 108, 108] || l == [116, 114, 117, 101] || l == [102, 97, 108, 115, 101]
def wordP (l : List UInt8) (k : Nat) : Lx := match wordB (sub l k (span letB l k)) with
  | true => okX 2 k (span letB l k) (byt l k) 0 ⟨#[]⟩
  | false => noX k 4
/-- A number. -/
def natF (a : Nat) (l : List UInt8) : Nat := l.foldl (fun n b => n * 10 + (b.toNat - 48)) a
def fitP (neg : Bool) (v : Nat) : Option Int := match neg with
  | true => if v ≤ 9223372036854775808 then some (-(v : Int)) else none
  | false => if v < 9223372036854775808 then some (v : Int) else none
def firstP (l : List UInt8) (k : Nat) : Nat := if byt l k = 45 then k + 1 else k
def moreB (l : List UInt8) (t : Nat) : Bool := decide (byt l t = 46 ∨ byt l t = 101 ∨ byt l t = 69)
def numP (l : List UInt8) (k : Nat) : Lx :=
  if span digB l (firstP l k) = firstP l k then noX (firstP l k) 4
  else if byt l (firstP l k) = 48 ∧ firstP l k + 1 < span digB l (firstP l k) then noX (firstP l k + 1) 4
  else if moreB l (span digB l (firstP l k)) = true then noX k 7
  else match fitP (decide (byt l k = 45)) (natF 0 (sub l (firstP l k) (span digB l (firstP l k)))) with
    | none => noX k 7
    | some v => okX 3 k (span digB l (firstP l k)) 0 v ⟨#[]⟩
/-- An element of a string that begins with a backslash: the bytes behind it. -/
inductive Esc where
  | ok (r n : Nat)
  | trunc
  | bad
deriving DecidableEq
def pairP (n : Nat) : List UInt8 → Esc
  | [] => .trunc
  | [b] => if b.toNat = 92 then .trunc else .bad
  | b :: c :: r => if b.toNat = 92 ∧ c.toNat = 117 then (match quadR 56320 57343 4 0 r with
    | .ok m => .ok (65536 + (n - 55296) * 1024 + (m - 56320)) 12
    | .trunc => .trunc
    | .bad => .bad) else .bad
def uniP (r : List UInt8) : Esc := match firstR r with
  | .bad => .bad
  | .trunc => .trunc
  | .ok n => if 55296 ≤ n ∧ n ≤ 56319 then pairP n (r.drop 4) else .ok n 6
def escP : List UInt8 → Esc
  | [] => .trunc
  | c :: r => if c.toNat = 34 ∨ c.toNat = 92 ∨ c.toNat = 47 then .ok c.toNat 2
    else if c.toNat = 98 then .ok 8 2 else if c.toNat = 102 then .ok 12 2 else if c.toNat = 110 then .ok 10 2 else if c.toNat = 114 then .ok 13 2 else if c.toNat = 116 then .ok 9 2
    else if c.toNat = 117 then uniP r else .bad
/-- An element of a string. -/
inductive El where
  | quote
  | add (r n : Nat)
  | trunc
  | stop (e : Nat)
def elP : List UInt8 → El
  | [] => .trunc
  | b :: r => if b.toNat = 34 then .quote
    else if b.toNat = 92 then (match escP r with
      | .ok r n => .add r n
      | .trunc => .trunc
      | .bad => .stop 4)
    else if b.toNat < 32 then .stop 4
    else match dec (b :: r) with
      | some (r, n) => .add r n
      | none => .stop 6
/-- A string from the offset i on, out is read. -/
def strF (l : List UInt8) (k : Nat) : Nat → Nat → List UInt8 → Lx
  | 0, i, out => noX l.length 5
  | m + 1, i, out => match elP (l.drop i) with
    | .quote => if out.length ≤ 4096 then okX 4 k (i + 1) 0 0 ⟨out.toArray⟩ else noX k 2
    | .trunc => noX l.length 5
    | .stop e => noX i e
    | .add r n => strF l k m (i + n) (out ++ enc r)
def strP (l : List UInt8) (k : Nat) : Lx := strF l k (l.length - k) (k + 1) []
def lexN (l : List UInt8) (k : Nat) : Lx :=
  if k = l.length then okX 0 k k 0 0 ⟨#[]⟩
  else if signB (l[k]?.getD 0) = true then okX 1 k (k + 1) (byt l k) 0 ⟨#[]⟩
  else if letB (l[k]?.getD 0) = true then wordP l k
  else if byt l k = 45 ∨ digB (l[k]?.getD 0) = true then numP l k
  else if byt l k = 34 then strP l k
  else noX k 4
def lexP (l : List UInt8) (k : Int) : Lx := if k < 0 ∨ (l.length : Int) < k then noX 0 3 else lexN l (span blankB l k.toNat)
theorem firstP_cases {l : List UInt8} {k : Nat} : (byt l k = 45 ∧ firstP l k = k + 1) ∨ (byt l k ≠ 45 ∧ firstP l k = k) := by
  unfold firstP
  by_cases h : byt l k = 45
  · rw [if_pos h]; exact .inl ⟨h, rfl⟩
  · rw [if_neg h]; exact .inr ⟨h, rfl⟩
/-- How far an element reaches. -/
theorem quadR_len : ∀ {lo hi m n : Nat} {l : List UInt8} {x : Nat}, quadR lo hi m n l = .ok x → m ≤ l.length
  | lo, hi, 0, n, l, x, h => Nat.zero_le _
  | lo, hi, m + 1, n, [], x, h => by rw [quadR] at h; cases h
  | lo, hi, m + 1, n, b :: r, x, h => by
    rw [quadR] at h
    split at h
    · cases h
    · split at h
      · cases h
      · have := quadR_len h
        simp; omega
theorem quadA_len : ∀ {m n : Nat} {l : List UInt8} {x : Nat}, quadA m n l = .ok x → m ≤ l.length
  | 0, n, l, x, h => Nat.zero_le _
  | m + 1, n, [], x, h => by rw [quadA] at h; cases h
  | m + 1, n, b :: r, x, h => by
    rw [quadA] at h
    split at h
    · cases h
    · have := quadA_len h
      simp; omega
theorem quadR_range : ∀ {lo hi m n : Nat} {l : List UInt8} {x : Nat}, quadR lo hi m n l = .ok x → m ≠ 0 → lo ≤ x ∧ x ≤ hi
  | lo, hi, 0, n, l, x, h, h0 => absurd rfl h0
  | lo, hi, m + 1, n, [], x, h, _ => by rw [quadR] at h; cases h
  | lo, hi, m + 1, n, b :: r, x, h, _ => by
    rw [quadR] at h
    split at h
    · cases h
    · rename_i d hd
      split at h
      · cases h
      · rename_i hno
        cases m with
        | zero =>
          rw [quadR] at h
          injection h with h
          simp at hno
          omega
        | succ m => exact quadR_range h (by omega)
theorem firstR_ok {l : List UInt8} {x : Nat} (h : firstR l = .ok x) : quadA 4 0 l = .ok x ∧ 4 ≤ l.length ∧ x < 65536 ∧ ¬ (56320 ≤ x ∧ x ≤ 57343) := by
  unfold firstR at h
  cases hq : quadA 4 0 l with
  | bad => rw [hq] at h; cases h
  | trunc =>
    rw [hq] at h
    simp only [] at h
    (repeat' split at h) <;> cases h
  | ok n =>
    rw [hq] at h
    simp only [] at h
    split at h
    · cases h
    · rename_i hno
      injection h with h
      subst h
      have h2 := quadA_lo _ _ _ _ hq
      exact ⟨rfl, quadA_len hq, by omega, hno⟩
theorem pairP_ok {n : Nat} {l : List UInt8} {r m : Nat} (hn : 55296 ≤ n ∧ n ≤ 56319) (h : pairP n l = .ok r m) : m = 12 ∧ 6 ≤ l.length ∧ r ≤ 1114111 ∧ 65536 ≤ r := by
  match l, h with
  | [], h => cases h
  | [b], h =>
    rw [pairP] at h
    split at h <;> cases h
  | b :: c :: t, h =>
    rw [pairP] at h
    split at h
    · cases hq : quadR 56320 57343 4 0 t with
      | bad => rw [hq] at h; cases h
      | trunc => rw [hq] at h; cases h
      | ok x =>
        rw [hq] at h
        simp only [Esc.ok.injEq] at h
        have h1 := quadR_len hq
        have h2 := quadR_range hq (by omega)
        obtain ⟨h, rfl⟩ := h
        exact ⟨rfl, by simp; omega, by omega, by omega⟩
    · cases h
theorem cp_of {r : Nat} (h : r ≤ 1114111) (h2 : ¬ (55296 ≤ r ∧ r ≤ 57343)) : cp (r : Int) = true := by unfold cp; simp; omega
theorem uniP_ok {l : List UInt8} {r m : Nat} (h : uniP l = .ok r m) : 6 ≤ m ∧ m ≤ l.length + 2 ∧ cp (r : Int) = true := by
  unfold uniP at h
  cases hq : firstR l with
  | bad => rw [hq] at h; cases h
  | trunc => rw [hq] at h; cases h
  | ok n =>
    rw [hq] at h
    simp only [] at h
    obtain ⟨-, h1, h2, h3⟩ := firstR_ok hq
    split at h
    · rename_i hn
      obtain ⟨h4, h5, h6, h7⟩ := pairP_ok hn h
      rw [List.length_drop] at h5
      exact ⟨by omega, by omega, cp_of (by omega) (by omega)⟩
    · injection h with h4 h5
      subst h4; subst h5
      exact ⟨by omega, by omega, cp_of (by omega) (by omega)⟩
theorem escP_ok {l : List UInt8} {r m : Nat} (h : escP l = .ok r m) : 2 ≤ m ∧ m ≤ l.length + 1 ∧ cp (r : Int) = true := by
  match l, h with
  | [], h => cases h
  | c :: t, h =>
    rw [escP] at h
    split at h
    · injection h with h1 h2
      subst h1; subst h2
      exact ⟨by omega, by simp, cp_of (by omega) (by omega)⟩
    (repeat' split at h)
    all_goals first
      | (obtain ⟨h1, h2, h3⟩ := uniP_ok h; exact ⟨by omega, by simp; omega, h3⟩)
      | (injection h with h1 h2; subst h1; subst h2; exact ⟨by omega, by simp, by decide⟩)
      | cases h
/-- An element that adds takes at least one byte, and none behind the end. -/
theorem elP_add {l : List UInt8} {r n : Nat} (h : elP l = .add r n) : 1 ≤ n ∧ n ≤ l.length ∧ cp (r : Int) = true ∧ (enc r).length ≤ 4 := by
  match l, h with
  | [], h => cases h
  | b :: t, h =>
    rw [elP] at h
    split at h
    · cases h
    · split at h
      · cases hq : escP t with
        | bad => rw [hq] at h; cases h
        | trunc => rw [hq] at h; cases h
        | ok x y =>
          rw [hq] at h
          injection h with h1 h2
          subst h1; subst h2
          obtain ⟨h1, h2, h3⟩ := escP_ok hq
          exact ⟨by omega, by simp; omega, h3, (enc_len _).2⟩
      · split at h
        · cases h
        · cases hq : dec (b :: t) with
          | none => rw [hq] at h; cases h
          | some x =>
            obtain ⟨x, y⟩ := x
            rw [hq] at h
            injection h with h1 h2
            subst h1; subst h2
            obtain ⟨h1, h2, _, h4⟩ := dec_some_cp hq
            exact ⟨by omega, h4, h1, (enc_len _).2⟩
/-- What a scan of a string knows when it stands at the offset i and has read out. -/
def StrAt (l : List UInt8) (k i : Nat) (out : List UInt8) : Prop := k + 1 ≤ i ∧ i ≤ l.length ∧ out.length ≤ 4 * (i - k) ∧ ∃ m, l.length - i < m ∧ strP l k = strF l k m i out
theorem StrAt.start {l : List UInt8} {k : Nat} (h : k < l.length) : StrAt l k (k + 1) [] := ⟨Nat.le_refl _, h, by simp, l.length - k, by omega, rfl⟩
theorem StrAt.step {l : List UInt8} {k i : Nat} {out : List UInt8} (h : StrAt l k i out) : strP l k = match elP (l.drop i) with
    | .quote => if out.length ≤ 4096 then okX 4 k (i + 1) 0 0 ⟨out.toArray⟩ else noX k 2
    | .trunc => noX l.length 5
    | .stop e => noX i e
    | .add r n => strP l k := by
  obtain ⟨h1, h2, h3, m, h4, h5⟩ := h
  obtain ⟨m, rfl⟩ : ∃ x, m = x + 1 := ⟨m - 1, by omega⟩
  cases hq : elP (l.drop i) with
  | add r n => rfl
  | quote => rw [h5, strF, hq]
  | trunc => rw [h5, strF, hq]
  | stop e => rw [h5, strF, hq]
theorem StrAt.next {l : List UInt8} {k i : Nat} {out : List UInt8} (h : StrAt l k i out) {r n : Nat} (he : elP (l.drop i) = .add r n) : StrAt l k (i + n) (out ++ enc r) := by
  obtain ⟨h1, h2, h3, m, h4, h5⟩ := h
  obtain ⟨h6, h7, h8, h9⟩ := elP_add he
  rw [List.length_drop] at h7
  refine ⟨by omega, by omega, by rw [List.length_append]; omega, ?_⟩
  obtain ⟨m, rfl⟩ : ∃ x, m = x + 1 := ⟨m - 1, by omega⟩
  refine ⟨m, by omega, ?_⟩
  rw [h5, strF, he]
end Go.Proofs.YtmfjpcmbdgbjjaaGreatDoor
namespace Go.Proofs.YtmfjpcmbdgbjjaaGreatDoor
theorem natF_cons (a : Nat) (b : UInt8) (l : List UInt8) : natF a (b :: l) = natF (a * 10 + (b.toNat - 48)) l := by unfold natF; rw [List.foldl_cons]
theorem natF_le : ∀ (l : List UInt8) (a : Nat), a ≤ natF a l
  | [], a => Nat.le_refl _
  | b :: l, a => by rw [natF_cons]; have := natF_le l (a * 10 + (b.toNat - 48)); omega
theorem natF_app (a : Nat) (l r : List UInt8) : natF a (l ++ r) = natF (natF a l) r := by unfold natF; rw [List.foldl_append]
theorem parse_digits : ∀ (l : List UInt8) (a : Nat), (∀ b ∈ l, digB b = true) → a < 18446744073709551616 → Lib.parseUint10 a l = if natF a l < 18446744073709551616 then .ok (natF a l) else .range
  | [], a, _, h => by unfold Lib.parseUint10; rw [show natF a [] = a from by unfold natF; rfl, if_pos h]
  | b :: l, a, hd, h => by
    have hb : 48 ≤ b.toNat ∧ b.toNat ≤ 57 := by have := hd b (by simp); unfold digB at this; simpa using this
    unfold Lib.parseUint10
    rw [if_pos hb, natF_cons]
    have hle := natF_le l (a * 10 + (b.toNat - 48))
    by_cases h1 : 1844674407370955162 ≤ a
    · rw [if_pos h1, if_neg (by omega)]
    · rw [if_neg h1]
      by_cases h2 : 18446744073709551616 ≤ a * 10 + (b.toNat - 48)
      · rw [if_pos h2, if_neg (by omega)]
      · rw [if_neg h2]
        exact parse_digits l _ (fun c hc => hd c (by simp [hc])) (by omega)
def endP : Option Int → Lib.NumEnd Int
  | some v => .ok v
  | none => .range
theorem atoi_digits {l : List UInt8} (hl : l ≠ []) (hd : ∀ b ∈ l, digB b = true) : Lib.atoiAll l = endP (fitP false (natF 0 l)) := by
  cases l with
  | nil => exact absurd rfl hl
  | cons c r =>
    have hb : 48 ≤ c.toNat ∧ c.toNat ≤ 57 := by have := hd c (by simp); unfold digB at this; simpa using this
    rw [Lib.atoiAll_plain c r (by omega) (by omega)]
    unfold Lib.parseMag
    rw [if_neg (by simp), parse_digits _ 0 hd (by omega)]
    unfold fitP
    simp only []
    by_cases h : natF 0 (c :: r) < 9223372036854775808
    · rw [if_pos h, if_pos (by omega)]
      simp only [Lib.signless]
      rw [if_neg (by omega)]; rfl
    · rw [if_neg h]
      split
      · simp only [Lib.signless]
        rw [if_pos (by omega)]; rfl
      · rfl
theorem atoi_minus {l : List UInt8} (hl : l ≠ []) (hd : ∀ b ∈ l, digB b = true) : Lib.atoiAll (45 :: l) = endP (fitP true (natF 0 l)) := by
  rw [Lib.atoiAll_minus]
  unfold Lib.parseMag
  rw [if_neg hl, parse_digits _ 0 hd (by omega)]
  unfold fitP
  simp only []
  by_cases h : natF 0 l ≤ 9223372036854775808
  · rw [if_pos h, if_pos (by omega)]
    simp only [Lib.signed]
    rw [if_neg (by omega)]; rfl
  · rw [if_neg h]
    split
    · simp only [Lib.signed]
      rw [if_pos (by omega)]; rfl
    · rfl
theorem sub_cons {l : List UInt8} {i j : Nat} (h : i < j) (hi : i < l.length) : sub l i j = l[i] :: sub l (i + 1) j := by
  unfold sub
  rw [List.drop_eq_getElem_cons hi, show j - i = (j - (i + 1)) + 1 from by omega, List.take_succ_cons]
theorem sub_mem {l : List UInt8} {i j : Nat} {b : UInt8} (h : b ∈ sub l i j) : ∃ x, ∃ hx : x < l.length, i ≤ x ∧ x < j ∧ l[x] = b := by
  unfold sub at h
  obtain ⟨n, hn, hb⟩ := List.mem_iff_getElem.1 h
  rw [List.getElem_take, List.getElem_drop] at hb
  simp only [List.length_take, List.length_drop] at hn
  exact ⟨i + n, by omega, by omega, by omega, hb⟩
theorem sub_len {l : List UInt8} {i j : Nat} (h : j ≤ l.length) : (sub l i j).length = j - i := by unfold sub; simp; omega
theorem sub_digits (l : List UInt8) (k : Nat) : ∀ b ∈ sub l k (span digB l k), digB b = true := fun b hb => by
  obtain ⟨x, hx, h1, h2, rfl⟩ := sub_mem hb
  exact span_all hx h1 h2
/-- What ParseInt makes of a number: '-' or not, and digits. -/
theorem atoi_sub {l : List UInt8} {k : Nat} (hk : k < l.length) (hne : span digB l (firstP l k) ≠ firstP l k) :
    Lib.atoiAll (sub l k (span digB l (firstP l k))) = endP (fitP (decide (byt l k = 45)) (natF 0 (sub l (firstP l k) (span digB l (firstP l k))))) := by
  have hge := span_ge digB l (firstP l k)
  have hdig := sub_digits l (firstP l k)
  rcases firstP_cases (l := l) (k := k) with ⟨h1, h2⟩ | ⟨h1, h2⟩
  · rw [h2] at hge hdig hne ⊢
    have hle : span digB l (k + 1) ≤ l.length := span_le (by omega)
    have hc : l[k] = 45 := by rw [byt_at hk] at h1; exact UInt8.toNat_inj.1 h1
    rw [sub_cons (by omega) hk, hc, decide_eq_true h1]
    exact atoi_minus (by intro h; have := congrArg List.length h; rw [sub_len hle] at this; simp at this; omega) hdig
  · rw [h2] at hge hdig hne ⊢
    have hle : span digB l k ≤ l.length := span_le (by omega)
    rw [decide_eq_false h1]
    exact atoi_digits (by intro h; have := congrArg List.length h; rw [sub_len hle] at this; simp at this; omega) hdig
end Go.Proofs.YtmfjpcmbdgbjjaaGreatDoor
namespace Go.Proofs.YtmfjpcmbdgbjjaaGreatDoor
/-- A token that was found stands from k on, and takes a byte at least, or is the end. -/
def Stands (L k : Nat) (x : Lx) : Prop := x.f = k ∧ x.p = x.t ∧ x.t ≤ L ∧ ((x.k = 0 ∧ k = L ∧ x.t = L) ∨ (x.k ≠ 0 ∧ k < x.t))
theorem noX_e {p e : Nat} (he : e ≠ 0) {C : Prop} (h : (noX p e).e = 0) : C := absurd h he
theorem elP_stop {l : List UInt8} {e : Nat} (h : elP l = .stop e) : e = 4 ∨ e = 6 := by
  match l, h with
  | [], h => cases h
  | b :: t, h =>
    rw [elP] at h
    split at h
    · cases h
    · split at h
      · cases hq : escP t with
        | bad => rw [hq] at h; injection h with h; exact .inl h.symm
        | trunc => rw [hq] at h; cases h
        | ok x y => rw [hq] at h; cases h
      · split at h
        · injection h with h; exact .inl h.symm
        · cases hq : dec (b :: t) with
          | none => rw [hq] at h; injection h with h; exact .inr h.symm
          | some x => obtain ⟨x, y⟩ := x; rw [hq] at h; cases h
theorem strF_ok (l : List UInt8) (k : Nat) : ∀ (m i : Nat) (out : List UInt8), k < i → i ≤ l.length → (strF l k m i out).e = 0 → Stands l.length k (strF l k m i out)
  | 0, i, out, h1, h2, h => noX_e (by omega) h
  | m + 1, i, out, h1, h2, h => by
    rw [strF] at h ⊢
    cases hq : elP (l.drop i) with
    | quote =>
      rw [hq] at h
      simp only [] at h ⊢
      have hi : i < l.length := by
        rcases Nat.lt_or_ge i l.length with h3 | h3
        · exact h3
        · rw [List.drop_eq_nil_of_le h3] at hq; cases hq
      split at h
      · rename_i ho
        rw [if_pos ho]
        exact ⟨rfl, rfl, hi, .inr ⟨Nat.succ_ne_zero 3, by show k < i + 1; omega⟩⟩
      · exact noX_e (by omega) h
    | trunc => rw [hq] at h; exact noX_e (by omega) h
    | stop e =>
      rw [hq] at h
      have := elP_stop hq
      exact noX_e (by omega) h
    | add r n =>
      rw [hq] at h
      simp only [] at h ⊢
      obtain ⟨h3, h4, -, -⟩ := elP_add hq
      rw [List.length_drop] at h4
      exact strF_ok l k m _ _ (by omega) (by omega) h
theorem lexN_ok {l : List UInt8} {k : Nat} (hk : k ≤ l.length) (h : (lexN l k).e = 0) : Stands l.length k (lexN l k) := by
  unfold lexN at h ⊢
  by_cases h0 : k = l.length
  · rw [if_pos h0]
    exact ⟨rfl, rfl, hk, .inl ⟨rfl, h0, h0⟩⟩
  · have hlt : k < l.length := by omega
    have hgd : l[k]?.getD 0 = l[k] := by rw [List.getElem?_eq_getElem hlt]; rfl
    rw [if_neg h0] at h ⊢
    split at h
    · rename_i h1
      rw [if_pos h1]
      exact ⟨rfl, rfl, hlt, .inr ⟨Nat.succ_ne_zero 0, Nat.lt_succ_self k⟩⟩
    · rename_i h1
      rw [if_neg h1]
      split at h
      · rename_i h2
        rw [if_pos h2]
        unfold wordP at h ⊢
        split at h
        · rename_i hw
          refine ⟨rfl, rfl, span_le hk, .inr ⟨Nat.succ_ne_zero 1, ?_⟩⟩
          show k < span letB l k
          rw [span_in hlt (by rw [← hgd]; exact h2)]
          exact span_ge _ _ _
        · exact noX_e (by omega) h
      · rename_i h2
        rw [if_neg h2]
        split at h
        · rename_i h3
          rw [if_pos h3]
          unfold numP at h ⊢
          split at h
          · exact noX_e (by omega) h
          · rename_i h4
            rw [if_neg h4]
            split at h
            · exact noX_e (by omega) h
            · rename_i h5
              rw [if_neg h5]
              split at h
              · exact noX_e (by omega) h
              · rename_i h6
                rw [if_neg h6]
                have hge := span_ge digB l (firstP l k)
                have hf : k ≤ firstP l k ∧ firstP l k ≤ l.length := by rcases firstP_cases (l := l) (k := k) with ⟨_, h⟩ | ⟨_, h⟩ <;> omega
                split at h
                · exact noX_e (by omega) h
                · rename_i v hv
                  exact ⟨rfl, rfl, span_le hf.2, .inr ⟨Nat.succ_ne_zero 2, by show k < span digB l (firstP l k); omega⟩⟩
        · rename_i h3
          rw [if_neg h3]
          split at h
          · rename_i h4
            rw [if_pos h4]
            exact strF_ok l k _ _ _ (by omega) (by omega) h
          · exact noX_e (by omega) h
/-- The token that is found from the offset k on. -/
theorem lexP_ok {l : List UInt8} {k : Nat} (hk : k ≤ l.length) (h : (lexP l k).e = 0) : k ≤ (lexP l k).f ∧ Stands l.length (lexP l k).f (lexP l k) ∧ ∀ i (hi : i < l.length), k ≤ i → i < (lexP l k).f → blankB l[i] = true := by
  unfold lexP at h ⊢
  rw [if_neg (by omega)] at h ⊢
  rw [Int.toNat_natCast] at h ⊢
  have hle : span blankB l k ≤ l.length := span_le hk
  have hs := lexN_ok hle h
  rw [hs.1]
  exact ⟨span_ge _ _ _, hs, fun i hi h1 h2 => span_all hi h1 h2⟩
end Go.Proofs.YtmfjpcmbdgbjjaaGreatDoor
