/- The order of strings, plain. Nothing of the program is named here. Plain facts for the layer utf: the decoding of UTF-8 as functions on lists of bytes; bit operations on int. Nothing of the program is named here. What a valid value is, plain: as the program counts it. Nothing of the program is named here. What a valid value is, plain: as the reference counts it. Nothing of the program is named here. -/
import Derived.Lib.Bytealg
import Derived.Lib.Strings
import Derived.Laws.Cover1
import Derived.WalkKit
import Derived.Laws.BitsAllLaws
import Derived.Laws.BitsLemmas
import Derived.Test.YtgdnkankleoaoaaVal
set_option linter.unusedVariables false
set_option linter.unusedSimpArgs false
namespace Go.Proofs.Ytgdnkankleoaoaa
theorem cb_range : ∀ a b : List UInt8, Lib.compareBytes a b = -1 ∨ Lib.compareBytes a b = 0 ∨ Lib.compareBytes a b = 1
  | [], [] => by simp [Lib.compareBytes]
  | [], _ :: _ => by simp [Lib.compareBytes]
  | _ :: _, [] => by simp [Lib.compareBytes]
  | x :: a, y :: b => by
    rw [Lib.compareBytes]
    split
    · simp
    · split
      · simp
      · exact cb_range a b
theorem cb_zero : ∀ a b : List UInt8, Lib.compareBytes a b = 0 ↔ a = b
  | [], [] => by simp [Lib.compareBytes]
  | [], _ :: _ => by simp [Lib.compareBytes]
  | _ :: _, [] => by simp [Lib.compareBytes]
  | x :: a, y :: b => by
    rw [Lib.compareBytes]
    split
    · rename_i h
      simp
      rintro rfl
      exact absurd h (UInt8.lt_irrefl _)
    · rename_i h1
      split
      · rename_i h
        simp
        rintro rfl
        exact absurd h (UInt8.lt_irrefl _)
      · rename_i h2
        have : x = y := UInt8.le_antisymm (UInt8.not_lt.1 h2) (UInt8.not_lt.1 h1)
        subst this
        simp [cb_zero a b]
theorem cb_anti : ∀ a b : List UInt8, Lib.compareBytes b a = - Lib.compareBytes a b
  | [], [] => by simp [Lib.compareBytes]
  | [], _ :: _ => by simp [Lib.compareBytes]
  | _ :: _, [] => by simp [Lib.compareBytes]
  | x :: a, y :: b => by
    rw [Lib.compareBytes, Lib.compareBytes]
    by_cases h1 : x < y
    · have h2 : ¬ y < x := UInt8.not_lt.2 (UInt8.le_of_lt h1)
      simp [h1, h2]
    · by_cases h2 : y < x
      · simp [h1, h2]
      · simp [h1, h2, cb_anti a b]
theorem cb_less : ∀ a b : List UInt8, Op.bytesLess a b = decide (Lib.compareBytes a b < 0)
  | [], [] => by simp [Lib.compareBytes, Op.bytesLess]
  | [], _ :: _ => by simp [Lib.compareBytes, Op.bytesLess]
  | _ :: _, [] => by simp [Lib.compareBytes, Op.bytesLess]
  | x :: a, y :: b => by
    rw [Lib.compareBytes, Op.bytesLess, cb_less a b]
    by_cases h1 : x < y
    · simp [h1]
    · by_cases h2 : y < x
      · have : ¬ x = y := by rintro rfl; exact h1 h2
        simp [h1, h2, this]
      · have : x = y := UInt8.le_antisymm (UInt8.not_lt.1 h2) (UInt8.not_lt.1 h1)
        subst this
        simp
theorem cb_trans : ∀ a b c : List UInt8, Lib.compareBytes a b ≤ 0 → Lib.compareBytes b c ≤ 0 → Lib.compareBytes a c ≤ 0 ∧ (Lib.compareBytes a b < 0 ∨ Lib.compareBytes b c < 0 → Lib.compareBytes a c < 0)
  | [], [], [] => by simp [Lib.compareBytes]
  | [], [], _ :: _ => by simp [Lib.compareBytes]
  | [], _ :: _, [] => by simp [Lib.compareBytes]
  | [], _ :: _, _ :: _ => by simp [Lib.compareBytes]
  | _ :: _, [], _ => by simp [Lib.compareBytes]
  | _ :: _, _ :: _, [] => by simp [Lib.compareBytes]
  | x :: a, y :: b, z :: c => by
    have ih := cb_trans a b c
    rw [Lib.compareBytes, Lib.compareBytes, Lib.compareBytes]
    simp only [UInt8.lt_iff_toNat_lt]
    generalize Lib.compareBytes a b = p at *
    generalize Lib.compareBytes b c = q at *
    generalize Lib.compareBytes a c = r at *
    repeat' split
    all_goals omega
/-- The order of two strings: -1, 0 or 1. -/
def scmp (a b : ByteArray) : Int := Lib.compareBytes a.data.toList b.data.toList
theorem data_inj {a b : ByteArray} (h : a.data.toList = b.data.toList) : a = b := by
  obtain ⟨⟨x⟩⟩ := a
  obtain ⟨⟨y⟩⟩ := b
  simp at h
  subst h
  rfl
theorem scmp_range (a b : ByteArray) : scmp a b = -1 ∨ scmp a b = 0 ∨ scmp a b = 1 := cb_range _ _
theorem scmp_zero (a b : ByteArray) : scmp a b = 0 ↔ a = b := by
  unfold scmp
  rw [cb_zero]
  exact ⟨data_inj, fun h => by rw [h]⟩
theorem scmp_self (a : ByteArray) : scmp a a = 0 := (scmp_zero a a).2 rfl
theorem scmp_anti (a b : ByteArray) : scmp b a = - scmp a b := cb_anti _ _
theorem scmp_trans {a b c : ByteArray} (h : scmp a b ≤ 0) (k : scmp b c ≤ 0) : scmp a c ≤ 0 := (cb_trans _ _ _ h k).1
theorem scmp_lt {a b c : ByteArray} (h : scmp a b < 0) (k : scmp b c < 0) : scmp a c < 0 := (cb_trans _ _ _ (Int.le_of_lt h) (Int.le_of_lt k)).2 (.inl h)
theorem scmp_lt_le {a b c : ByteArray} (h : scmp a b < 0) (k : scmp b c ≤ 0) : scmp a c < 0 := (cb_trans _ _ _ (Int.le_of_lt h) k).2 (.inl h)
theorem less_eq (a b : ByteArray) : Op.bytesLess a.toList b.toList = decide (scmp a b < 0) := by rw [Lib.toList_data, Lib.toList_data, cb_less]; rfl
theorem same_eq (a b : ByteArray) : (a.toList == b.toList) = decide (scmp a b = 0) := by
  rw [Lib.toList_data, Lib.toList_data, Bool.eq_iff_iff]
  simp only [beq_iff_eq, decide_eq_true_eq, scmp_zero]
  exact ⟨data_inj, fun h => by rw [h]⟩
end Go.Proofs.Ytgdnkankleoaoaa
namespace Go.Proofs.Ytgdnkankleoaoaa
open Go.RowKit
theorem toNat_i64 {a : Nat} (h : a < 9223372036854775808) : (BitVec.ofInt 64 (a : Int)).toNat = a := by
  rw [BitVec.ofInt_natCast, BitVec.toNat_ofNat, Nat.mod_eq_of_lt (by omega)]
theorem and_i64 (a b : Nat) (ha : a < 9223372036854775808) (hb : b < 9223372036854775808) : bits .and .i64 (a : Int) (b : Int) = ((a &&& b : Nat) : Int) := by
  have hle : a &&& b ≤ a := Nat.and_le_left
  have h : bits .and .i64 (a : Int) (b : Int) = IntKind.i64.wrap ((BitVec.ofInt 64 (a : Int) &&& BitVec.ofInt 64 (b : Int)).toNat : Int) := rfl
  rw [h, BitVec.toNat_and, toNat_i64 ha, toNat_i64 hb, IntKind.wrap_i64]; omega
theorem or_i64 (a b : Nat) (ha : a < 9223372036854775808) (hb : b < 9223372036854775808) : bits .or .i64 (a : Int) (b : Int) = ((a ||| b : Nat) : Int) := by
  have hlt : a ||| b < 2 ^ 63 := Nat.or_lt_two_pow (by omega) (by omega)
  have h : bits .or .i64 (a : Int) (b : Int) = IntKind.i64.wrap ((BitVec.ofInt 64 (a : Int) ||| BitVec.ofInt 64 (b : Int)).toNat : Int) := rfl
  rw [h, BitVec.toNat_or, toNat_i64 ha, toNat_i64 hb, IntKind.wrap_i64]; omega
theorem and31 (a : Nat) (ha : a < 4294967296) : bits .and .i64 (a : Int) 31 = ((a % 32 : Nat) : Int) := by
  have h := and_i64 a 31 (by omega) (by omega)
  rw [nat_mask5] at h; exact h
theorem and15 (a : Nat) (ha : a < 4294967296) : bits .and .i64 (a : Int) 15 = ((a % 16 : Nat) : Int) := by
  have h := and_i64 a 15 (by omega) (by omega)
  rw [nat_mask4] at h; exact h
theorem and7 (a : Nat) (ha : a < 4294967296) : bits .and .i64 (a : Int) 7 = ((a % 8 : Nat) : Int) := by
  have h := and_i64 a 7 (by omega) (by omega)
  rw [nat_mask3] at h; exact h
theorem or_low (k a c : Nat) (hc : c < 2 ^ k) : 2 ^ k * a ||| c = 2 ^ k * a + c := (Nat.two_pow_add_eq_or_of_lt hc a).symm
theorem or64 (a c : Nat) (ha : a < 4294967296) (hc : c < 64) : bits .or .i64 ((a * 64 : Nat) : Int) (c : Int) = ((a * 64 + c : Nat) : Int) := by
  rw [or_i64 _ _ (by omega) (by omega)]
  have h := or_low 6 a c (by omega)
  rw [show a * 64 = 2 ^ 6 * a from by omega, h]
/-- Is a number a code point? -/
def cp (r : Int) : Bool := decide (0 ≤ r ∧ r ≤ 1114111 ∧ ¬ (55296 ≤ r ∧ r ≤ 57343))
/-- The bits of n bytes behind a first one. -/
def tl : Nat → Nat → List UInt8 → Option Nat
  | 0, acc, _ => some acc
  | _ + 1, _, [] => none
  | n + 1, acc, b :: r => if 128 ≤ b.toNat ∧ b.toNat ≤ 191 then tl n (acc * 64 + b.toNat % 64) r else none
def fin (n least : Nat) : Option Nat → Option (Nat × Nat)
  | none => none
  | some r => if r < least ∨ cp r = false then none else some (r, n + 1)
/-- The code point at the head of a list of bytes, and the length of its encoding. -/
def dec : List UInt8 → Option (Nat × Nat)
  | [] => none
  | b :: r =>
    if b.toNat < 128 then some (b.toNat, 1)
    else if b.toNat < 192 then none
    else if b.toNat < 224 then fin 1 128 (tl 1 (b.toNat % 32) r)
    else if b.toNat < 240 then fin 2 2048 (tl 2 (b.toNat % 16) r)
    else if b.toNat < 248 then fin 3 65536 (tl 3 (b.toNat % 8) r)
    else none
theorem dec_cons (b : UInt8) (r : List UInt8) : dec (b :: r) = if b.toNat < 128 then some (b.toNat, 1)
    else if b.toNat < 192 then none
    else if b.toNat < 224 then fin 1 128 (tl 1 (b.toNat % 32) r)
    else if b.toNat < 240 then fin 2 2048 (tl 2 (b.toNat % 16) r)
    else if b.toNat < 248 then fin 3 65536 (tl 3 (b.toNat % 8) r)
    else none := rfl
def decV : Option (Nat × Nat) → Value
  | none => .tuple #[.int .i64 0, .int .i64 0, .bool false]
  | some (r, n) => .tuple #[.int .i64 r, .int .i64 n, .bool true]
theorem tl_short (n acc : Nat) (l : List UInt8) (h : l.length < n) : tl n acc l = none := by
  induction n generalizing acc l with
  | zero => omega
  | succ n ih =>
    cases l with
    | nil => rfl
    | cons b r => unfold tl; split
                  · exact ih _ _ (by simp at h; omega)
                  · rfl
theorem tl_step (n acc : Nat) (l : List UInt8) (k : Nat) (hk : k < l.length) :
    tl (n + 1) acc (l.drop k) = if 128 ≤ l[k].toNat ∧ l[k].toNat ≤ 191 then tl n (acc * 64 + l[k].toNat % 64) (l.drop (k + 1)) else none := by
  rw [List.drop_eq_getElem_cons hk]; rfl
theorem dec_some_cp {l : List UInt8} {r n : Nat} (h : dec l = some (r, n)) : cp r = true ∧ 1 ≤ n ∧ n ≤ 4 ∧ n ≤ l.length := by
  have ft : ∀ (m least acc : Nat) (t : List UInt8), fin m least (tl m acc t) = some (r, n) → cp r = true ∧ n = m + 1 ∧ m ≤ t.length := by
    intro m least acc t h
    rcases Nat.lt_or_ge t.length m with hlt | hge
    · rw [tl_short m acc t hlt] at h; simp [fin] at h
    · cases hx : tl m acc t with
      | none => rw [hx] at h; simp [fin] at h
      | some v =>
        rw [hx] at h; unfold fin at h; simp only at h
        split at h
        · simp at h
        · rename_i hc
          injection h with h; injection h with h1 h2
          subst h1; subst h2
          refine ⟨?_, rfl, hge⟩
          cases hcp : cp v with
          | true => rfl
          | false => exact absurd (.inr hcp) hc
  cases l with
  | nil => simp [dec] at h
  | cons b t =>
    rw [dec_cons] at h
    split at h
    · injection h with h; injection h with h1 h2
      subst h1; subst h2
      refine ⟨?_, by omega, by omega, by simp⟩
      unfold cp; simp; omega
    · split at h
      · simp at h
      · split at h
        · obtain ⟨x, y, z⟩ := ft _ _ _ _ h; exact ⟨x, by omega, by omega, by simp; omega⟩
        · split at h
          · obtain ⟨x, y, z⟩ := ft _ _ _ _ h; exact ⟨x, by omega, by omega, by simp; omega⟩
          · split at h
            · obtain ⟨x, y, z⟩ := ft _ _ _ _ h; exact ⟨x, by omega, by omega, by simp; omega⟩
            · simp at h
/-- The number of bytes of an encoding. -/
def sz (r : Int) : Nat := if cp r = false then 0 else if r < 128 then 1 else if r < 2048 then 2 else if r < 65536 then 3 else 4
/-- All code points of a list of bytes. -/
def runesF : Nat → List UInt8 → Option (List Nat)
  | _, [] => some []
  | 0, _ :: _ => none
  | f + 1, b :: t => match dec (b :: t) with
    | none => none
    | some (r, n) => (runesF f ((b :: t).drop n)).map (r :: ·)
def runes (l : List UInt8) : Option (List Nat) := runesF l.length l
theorem runesF_enough (f g : Nat) (l : List UInt8) (hf : l.length ≤ f) (hg : l.length ≤ g) : runesF f l = runesF g l := by
  induction f generalizing g l with
  | zero =>
    cases l with
    | nil => unfold runesF; rfl
    | cons b t => simp at hf
  | succ f ih =>
    cases l with
    | nil => cases g <;> rfl
    | cons b t =>
      cases g with
      | zero => simp at hg
      | succ g =>
        unfold runesF
        cases h : dec (b :: t) with
        | none => rfl
        | some rn =>
          obtain ⟨r, n⟩ := rn
          have hn := (dec_some_cp h).2.1
          simp only []
          rw [ih g _ (by simp at hf ⊢; omega) (by simp at hg ⊢; omega)]
theorem runes_nil : runes [] = some [] := rfl
theorem runes_none {l : List UInt8} (hl : l ≠ []) (h : dec l = none) : runes l = none := by
  cases l with
  | nil => exact absurd rfl hl
  | cons b t => unfold runes runesF; simp only [List.length_cons]; rw [h]
theorem runes_some {l : List UInt8} {r n : Nat} (h : dec l = some (r, n)) : runes l = (runes (l.drop n)).map (r :: ·) := by
  have hn := (dec_some_cp h).2.1
  cases l with
  | nil => simp [dec] at h
  | cons b t =>
    show runesF (t.length + 1) (b :: t) = _
    unfold runesF
    rw [h]
    simp only []
    unfold runes
    rw [runesF_enough t.length ((b :: t).drop n).length _ (by simp; omega) (Nat.le_refl _)]
/-- What a scan of the whole list knows when it stands at offset k and has read xs. -/
def Scan (l : List UInt8) (k : Nat) (xs : List Nat) : Prop := k ≤ l.length ∧ xs.length ≤ k ∧ runes l = (runes (l.drop k)).map (xs ++ ·)
theorem Scan.start (l : List UInt8) : Scan l 0 [] := ⟨Nat.zero_le _, Nat.le_refl _, by simp⟩
theorem Scan.step {l : List UInt8} {k : Nat} {xs : List Nat} (h : Scan l k xs) {r n : Nat} (hd : dec (l.drop k) = some (r, n)) : Scan l (k + n) (xs ++ [r]) := by
  obtain ⟨_, hn, _, hl⟩ := dec_some_cp hd
  refine ⟨by rw [List.length_drop] at hl; have := h.1; omega, by have := h.2.1; simp; omega, ?_⟩
  rw [h.2.2, runes_some hd, List.drop_drop, Option.map_map]
  congr 1; funext x; simp
theorem Scan.fail {l : List UInt8} {k : Nat} {xs : List Nat} (h : Scan l k xs) (hk : k < l.length) (hd : dec (l.drop k) = none) : runes l = none := by
  rw [h.2.2, runes_none (by simp; omega) hd]; rfl
theorem Scan.done {l : List UInt8} {k : Nat} {xs : List Nat} (h : Scan l k xs) (hk : ¬ k < l.length) : runes l = some xs := by
  rw [h.2.2, List.drop_eq_nil_of_le (by omega), runes_nil]; simp
end Go.Proofs.Ytgdnkankleoaoaa
namespace Go.Proofs.Ytgdnkankleoaoaa
def okS (s : ByteArray) : Bool := (runes s.data.toList).isSome
/-- The fields that a kind does not use are zero, and there are as many keys as elements. -/
def fits (k n : Int) (s : ByteArray) (nk ne : Nat) : Bool :=
  if k = 0 ∨ k = 1 ∨ k = 2 then decide (n = 0) && decide (s.size = 0) && decide (nk = 0) && decide (ne = 0)
  else if k = 3 then decide (s.size = 0) && decide (nk = 0) && decide (ne = 0)
  else if k = 4 then decide (n = 0) && decide (nk = 0) && decide (ne = 0)
  else if k = 5 then decide (n = 0) && decide (s.size = 0) && decide (nk = 0)
  else if k = 6 then decide (n = 0) && decide (s.size = 0) && decide (nk = ne)
  else false
def strOk (s : ByteArray) (b : Int) : Bool := decide (s.size ≤ 4096) && (decide (b + s.size ≤ 65536) && okS s)
/-- The keys behind the key p; b: the bytes so far. -/
def keysP : List ByteArray → Option ByteArray → Int → Option Int
  | [], _, b => some b
  | x :: r, none, b => if strOk x b then keysP r (some x) (b + x.size) else none
  | x :: r, some p, b => if scmp p x < 0 then (if strOk x b then keysP r (some x) (b + x.size) else none) else none
mutual
/-- The program's count of a value that lies within lv arrays and objects: the depth, the nodes and the bytes so far. -/
def addP : V → Int → Int → Int → Int → Option (Int × Int × Int)
  | .mk k n s ks es, lv, d, m, b =>
    if 4096 < m + 1 ∨ fits k n s ks.length es.length = false ∨ strOk s b = false then none
    else if k ≠ 5 ∧ k ≠ 6 then some (d, m + 1, b + s.size)
    else if 32 < lv + 1 ∨ 1024 < es.length then none
    else match keysP ks none (b + s.size) with
      | none => none
      | some b' => addL es (lv + 1) (max d (lv + 1)) (m + 1) b'
def addL : List V → Int → Int → Int → Int → Option (Int × Int × Int)
  | [], _, d, m, b => some (d, m, b)
  | e :: es, lv, d, m, b => match addP e lv d m b with
    | none => none
    | some (d', m', b') => addL es lv d' m' b'
end
theorem keysP_bd {ks : List ByteArray} {p : Option ByteArray} {b r : Int} (hb : b ≤ 65536) (h : keysP ks p b = some r) : b ≤ r ∧ r ≤ 65536 := by
  induction ks generalizing p b with
  | nil => simp [keysP] at h; omega
  | cons x ks ih =>
    have key : strOk x b = true → keysP ks (some x) (b + x.size) = some r → b ≤ r ∧ r ≤ 65536 := by
      intro h1 h2
      simp [strOk] at h1
      have := ih (by omega) h2
      omega
    cases p with
    | none =>
      rw [keysP] at h
      split at h
      · exact key (by assumption) h
      · cases h
    | some p =>
      rw [keysP] at h
      split at h
      · split at h
        · exact key (by assumption) h
        · cases h
      · cases h
theorem addP_bd : ∀ v : V, ∀ lv d m b d' m' b' : Int, 0 ≤ lv → lv ≤ 32 → 0 ≤ d → d ≤ 32 → 0 ≤ m → m ≤ 4096 → 0 ≤ b → b ≤ 65536 → addP v lv d m b = some (d', m', b') →
    (0 ≤ d' ∧ d' ≤ 32) ∧ (m ≤ m' ∧ m' ≤ 4096) ∧ (b ≤ b' ∧ b' ≤ 65536) := by
  refine V.ind fun k n s ks es ih lv d m b d' m' b' l0 l1 d0 d1 m0 m1 b0 b1 h => ?_
  rw [addP] at h
  split at h
  · cases h
  · rename_i hc
    have h1 : m + 1 ≤ 4096 := by omega
    have h3 : strOk s b = true := by
      cases hs : strOk s b with
      | true => rfl
      | false => exact absurd (.inr (.inr hs)) hc
    simp [strOk] at h3
    split at h
    · simp at h
      obtain ⟨rfl, rfl, rfl⟩ := h
      omega
    · split at h
      · cases h
      · rename_i hl
        split at h
        · cases h
        · rename_i b2 hk
          have hb2 := keysP_bd (by omega) hk
          have key : ∀ (fs : List V), (∀ e ∈ fs, e ∈ es) → ∀ d m b : Int, 0 ≤ d → d ≤ 32 → 0 ≤ m → m ≤ 4096 → 0 ≤ b → b ≤ 65536 → addL fs (lv + 1) d m b = some (d', m', b') →
              (0 ≤ d' ∧ d' ≤ 32) ∧ (m ≤ m' ∧ m' ≤ 4096) ∧ (b ≤ b' ∧ b' ≤ 65536) := by
            intro fs
            induction fs with
            | nil =>
              intro _ d m b d0 d1 m0 m1 b0 b1 h
              simp [addL] at h
              omega
            | cons e fs ihf =>
              intro hin d m b d0 d1 m0 m1 b0 b1 h
              rw [addL] at h
              split at h
              · cases h
              · rename_i d2 m2 b2 he
                have h2 := ih e (hin e (by simp)) (lv + 1) d m b d2 m2 b2 (by omega) (by omega) d0 d1 m0 m1 b0 b1 he
                have h3 := ihf (fun x hx => hin x (by simp [hx])) d2 m2 b2 (by omega) (by omega) (by omega) (by omega) (by omega) (by omega) h
                omega
          have := key es (fun _ h => h) _ _ _ (by omega) (by omega) (by omega) (by omega) (by omega) (by omega) h
          omega
end Go.Proofs.Ytgdnkankleoaoaa
namespace Go.Proofs.Ytgdnkankleoaoaa
def keyOk (x : ByteArray) : Bool := decide (x.size ≤ 4096) && okS x
end Go.Proofs.Ytgdnkankleoaoaa
