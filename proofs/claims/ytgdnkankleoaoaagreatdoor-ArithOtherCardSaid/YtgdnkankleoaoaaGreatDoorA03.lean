/- The order of values is total, antisymmetric and transitive; plain. Plain facts for the layer utf: the decoding of UTF-8 as functions on lists of bytes; bit operations on int. Nothing of the program is named here. What a valid value is, plain: as the program counts it. Nothing of the program is named here. A block of the call's own that is known whole, and worlds that part from one another in it and in new blocks alone. Nothing of the program is named here. -/
import Derived.Test.YtgdnkankleoaoaaGreatDoorA02
import Derived.WalkKit
import Derived.Laws.BitsAllLaws
import Derived.Laws.BitsLemmas
import Derived.Test.YtgdnkankleoaoaaGreatDoorA01
import Derived.OwnWalk
set_option linter.unusedVariables false
set_option linter.unusedSimpArgs false
namespace Go.Proofs.YtgdnkankleoaoaaGreatDoor
theorem icmp_anti (x y : Int) : icmp y x = - icmp x y := by unfold icmp; (repeat' split) <;> omega
/-- Three results of one order: of a and b, of b and c, of a and c. -/
def Tr (x y z : Int) : Prop := (x ≤ 0 → y ≤ 0 → z ≤ 0) ∧ (x ≤ 0 → y ≤ 0 → (x < 0 ∨ y < 0) → z < 0) ∧ (x = 0 → y = 0 → z = 0)
theorem tr_icmp (a b c : Int) : Tr (icmp a b) (icmp b c) (icmp a c) := by unfold Tr icmp; (repeat' split) <;> omega
theorem tr_scmp (a b c : ByteArray) : Tr (scmp a b) (scmp b c) (scmp a c) :=
  ⟨scmp_trans, fun h k o => (cb_trans _ _ _ h k).2 o, fun h k => by rw [scmp_zero] at *; exact h.trans k⟩
theorem tr_lex {x1 x2 x3 y1 y2 y3 : Int} (h : Tr x1 x2 x3) (k : Tr y1 y2 y3) : Tr (if x1 = 0 then y1 else x1) (if x2 = 0 then y2 else x2) (if x3 = 0 then y3 else x3) := by
  obtain ⟨h1, h2, h3⟩ := h
  obtain ⟨k1, k2, k3⟩ := k
  unfold Tr
  (repeat' split) <;> omega
theorem anti_lex {x x' y y' : Int} (h : x' = -x) (k : y' = -y) : (if x' = 0 then y' else x') = - (if x = 0 then y else x) := by
  subst h; subst k
  (repeat' split) <;> omega
theorem kcmp_anti : ∀ a b : List ByteArray, kcmp b a = - kcmp a b
  | [], [] => by simp [kcmp]
  | [], _ :: _ => by simp [kcmp]
  | _ :: _, [] => by simp [kcmp]
  | x :: a, y :: b => by rw [kcmp, kcmp]; exact anti_lex (scmp_anti x y) (kcmp_anti a b)
theorem kcmp_zero : ∀ a b : List ByteArray, kcmp a b = 0 ↔ a = b
  | [], [] => by simp [kcmp]
  | [], _ :: _ => by simp [kcmp]
  | _ :: _, [] => by simp [kcmp]
  | x :: a, y :: b => by
    rw [kcmp]
    have h1 := scmp_zero x y
    have h2 := kcmp_zero a b
    by_cases h : scmp x y = 0
    · rw [if_pos h, h2, List.cons.injEq]
      exact ⟨fun k => ⟨h1.1 h, k⟩, fun k => k.2⟩
    · rw [if_neg h, List.cons.injEq]
      exact ⟨fun k => absurd k h, fun k => absurd (h1.2 k.1) h⟩
theorem tr_kcmp : ∀ a b c : List ByteArray, Tr (kcmp a b) (kcmp b c) (kcmp a c)
  | [], [], [] => by simp [kcmp, Tr]
  | [], [], _ :: _ => by simp [kcmp, Tr]
  | [], _ :: _, [] => by simp [kcmp, Tr]
  | [], _ :: _, _ :: _ => by simp [kcmp, Tr]
  | _ :: _, [], [] => by simp [kcmp, Tr]
  | _ :: _, [], _ :: _ => by simp [kcmp, Tr]
  | _ :: _, _ :: _, [] => by simp [kcmp, Tr]
  | x :: a, y :: b, z :: c => by rw [kcmp, kcmp, kcmp]; exact tr_lex (tr_scmp x y z) (tr_kcmp a b c)
theorem vcmp_lex (k n : Int) (s : ByteArray) (ks : List ByteArray) (es : List V) (k' n' : Int) (s' : ByteArray) (ks' : List ByteArray) (es' : List V) :
    vcmp (.mk k n s ks es) (.mk k' n' s' ks' es') = if icmp k k' = 0 then (if icmp n n' = 0 then (if scmp s s' = 0 then (if kcmp ks ks' = 0 then vcmpL es es' else kcmp ks ks') else scmp s s') else icmp n n') else icmp k k' := by rw [vcmp]
theorem vcmpL_lex (e f : V) (es fs : List V) : vcmpL (e :: es) (f :: fs) = if vcmp e f = 0 then vcmpL es fs else vcmp e f := by rw [vcmpL]
theorem vcmpL_nn : vcmpL [] [] = 0 := by rw [vcmpL]
theorem vcmpL_nc (f : V) (fs : List V) : vcmpL [] (f :: fs) = -1 := by rw [vcmpL]
theorem vcmpL_cn (f : V) (fs : List V) : vcmpL (f :: fs) [] = 1 := by rw [vcmpL]
theorem vcmp_anti : ∀ v u : V, vcmp u v = - vcmp v u := by
  refine V.ind fun k n s ks es ih u => ?_
  obtain ⟨k', n', s', ks', es'⟩ := u
  rw [vcmp_lex, vcmp_lex]
  refine anti_lex (icmp_anti _ _) (anti_lex (icmp_anti _ _) (anti_lex (scmp_anti _ _) (anti_lex (kcmp_anti _ _) ?_)))
  clear ks ks' s s' k k' n n'
  induction es generalizing es' with
  | nil =>
    cases es' with
    | nil => rw [vcmpL_nn]; rfl
    | cons f fs => rw [vcmpL_nc, vcmpL_cn]; rfl
  | cons e es ihl =>
    cases es' with
    | nil => rw [vcmpL_cn, vcmpL_nc]
    | cons f fs =>
      rw [vcmpL_lex, vcmpL_lex]
      exact anti_lex (ih e (by simp) f) (ihl (fun x hx => ih x (by simp [hx])) fs)
theorem vcmp_tr : ∀ v u t : V, Tr (vcmp v u) (vcmp u t) (vcmp v t) := by
  refine V.ind fun k n s ks es ih u t => ?_
  obtain ⟨k', n', s', ks', es'⟩ := u
  obtain ⟨k2, n2, s2, ks2, es2⟩ := t
  rw [vcmp_lex, vcmp_lex, vcmp_lex]
  refine tr_lex (tr_icmp _ _ _) (tr_lex (tr_icmp _ _ _) (tr_lex (tr_scmp _ _ _) (tr_lex (tr_kcmp _ _ _) ?_)))
  clear ks ks' s s' k k' n n' ks2 s2 k2 n2
  induction es generalizing es' es2 with
  | nil =>
    cases es' with
    | nil => rw [vcmpL_nn]; cases es2 with
      | nil => rw [vcmpL_nn]; simp [Tr]
      | cons g gs => rw [vcmpL_nc]; simp [Tr]
    | cons f fs => rw [vcmpL_nc]; cases es2 with
      | nil => rw [vcmpL_nn, vcmpL_cn]; simp [Tr]
      | cons g gs => rw [vcmpL_nc]; simp [Tr]
  | cons e es ihl =>
    cases es' with
    | nil => rw [vcmpL_cn]; simp [Tr]
    | cons f fs => cases es2 with
      | nil => rw [vcmpL_cn]; simp [Tr]
      | cons g gs =>
        rw [vcmpL_lex, vcmpL_lex, vcmpL_lex]
        exact tr_lex (ih e (by simp) f g) (ihl (fun x hx => ih x (by simp [hx])) fs gs)
theorem vcmp_zero : ∀ v u : V, vcmp v u = 0 ↔ v = u := by
  refine V.ind fun k n s ks es ih u => ?_
  obtain ⟨k', n', s', ks', es'⟩ := u
  have hL : vcmpL es es' = 0 ↔ es = es' := by
    clear ks ks' s s' k k' n n'
    induction es generalizing es' with
    | nil =>
      cases es' with
      | nil => rw [vcmpL_nn]; simp
      | cons f fs => rw [vcmpL_nc]; simp
    | cons e es ihl =>
      cases es' with
      | nil => rw [vcmpL_cn]; simp
      | cons f fs =>
        rw [vcmpL_lex]
        have h1 := ih e (by simp) f
        have h2 := ihl (fun x hx => ih x (by simp [hx])) fs
        by_cases h : vcmp e f = 0
        · rw [if_pos h, h2, List.cons.injEq]
          exact ⟨fun k => ⟨h1.1 h, k⟩, fun k => k.2⟩
        · rw [if_neg h, List.cons.injEq]
          exact ⟨fun k => absurd k h, fun k => absurd (h1.2 k.1) h⟩
  rw [vcmp_lex, V.mk.injEq, ← hL, ← kcmp_zero ks ks', ← scmp_zero s s', ← icmp_zero (x := k) (y := k'), ← icmp_zero (x := n) (y := n')]
  generalize icmp k k' = a
  generalize icmp n n' = b
  generalize scmp s s' = c
  generalize kcmp ks ks' = d
  generalize vcmpL es es' = f
  by_cases h1 : a = 0 <;> by_cases h2 : b = 0 <;> by_cases h3 : c = 0 <;> by_cases h4 : d = 0 <;> simp [h1, h2, h3, h4]
end Go.Proofs.YtgdnkankleoaoaaGreatDoor
namespace Go.Proofs.YtgdnkankleoaoaaGreatDoor
open Go.RowKit
theorem toNat_i64 {a : Nat} (h : a < 9223372036854775808) : (BitVec.ofInt 64 (a : Int)).toNat = a := by
  rw [BitVec.ofInt_natCast, BitVec.toNat_ofNat, Nat.mod_eq_of_lt (by omega)]
theorem and_i64 (a b : Nat) (ha : a < 9223372036854775808) (hb : b < 9223372036854775808) : bits .and .i64 (a : Int) (b : Int) = ((a &&& b : Nat) : Int) := by
  have hle : a &&& b ≤ a := Nat.and_le_left
  have h : bits .and .i64 (a : Int) (b : Int) = IntKind.i64.wrap ((BitVec.ofInt 64 (a : Int) &&& BitVec.ofInt 64 (b : Int)).toNat : Int) := rfl
  rw [h, BitVec.toNat_and, toNat_i64 ha, toNat_i64 hb, IntKind.wrap_i64]; omega
theorem or_i64 (a b : Nat) (ha : a < 9223372036854775808) (hb : b < 9223372036854775808) : bits .or .i64 (a : Int) (b : Int) = ((a ||| b : Nat) : Int) := by
  have hlt : a ||| b < 2 ^ 63 := Nat.or_lt_two_pow (by omega) (by omega)
  have h : bits .or .i64 (a : Int) (b : Int) = IntKind.i64.wrap ((BitVec.ofInt 64 (a : Int) ||| BitVec.ofInt 64 (b : Int)).toNat : Int) := rfl
  rw [h, BitVec.toNat_or, toNat_i64 ha, toNat_i64 hb, IntKind.wrap_i64]; omega
theorem and63 (a : Nat) (ha : a < 4294967296) : bits .and .i64 (a : Int) 63 = ((a % 64 : Nat) : Int) := by
  have h := and_i64 a 63 (by omega) (by omega)
  rw [nat_mask6] at h; exact h
theorem and31 (a : Nat) (ha : a < 4294967296) : bits .and .i64 (a : Int) 31 = ((a % 32 : Nat) : Int) := by
  have h := and_i64 a 31 (by omega) (by omega)
  rw [nat_mask5] at h; exact h
theorem and15 (a : Nat) (ha : a < 4294967296) : bits .and .i64 (a : Int) 15 = ((a % 16 : Nat) : Int) := by
  have h := and_i64 a 15 (by omega) (by omega)
  rw [nat_mask4] at h; exact h
theorem and7 (a : Nat) (ha : a < 4294967296) : bits .and .i64 (a : Int) 7 = ((a % 8 : Nat) : Int) := by
  have h := and_i64 a 7 (by omega) (by omega)
  rw [nat_mask3] at h; exact h
theorem or_low (k a c : Nat) (hc : c < 2 ^ k) : 2 ^ k * a ||| c = 2 ^ k * a + c := (Nat.two_pow_add_eq_or_of_lt hc a).symm
theorem or64 (a c : Nat) (ha : a < 4294967296) (hc : c < 64) : bits .or .i64 ((a * 64 : Nat) : Int) (c : Int) = ((a * 64 + c : Nat) : Int) := by
  rw [or_i64 _ _ (by omega) (by omega)]
  have h := or_low 6 a c (by omega)
  rw [show a * 64 = 2 ^ 6 * a from by omega, h]
theorem i64or (k a x : Nat) (hk : k ≤ 8) (ha : a < 256) (hx : x < 2 ^ k) : bits .or .i64 ((2 ^ k * a : Nat) : Int) (x : Int) = ((2 ^ k * a + x : Nat) : Int) := by
  have h2 : 2 ^ k ≤ 2 ^ 8 := Nat.pow_le_pow_right (by omega) hk
  have h3 : 2 ^ k * a ≤ 2 ^ 8 * 256 := Nat.mul_le_mul h2 (by omega)
  rw [or_i64 _ _ (by omega) (by omega), or_low k a x hx]
/-- Is a number a code point? -/
def cp (r : Int) : Bool := decide (0 ≤ r ∧ r ≤ 1114111 ∧ ¬ (55296 ≤ r ∧ r ≤ 57343))
/-- The bits of n bytes behind a first one. -/
def tl : Nat → Nat → List UInt8 → Option Nat
  | 0, acc, _ => some acc
  | _ + 1, _, [] => none
  | n + 1, acc, b :: r => if 128 ≤ b.toNat ∧ b.toNat ≤ 191 then tl n (acc * 64 + b.toNat % 64) r else none
def fin (n least : Nat) : Option Nat → Option (Nat × Nat)
  | none => none
  | some r => if r < least ∨ cp r = false then none else some (r, n + 1)
/-- The code point at the head of a list of bytes, and the length of its encoding. -/
def dec : List UInt8 → Option (Nat × Nat)
  | [] => none
  | b :: r =>
    if b.toNat < 128 then some (b.toNat, 1)
    else if b.toNat < 192 then none
    else if b.toNat < 224 then fin 1 128 (tl 1 (b.toNat % 32) r)
    else if b.toNat < 240 then fin 2 2048 (tl 2 (b.toNat % 16) r)
    else if b.toNat < 248 then fin 3 65536 (tl 3 (b.toNat % 8) r)
    else none
theorem dec_cons (b : UInt8) (r : List UInt8) : dec (b :: r) = if b.toNat < 128 then some (b.toNat, 1)
    else if b.toNat < 192 then none
    else if b.toNat < 224 then fin 1 128 (tl 1 (b.toNat % 32) r)
    else if b.toNat < 240 then fin 2 2048 (tl 2 (b.toNat % 16) r)
    else if b.toNat < 248 then fin 3 65536 (tl 3 (b.toNat % 8) r)
    else none := rfl
def decV : Option (Nat × Nat) → Value
  | none => .tuple #[.int .i64 0, .int .i64 0, .bool false]
  | some (r, n) => .tuple #[.int .i64 r, .int .i64 n, .bool true]
theorem tl_short (n acc : Nat) (l : List UInt8) (h : l.length < n) : tl n acc l = none := by
  induction n generalizing acc l with
  | zero => omega
  | succ n ih =>
    cases l with
    | nil => rfl
    | cons b r => unfold tl; split
                  · exact ih _ _ (by simp at h; omega)
                  · rfl
theorem tl_step (n acc : Nat) (l : List UInt8) (k : Nat) (hk : k < l.length) :
    tl (n + 1) acc (l.drop k) = if 128 ≤ l[k].toNat ∧ l[k].toNat ≤ 191 then tl n (acc * 64 + l[k].toNat % 64) (l.drop (k + 1)) else none := by
  rw [List.drop_eq_getElem_cons hk]; rfl
theorem tl_bound (n acc : Nat) (l : List UInt8) (r : Nat) (h : tl n acc l = some r) : r < (acc + 1) * 64 ^ n := by
  induction n generalizing acc l with
  | zero => simp [tl] at h; omega
  | succ n ih =>
    cases l with
    | nil => simp [tl] at h
    | cons b t =>
      unfold tl at h
      split at h
      · have := ih _ _ h
        have hb : b.toNat % 64 < 64 := by omega
        have h1 : (acc * 64 + b.toNat % 64 + 1) * 64 ^ n ≤ ((acc + 1) * 64) * 64 ^ n := Nat.mul_le_mul_right _ (by omega)
        rw [Nat.pow_succ, Nat.mul_comm (64 ^ n) 64, ← Nat.mul_assoc]; omega
      · simp at h
theorem dec_some_cp {l : List UInt8} {r n : Nat} (h : dec l = some (r, n)) : cp r = true ∧ 1 ≤ n ∧ n ≤ 4 ∧ n ≤ l.length := by
  have ft : ∀ (m least acc : Nat) (t : List UInt8), fin m least (tl m acc t) = some (r, n) → cp r = true ∧ n = m + 1 ∧ m ≤ t.length := by
    intro m least acc t h
    rcases Nat.lt_or_ge t.length m with hlt | hge
    · rw [tl_short m acc t hlt] at h; simp [fin] at h
    · cases hx : tl m acc t with
      | none => rw [hx] at h; simp [fin] at h
      | some v =>
        rw [hx] at h; unfold fin at h; simp only at h
        split at h
        · simp at h
        · rename_i hc
          injection h with h; injection h with h1 h2
          subst h1; subst h2
          refine ⟨?_, rfl, hge⟩
          cases hcp : cp v with
          | true => rfl
          | false => exact absurd (.inr hcp) hc
  cases l with
  | nil => simp [dec] at h
  | cons b t =>
    rw [dec_cons] at h
    split at h
    · injection h with h; injection h with h1 h2
      subst h1; subst h2
      refine ⟨?_, by omega, by omega, by simp⟩
      unfold cp; simp; omega
    · split at h
      · simp at h
      · split at h
        · obtain ⟨x, y, z⟩ := ft _ _ _ _ h; exact ⟨x, by omega, by omega, by simp; omega⟩
        · split at h
          · obtain ⟨x, y, z⟩ := ft _ _ _ _ h; exact ⟨x, by omega, by omega, by simp; omega⟩
          · split at h
            · obtain ⟨x, y, z⟩ := ft _ _ _ _ h; exact ⟨x, by omega, by omega, by simp; omega⟩
            · simp at h
theorem cp_range {r : Nat} (h : cp r = true) : r ≤ 1114111 ∧ ¬ (55296 ≤ r ∧ r ≤ 57343) := by
  unfold cp at h; simp at h; omega
/-- The number of bytes of an encoding. -/
def sz (r : Int) : Nat := if cp r = false then 0 else if r < 128 then 1 else if r < 2048 then 2 else if r < 65536 then 3 else 4
def lst (n : Nat) : Nat := if n = 2 then 128 else if n = 3 then 2048 else 65536
def top (n : Nat) : Nat := if n = 2 then 32 else if n = 3 then 16 else 8
theorem top_le (n : Nat) : top n ≤ 32 := by unfold top; (repeat' split) <;> omega
theorem fin_size (n r0 acc : Nat) (l : List UInt8) (h2 : 2 ≤ n) (h4 : n ≤ 4) (hr : r0 < top n) (h : tl (n - 1) r0 l = some acc) :
    fin (n - 1) (lst n) (some acc) = if sz acc = n then some (acc, n) else none := by
  have hb := tl_bound _ _ _ _ h
  have hcase : n = 2 ∨ n = 3 ∨ n = 4 := by omega
  unfold fin
  simp only []
  rcases hcase with rfl | rfl | rfl
  all_goals
    simp only [top, lst] at hr hb ⊢
    simp at hr hb
    cases hc : cp acc
    · unfold sz
      simp [hc]
    · have hcr : (acc : Int) ≤ 1114111 := by unfold cp at hc; simp at hc; omega
      unfold sz
      simp only [hc, or_false, Bool.true_eq_false, if_false]
      simp
      (repeat' split) <;> first | rfl | omega
/-- All code points of a list of bytes. -/
def runesF : Nat → List UInt8 → Option (List Nat)
  | _, [] => some []
  | 0, _ :: _ => none
  | f + 1, b :: t => match dec (b :: t) with
    | none => none
    | some (r, n) => (runesF f ((b :: t).drop n)).map (r :: ·)
def runes (l : List UInt8) : Option (List Nat) := runesF l.length l
theorem runesF_enough (f g : Nat) (l : List UInt8) (hf : l.length ≤ f) (hg : l.length ≤ g) : runesF f l = runesF g l := by
  induction f generalizing g l with
  | zero =>
    cases l with
    | nil => unfold runesF; rfl
    | cons b t => simp at hf
  | succ f ih =>
    cases l with
    | nil => cases g <;> rfl
    | cons b t =>
      cases g with
      | zero => simp at hg
      | succ g =>
        unfold runesF
        cases h : dec (b :: t) with
        | none => rfl
        | some rn =>
          obtain ⟨r, n⟩ := rn
          have hn := (dec_some_cp h).2.1
          simp only []
          rw [ih g _ (by simp at hf ⊢; omega) (by simp at hg ⊢; omega)]
theorem runes_nil : runes [] = some [] := rfl
theorem runes_none {l : List UInt8} (hl : l ≠ []) (h : dec l = none) : runes l = none := by
  cases l with
  | nil => exact absurd rfl hl
  | cons b t => unfold runes runesF; simp only [List.length_cons]; rw [h]
theorem runes_some {l : List UInt8} {r n : Nat} (h : dec l = some (r, n)) : runes l = (runes (l.drop n)).map (r :: ·) := by
  have hn := (dec_some_cp h).2.1
  cases l with
  | nil => simp [dec] at h
  | cons b t =>
    show runesF (t.length + 1) (b :: t) = _
    unfold runesF
    rw [h]
    simp only []
    unfold runes
    rw [runesF_enough t.length ((b :: t).drop n).length _ (by simp; omega) (Nat.le_refl _)]
/-- What a scan of the whole list knows when it stands at offset k and has read xs. -/
def Scan (l : List UInt8) (k : Nat) (xs : List Nat) : Prop := k ≤ l.length ∧ xs.length ≤ k ∧ runes l = (runes (l.drop k)).map (xs ++ ·)
theorem Scan.start (l : List UInt8) : Scan l 0 [] := ⟨Nat.zero_le _, Nat.le_refl _, by simp⟩
theorem Scan.step {l : List UInt8} {k : Nat} {xs : List Nat} (h : Scan l k xs) {r n : Nat} (hd : dec (l.drop k) = some (r, n)) : Scan l (k + n) (xs ++ [r]) := by
  obtain ⟨_, hn, _, hl⟩ := dec_some_cp hd
  refine ⟨by rw [List.length_drop] at hl; have := h.1; omega, by have := h.2.1; simp; omega, ?_⟩
  rw [h.2.2, runes_some hd, List.drop_drop, Option.map_map]
  congr 1; funext x; simp
theorem Scan.fail {l : List UInt8} {k : Nat} {xs : List Nat} (h : Scan l k xs) (hk : k < l.length) (hd : dec (l.drop k) = none) : runes l = none := by
  rw [h.2.2, runes_none (by simp; omega) hd]; rfl
theorem Scan.done {l : List UInt8} {k : Nat} {xs : List Nat} (h : Scan l k xs) (hk : ¬ k < l.length) : runes l = some xs := by
  rw [h.2.2, List.drop_eq_nil_of_le (by omega), runes_nil]; simp
end Go.Proofs.YtgdnkankleoaoaaGreatDoor
namespace Go.Proofs.YtgdnkankleoaoaaGreatDoor
def okS (s : ByteArray) : Bool := (runes s.data.toList).isSome
/-- The fields that a kind does not use are zero, and there are as many keys as elements. -/
def fits (k n : Int) (s : ByteArray) (nk ne : Nat) : Bool :=
  if k = 0 ∨ k = 1 ∨ k = 2 then decide (n = 0) && decide (s.size = 0) && decide (nk = 0) && decide (ne = 0)
  else if k = 3 then decide (s.size = 0) && decide (nk = 0) && decide (ne = 0)
  else if k = 4 then decide (n = 0) && decide (nk = 0) && decide (ne = 0)
  else if k = 5 then decide (n = 0) && decide (s.size = 0) && decide (nk = 0)
  else if k = 6 then decide (n = 0) && decide (s.size = 0) && decide (nk = ne)
  else false
def strOk (s : ByteArray) (b : Int) : Bool := decide (s.size ≤ 4096) && (decide (b + s.size ≤ 65536) && okS s)
/-- The keys behind the key p; b: the bytes so far. -/
def keysP : List ByteArray → Option ByteArray → Int → Option Int
  | [], _, b => some b
  | x :: r, none, b => if strOk x b then keysP r (some x) (b + x.size) else none
  | x :: r, some p, b => if scmp p x < 0 then (if strOk x b then keysP r (some x) (b + x.size) else none) else none
mutual
/-- The program's count of a value that lies within lv arrays and objects: the depth, the nodes and the bytes so far. -/
def addP : V → Int → Int → Int → Int → Option (Int × Int × Int)
  | .mk k n s ks es, lv, d, m, b =>
    if 4096 < m + 1 ∨ fits k n s ks.length es.length = false ∨ strOk s b = false then none
    else if k ≠ 5 ∧ k ≠ 6 then some (d, m + 1, b + s.size)
    else if 32 < lv + 1 ∨ 1024 < es.length then none
    else match keysP ks none (b + s.size) with
      | none => none
      | some b' => addL es (lv + 1) (max d (lv + 1)) (m + 1) b'
def addL : List V → Int → Int → Int → Int → Option (Int × Int × Int)
  | [], _, d, m, b => some (d, m, b)
  | e :: es, lv, d, m, b => match addP e lv d m b with
    | none => none
    | some (d', m', b') => addL es lv d' m' b'
end
theorem keysP_bd {ks : List ByteArray} {p : Option ByteArray} {b r : Int} (hb : b ≤ 65536) (h : keysP ks p b = some r) : b ≤ r ∧ r ≤ 65536 := by
  induction ks generalizing p b with
  | nil => simp [keysP] at h; omega
  | cons x ks ih =>
    have key : strOk x b = true → keysP ks (some x) (b + x.size) = some r → b ≤ r ∧ r ≤ 65536 := by
      intro h1 h2
      simp [strOk] at h1
      have := ih (by omega) h2
      omega
    cases p with
    | none =>
      rw [keysP] at h
      split at h
      · exact key (by assumption) h
      · cases h
    | some p =>
      rw [keysP] at h
      split at h
      · split at h
        · exact key (by assumption) h
        · cases h
      · cases h
theorem addP_bd : ∀ v : V, ∀ lv d m b d' m' b' : Int, 0 ≤ lv → lv ≤ 32 → 0 ≤ d → d ≤ 32 → 0 ≤ m → m ≤ 4096 → 0 ≤ b → b ≤ 65536 → addP v lv d m b = some (d', m', b') →
    (0 ≤ d' ∧ d' ≤ 32) ∧ (m ≤ m' ∧ m' ≤ 4096) ∧ (b ≤ b' ∧ b' ≤ 65536) := by
  refine V.ind fun k n s ks es ih lv d m b d' m' b' l0 l1 d0 d1 m0 m1 b0 b1 h => ?_
  rw [addP] at h
  split at h
  · cases h
  · rename_i hc
    have h1 : m + 1 ≤ 4096 := by omega
    have h3 : strOk s b = true := by
      cases hs : strOk s b with
      | true => rfl
      | false => exact absurd (.inr (.inr hs)) hc
    simp [strOk] at h3
    split at h
    · simp at h
      obtain ⟨rfl, rfl, rfl⟩ := h
      omega
    · split at h
      · cases h
      · rename_i hl
        split at h
        · cases h
        · rename_i b2 hk
          have hb2 := keysP_bd (by omega) hk
          have key : ∀ (fs : List V), (∀ e ∈ fs, e ∈ es) → ∀ d m b : Int, 0 ≤ d → d ≤ 32 → 0 ≤ m → m ≤ 4096 → 0 ≤ b → b ≤ 65536 → addL fs (lv + 1) d m b = some (d', m', b') →
              (0 ≤ d' ∧ d' ≤ 32) ∧ (m ≤ m' ∧ m' ≤ 4096) ∧ (b ≤ b' ∧ b' ≤ 65536) := by
            intro fs
            induction fs with
            | nil =>
              intro _ d m b d0 d1 m0 m1 b0 b1 h
              simp [addL] at h
              omega
            | cons e fs ihf =>
              intro hin d m b d0 d1 m0 m1 b0 b1 h
              rw [addL] at h
              split at h
              · cases h
              · rename_i d2 m2 b2 he
                have h2 := ih e (hin e (by simp)) (lv + 1) d m b d2 m2 b2 (by omega) (by omega) d0 d1 m0 m1 b0 b1 he
                have h3 := ihf (fun x hx => hin x (by simp [hx])) d2 m2 b2 (by omega) (by omega) (by omega) (by omega) (by omega) (by omega) h
                omega
          have := key es (fun _ h => h) _ _ _ (by omega) (by omega) (by omega) (by omega) (by omega) (by omega) h
          omega
end Go.Proofs.YtgdnkankleoaoaaGreatDoor
namespace Go.Proofs.YtgdnkankleoaoaaGreatDoor
open Go.RowKit
/-- Block g is just these cells, none of them frozen. -/
def Box (w : World) (g : Nat) (t : TypeId) (cs : Array Value) : Prop := w.heap[g]? = some (.cells cs t (0, 0))
section
variable {w w' : World} {g : Nat} {t : TypeId} {cs : Array Value}
theorem Box.lt (h : Box w g t cs) : g < w.heap.size := (Array.getElem?_eq_some_iff.1 h).1
theorem Box.cell (h : Box w g t cs) {i : Nat} {u : Value} (hu : cs[i]? = some u) : w.cell? ⟨g, i, none⟩ = some u := (cell_of_row w g i cs t (0, 0) h).trans hu
theorem Box.free (h : Box w g t cs) (i : Nat) : w.frozen? ⟨g, i, none⟩ = false := by
  unfold Box at h
  simp [World.frozen?, h]
theorem Box.put (h : Box w g t cs) (i : Nat) (u : Value) : Box (w.setCell ⟨g, i, none⟩ u) g t (cs.setIfInBounds i u) := by
  unfold Box at h ⊢
  simp [World.setCell, Array.getElem?_modify, h]
theorem Box.laid (w : World) (t : TypeId) (cs : Array Value) : Box (w.alloc (.cells cs t)) w.heap.size t cs := heap_alloc_new w _
theorem Box.drewN (h : Box w g t cs) (n : Nat) : Box (w.drewN n) g t cs := h
theorem Box.alloc (h : Box w g t cs) (o : Obj) : Box (w.alloc o) g t cs := (Below.heap_alloc w o g h.lt).trans h
theorem Box.grown (h : Box w g t cs) {row : Option Nat} (hb : w.grownBy w' row) (hg : some g ≠ row) : Box w' g t cs := (hb.block g h.lt hg).trans h
theorem Box.far (h : Box w g t cs) {p : Addr} (hp : g ≠ p.block) (u : Value) : Box (w.setCell p u) g t cs := (Below.heap_setCell w p u g hp).trans h
theorem Box.below {B : Nat} (h : Box w g t cs) (hb : Below B w w') (hg : g < B) : Box w' g t cs := (hb.block g hg).trans h
end
theorem grown_trans {a b c : World} {row : Option Nat} (h : a.grownBy b row) (k : b.grownBy c row) : a.grownBy c row :=
  ⟨k.os.trans h.os, k.tape.trans h.tape, k.output.trans h.output, Nat.le_trans h.size k.size, fun i hi hn => (k.block i (Nat.lt_of_lt_of_le hi h.size) hn).trans (h.block i hi hn)⟩
theorem grown_set (w : World) (g i : Nat) (u : Value) : w.grownBy (w.setCell ⟨g, i, none⟩ u) (some g) :=
  ⟨rfl, rfl, rfl, by simp [World.setCell], fun k _ hn => Below.heap_setCell w _ u k (fun e => hn (by rw [e]))⟩
/-- Behind blocks that were laid before block g: below g nothing has turned. -/
theorem grown_below {w w' : World} {g : Nat} (h : w.grownBy w' (some g)) (hg : g ≤ w.heap.size) : Below g w w' :=
  ⟨h.os, h.tape, h.output, h.size, fun k hk => h.block k (by omega) (fun e => by injection e with e; omega)⟩
theorem below_grown {w w' : World} (h : Below w.heap.size w w') (row : Option Nat) : w.grownBy w' row := ⟨h.os, h.tape, h.output, h.size, fun k hk _ => h.block k hk⟩
theorem grown_one {w w' : World} {o : Obj} {row : Option Nat} (h : (w.alloc o).grownBy w' row) : w.grownBy w' row := grown_trans (World.grownBy_alloc w o row) h
theorem box3 {w : World} {g : Nat} {t : TypeId} {x y z : Value} (h : Box w g t #[x, y, z]) : w.cell? ⟨g, 0, none⟩ = some x ∧ w.cell? ⟨g, 1, none⟩ = some y ∧ w.cell? ⟨g, 2, none⟩ = some z ∧ w.frozen? ⟨g, 0, none⟩ = false ∧ w.frozen? ⟨g, 1, none⟩ = false ∧ w.frozen? ⟨g, 2, none⟩ = false :=
  ⟨h.cell rfl, h.cell rfl, h.cell rfl, h.free 0, h.free 1, h.free 2⟩
theorem box5 {w : World} {g : Nat} {t : TypeId} {x0 x1 x2 x3 x4 : Value} (h : Box w g t #[x0, x1, x2, x3, x4]) : w.cell? ⟨g, 0, none⟩ = some x0 ∧ w.cell? ⟨g, 1, none⟩ = some x1 ∧ w.cell? ⟨g, 2, none⟩ = some x2 ∧ w.cell? ⟨g, 3, none⟩ = some x3 ∧ w.cell? ⟨g, 4, none⟩ = some x4 :=
  ⟨h.cell rfl, h.cell rfl, h.cell rfl, h.cell rfl, h.cell rfl⟩
end Go.Proofs.YtgdnkankleoaoaaGreatDoor
