import Derived.WalkKit
import Derived.Laws.BitsAllLaws
import Derived.Laws.BitsLemmas
import Derived.Lib.ParseIntBTie
import Derived.Lib.AtoiAllCases
set_option linter.unusedVariables false
set_option linter.unusedSectionVars false
set_option linter.unusedSimpArgs false
namespace Go.Proofs.YtoleoimmpggldaaGreatDoor
open Go.RowKit
theorem toNat_i64 {a : Nat} (h : a < 9223372036854775808) : (BitVec.ofInt 64 (a : Int)).toNat = a := by
 rw [BitVec.ofInt_natCast, BitVec.toNat_ofNat, Nat.mod_eq_of_lt (by omega)]
theorem and_i64 (a b : Nat) (ha : a < 9223372036854775808) (hb : b < 9223372036854775808) : bits .and .i64 (a : Int) (b : Int) = ((a &&& b : Nat) : Int) := by
 have hle : a &&& b ≤ a := Nat.and_le_left;have h : bits .and .i64 (a : Int) (b : Int) = IntKind.i64.wrap ((BitVec.ofInt 64 (a : Int) &&& BitVec.ofInt 64 (b : Int)).toNat : Int) := rfl;rw [h, BitVec.toNat_and, toNat_i64 ha, toNat_i64 hb, IntKind.wrap_i64]; omega
theorem or_i64 (a b : Nat) (ha : a < 9223372036854775808) (hb : b < 9223372036854775808) : bits .or .i64 (a : Int) (b : Int) = ((a ||| b : Nat) : Int) := by
 have hlt : a ||| b < 2 ^ 63 := Nat.or_lt_two_pow (by omega) (by omega)
 have h : bits .or .i64 (a : Int) (b : Int) = IntKind.i64.wrap ((BitVec.ofInt 64 (a : Int) ||| BitVec.ofInt 64 (b : Int)).toNat : Int) := rfl;rw [h, BitVec.toNat_or, toNat_i64 ha, toNat_i64 hb, IntKind.wrap_i64]; omega
theorem and63 (a : Nat) (ha : a < 4294967296) : bits .and .i64 (a : Int) 63 = ((a % 64 : Nat) : Int) := by
 have h := and_i64 a 63 (by omega) (by omega);rw [nat_mask6] at h; exact h
theorem and31 (a : Nat) (ha : a < 4294967296) : bits .and .i64 (a : Int) 31 = ((a % 32 : Nat) : Int) := by
 have h := and_i64 a 31 (by omega) (by omega);rw [nat_mask5] at h; exact h
theorem and15 (a : Nat) (ha : a < 4294967296) : bits .and .i64 (a : Int) 15 = ((a % 16 : Nat) : Int) := by
 have h := and_i64 a 15 (by omega) (by omega);rw [nat_mask4] at h; exact h
theorem and7 (a : Nat) (ha : a < 4294967296) : bits .and .i64 (a : Int) 7 = ((a % 8 : Nat) : Int) := by
 have h := and_i64 a 7 (by omega) (by omega);rw [nat_mask3] at h; exact h
theorem or_low (k a c : Nat) (hc : c < 2 ^ k) : 2 ^ k * a ||| c = 2 ^ k * a + c := (Nat.two_pow_add_eq_or_of_lt hc a).symm
theorem or64 (a c : Nat) (ha : a < 4294967296) (hc : c < 64) : bits .or .i64 ((a * 64 : Nat) : Int) (c : Int) = ((a * 64 + c : Nat) : Int) := by
 rw [or_i64 _ _ (by omega) (by omega)];have h := or_low 6 a c (by omega);rw [show a * 64 = 2 ^ 6 * a from by omega, h]
theorem u8or128 (x : Nat) (hx : x < 128) : bits .or .u8 128 (x : Int) = ((128 + x : Nat) : Int) := by
 have h := u8_or_nat 128 x (by omega) (by omega);have e := or_low 7 1 x (by omega);rw [show (128 : Nat) = 2 ^ 7 * 1 from by omega] at h ⊢;rw [← e]; exact h
theorem i64or (k a x : Nat) (hk : k ≤ 8) (ha : a < 256) (hx : x < 2 ^ k) : bits .or .i64 ((2 ^ k * a : Nat) : Int) (x : Int) = ((2 ^ k * a + x : Nat) : Int) := by
 have h2 : 2 ^ k ≤ 2 ^ 8 := Nat.pow_le_pow_right (by omega) hk;have h3 : 2 ^ k * a ≤ 2 ^ 8 * 256 := Nat.mul_le_mul h2 (by omega);rw [or_i64 _ _ (by omega) (by omega), or_low k a x hx]
def cp (r : Int) : Bool := decide (0 ≤ r ∧ r ≤ 1114111 ∧ ¬ (55296 ≤ r ∧ r ≤ 57343))
def tl : Nat → Nat → List UInt8 → Option Nat
 | 0, acc, _ => some acc
 | _ + 1, _, [] => none
 | n + 1, acc, b :: r => if 128 ≤ b.toNat ∧ b.toNat ≤ 191 then tl n (acc * 64 + b.toNat % 64) r else none
def fin (n least : Nat) : Option Nat → Option (Nat × Nat)
 | none => none
 | some r => if r < least ∨ cp r = false then none else some (r, n + 1)
def dec : List UInt8 → Option (Nat × Nat)
 | [] => none
 | b :: r =>
  if b.toNat < 128 then some (b.toNat, 1)
  else if b.toNat < 192 then none
  else if b.toNat < 224 then fin 1 128 (tl 1 (b.toNat % 32) r)
  else if b.toNat < 240 then fin 2 2048 (tl 2 (b.toNat % 16) r)
  else if b.toNat < 248 then fin 3 65536 (tl 3 (b.toNat % 8) r)
  else none
theorem dec_cons (b : UInt8) (r : List UInt8) : dec (b :: r) = if b.toNat < 128 then some (b.toNat, 1)
 else if b.toNat < 192 then none
 else if b.toNat < 224 then fin 1 128 (tl 1 (b.toNat % 32) r)
 else if b.toNat < 240 then fin 2 2048 (tl 2 (b.toNat % 16) r)
 else if b.toNat < 248 then fin 3 65536 (tl 3 (b.toNat % 8) r)
 else none := rfl
def decV : Option (Nat × Nat) → Value
 | none => .tuple #[.int .i64 0, .int .i64 0, .bool false]
 | some (r, n) => .tuple #[.int .i64 r, .int .i64 n, .bool true]
theorem tl_short (n acc : Nat) (l : List UInt8) (h : l.length < n) : tl n acc l = none := by
 induction n generalizing acc l with
 | zero => omega
 | succ n ih =>
  cases l with
  | nil => rfl
  | cons b r => unfold tl; split
                · exact ih _ _ (by simp at h; omega)
                · rfl
theorem tl_step (n acc : Nat) (l : List UInt8) (k : Nat) (hk : k < l.length) :
 tl (n + 1) acc (l.drop k) = if 128 ≤ l[k].toNat ∧ l[k].toNat ≤ 191 then tl n (acc * 64 + l[k].toNat % 64) (l.drop (k + 1)) else none := by
 rw [List.drop_eq_getElem_cons hk]; rfl
theorem tl_bound (n acc : Nat) (l : List UInt8) (r : Nat) (h : tl n acc l = some r) : r < (acc + 1) * 64 ^ n := by
 induction n generalizing acc l with
 | zero => simp [tl] at h; omega
 | succ n ih =>
  cases l with
  | nil => simp [tl] at h
  | cons b t =>
   unfold tl at h
   split at h
   · have := ih _ _ h;have hb : b.toNat % 64 < 64 := by omega
     have h1 : (acc * 64 + b.toNat % 64 + 1) * 64 ^ n ≤ ((acc + 1) * 64) * 64 ^ n := Nat.mul_le_mul_right _ (by omega);rw [Nat.pow_succ, Nat.mul_comm (64 ^ n) 64, ← Nat.mul_assoc]; omega
   · simp at h
theorem dec_some_cp {l : List UInt8} {r n : Nat} (h : dec l = some (r, n)) : cp r = true ∧ 1 ≤ n ∧ n ≤ 4 ∧ n ≤ l.length := by
 have ft : ∀ (m least acc : Nat) (t : List UInt8), fin m least (tl m acc t) = some (r, n) → cp r = true ∧ n = m + 1 ∧ m ≤ t.length := by
  intro m least acc t h;rcases Nat.lt_or_ge t.length m with hlt | hge
  · rw [tl_short m acc t hlt] at h; simp [fin] at h
  · cases hx : tl m acc t with
    | none => rw [hx] at h; simp [fin] at h
    | some v =>
     rw [hx] at h; unfold fin at h; simp only at h
     split at h
     · simp at h
     · rename_i hc
       injection h with h; injection h with h1 h2
       subst h1; subst h2;refine ⟨?_, rfl, hge⟩
       cases hcp : cp v with
       | true => rfl
       | false => exact absurd (.inr hcp) hc
 cases l with
 | nil => simp [dec] at h
 | cons b t =>
  rw [dec_cons] at h
  split at h
  · injection h with h; injection h with h1 h2
    subst h1; subst h2;refine ⟨?_, by omega, by omega, by simp⟩;unfold cp; simp; omega
  · split at h
    · simp at h
    · split at h
      · obtain ⟨x, y, z⟩ := ft _ _ _ _ h; exact ⟨x, by omega, by omega, by simp; omega⟩
      · split at h
        · obtain ⟨x, y, z⟩ := ft _ _ _ _ h; exact ⟨x, by omega, by omega, by simp; omega⟩
        · split at h
          · obtain ⟨x, y, z⟩ := ft _ _ _ _ h; exact ⟨x, by omega, by omega, by simp; omega⟩
          · simp at h
theorem cp_range {r : Nat} (h : cp r = true) : r ≤ 1114111 ∧ ¬ (55296 ≤ r ∧ r ≤ 57343) := by
 unfold cp at h; simp at h; omega
def sz (r : Int) : Nat := if cp r = false then 0 else if r < 128 then 1 else if r < 2048 then 2 else if r < 65536 then 3 else 4
def lst (n : Nat) : Nat := if n = 2 then 128 else if n = 3 then 2048 else 65536
def top (n : Nat) : Nat := if n = 2 then 32 else if n = 3 then 16 else 8
theorem top_le (n : Nat) : top n ≤ 32 := by unfold top; (repeat' split) <;> omega
theorem fin_size (n r0 acc : Nat) (l : List UInt8) (h2 : 2 ≤ n) (h4 : n ≤ 4) (hr : r0 < top n) (h : tl (n - 1) r0 l = some acc) :
 fin (n - 1) (lst n) (some acc) = if sz acc = n then some (acc, n) else none := by
 have hb := tl_bound _ _ _ _ h;have hcase : n = 2 ∨ n = 3 ∨ n = 4 := by omega
 unfold fin;simp only [];rcases hcase with rfl | rfl | rfl
 all_goals
  simp only [top, lst] at hr hb ⊢;simp at hr hb
  cases hc : cp acc
  · unfold sz;simp [hc]
  · have hcr : (acc : Int) ≤ 1114111 := by unfold cp at hc; simp at hc; omega
    unfold sz;simp only [hc, or_false, Bool.true_eq_false, if_false]
    simp
    (repeat' split) <;> first | rfl | omega
def runesF : Nat → List UInt8 → Option (List Nat)
 | _, [] => some []
 | 0, _ :: _ => none
 | f + 1, b :: t => match dec (b :: t) with
  | none => none
  | some (r, n) => (runesF f ((b :: t).drop n)).map (r :: ·)
def runes (l : List UInt8) : Option (List Nat) := runesF l.length l
theorem runesF_enough (f g : Nat) (l : List UInt8) (hf : l.length ≤ f) (hg : l.length ≤ g) : runesF f l = runesF g l := by
 induction f generalizing g l with
 | zero =>
  cases l with
  | nil => unfold runesF; rfl
  | cons b t => simp at hf
 | succ f ih =>
  cases l with
  | nil => cases g <;> rfl
  | cons b t =>
   cases g with
   | zero => simp at hg
   | succ g =>
    unfold runesF
    cases h : dec (b :: t) with
    | none => rfl
    | some rn =>
     obtain ⟨r, n⟩ := rn;have hn := (dec_some_cp h).2.1;simp only [];rw [ih g _ (by simp at hf ⊢; omega) (by simp at hg ⊢; omega)]
theorem runes_nil : runes [] = some [] := rfl
theorem runes_none {l : List UInt8} (hl : l ≠ []) (h : dec l = none) : runes l = none := by
 cases l with
 | nil => exact absurd rfl hl
 | cons b t => unfold runes runesF; simp only [List.length_cons]; rw [h]
theorem runes_some {l : List UInt8} {r n : Nat} (h : dec l = some (r, n)) : runes l = (runes (l.drop n)).map (r :: ·) := by
 have hn := (dec_some_cp h).2.1
 cases l with
 | nil => simp [dec] at h
 | cons b t =>
  show runesF (t.length + 1) (b :: t) = _
  unfold runesF;rw [h];simp only [];unfold runes;rw [runesF_enough t.length ((b :: t).drop n).length _ (by simp; omega) (Nat.le_refl _)]
def Scan (l : List UInt8) (k : Nat) (xs : List Nat) : Prop := k ≤ l.length ∧ xs.length ≤ k ∧ runes l = (runes (l.drop k)).map (xs ++ ·)
theorem Scan.start (l : List UInt8) : Scan l 0 [] := ⟨Nat.zero_le _, Nat.le_refl _, by simp⟩
theorem Scan.step {l : List UInt8} {k : Nat} {xs : List Nat} (h : Scan l k xs) {r n : Nat} (hd : dec (l.drop k) = some (r, n)) : Scan l (k + n) (xs ++ [r]) := by
 obtain ⟨_, hn, _, hl⟩ := dec_some_cp hd;refine ⟨by rw [List.length_drop] at hl; have := h.1; omega, by have := h.2.1; simp; omega, ?_⟩;rw [h.2.2, runes_some hd, List.drop_drop, Option.map_map]
 congr 1; funext x; simp
theorem Scan.fail {l : List UInt8} {k : Nat} {xs : List Nat} (h : Scan l k xs) (hk : k < l.length) (hd : dec (l.drop k) = none) : runes l = none := by
 rw [h.2.2, runes_none (by simp; omega) hd]; rfl
theorem Scan.done {l : List UInt8} {k : Nat} {xs : List Nat} (h : Scan l k xs) (hk : ¬ k < l.length) : runes l = some xs := by
 rw [h.2.2, List.drop_eq_nil_of_le (by omega), runes_nil]; simp
end Go.Proofs.YtoleoimmpggldaaGreatDoor
namespace Go.Proofs.YtoleoimmpggldaaGreatDoor
open Go.RowKit
def enc (r : Nat) : List UInt8 :=
 if r < 128 then [UInt8.ofNat r]
 else if r < 2048 then [UInt8.ofNat (192 + r / 64), UInt8.ofNat (128 + r % 64)]
 else if r < 65536 then [UInt8.ofNat (224 + r / 4096), UInt8.ofNat (128 + r / 64 % 64), UInt8.ofNat (128 + r % 64)]
 else [UInt8.ofNat (240 + r / 262144), UInt8.ofNat (128 + r / 4096 % 64), UInt8.ofNat (128 + r / 64 % 64), UInt8.ofNat (128 + r % 64)]
def encs (xs : List Nat) : List UInt8 := xs.flatMap enc
theorem enc_len (r : Nat) : 1 ≤ (enc r).length ∧ (enc r).length ≤ 4 := by unfold enc; (repeat' split) <;> simp
theorem sz_enc {r : Nat} (h : cp r = true) : sz r = (enc r).length := by
 unfold sz enc;rw [if_neg (by simp [h])]
 (repeat' split) <;> simp <;> omega
theorem toNat_ofNat {n : Nat} (h : n < 256) : (UInt8.ofNat n).toNat = n := by
 rw [UInt8.toNat_ofNat']; exact Nat.mod_eq_of_lt h
theorem tl_cons (n acc : Nat) (b : UInt8) (r : List UInt8) (h : 128 ≤ b.toNat ∧ b.toNat ≤ 191) : tl (n + 1) acc (b :: r) = tl n (acc * 64 + b.toNat % 64) r := by
 show (if _ then _ else _) = _
 rw [if_pos h]
theorem tl_zero (acc : Nat) (l : List UInt8) : tl 0 acc l = some acc := rfl
theorem fin_ok {n least r : Nat} (h1 : least ≤ r) (h2 : cp r = true) : fin n least (some r) = some (r, n + 1) := by
 unfold fin;simp only [];rw [if_neg (by simp [h2]; omega)]
theorem dec_enc {r : Nat} (h : cp r = true) (t : List UInt8) : dec (enc r ++ t) = some (r, (enc r).length) := by
 have hr := cp_range h;unfold enc
 split
 · rename_i h1
   show dec (UInt8.ofNat r :: t) = _
   rw [dec_cons, if_pos (by rw [toNat_ofNat (by omega)]; omega), toNat_ofNat (by omega)]; rfl
 · split
   · show dec (UInt8.ofNat (192 + r / 64) :: UInt8.ofNat (128 + r % 64) :: t) = _
     have e0 : (UInt8.ofNat (192 + r / 64)).toNat = 192 + r / 64 := toNat_ofNat (by omega);have e1 : (UInt8.ofNat (128 + r % 64)).toNat = 128 + r % 64 := toNat_ofNat (by omega);rw [dec_cons, e0, if_neg (by omega), if_neg (by omega), if_pos (by omega), tl_cons _ _ _ _ (by rw [e1]; omega), tl_zero, e1,
      show (192 + r / 64) % 32 * 64 + (128 + r % 64) % 64 = r from by omega, fin_ok (by omega) h]; rfl
   · split
     · show dec (UInt8.ofNat (224 + r / 4096) :: UInt8.ofNat (128 + r / 64 % 64) :: UInt8.ofNat (128 + r % 64) :: t) = _
       have e0 : (UInt8.ofNat (224 + r / 4096)).toNat = 224 + r / 4096 := toNat_ofNat (by omega);have e1 : (UInt8.ofNat (128 + r / 64 % 64)).toNat = 128 + r / 64 % 64 := toNat_ofNat (by omega);have e2 : (UInt8.ofNat (128 + r % 64)).toNat = 128 + r % 64 := toNat_ofNat (by omega);rw [dec_cons, e0, if_neg (by omega), if_neg (by omega), if_neg (by omega), if_pos (by omega), tl_cons _ _ _ _ (by rw [e1]; omega), tl_cons _ _ _ _ (by rw [e2]; omega), tl_zero, e1, e2,
        show ((224 + r / 4096) % 16 * 64 + (128 + r / 64 % 64) % 64) * 64 + (128 + r % 64) % 64 = r from by omega, fin_ok (by omega) h]; rfl
     · show dec (UInt8.ofNat (240 + r / 262144) :: UInt8.ofNat (128 + r / 4096 % 64) :: UInt8.ofNat (128 + r / 64 % 64) :: UInt8.ofNat (128 + r % 64) :: t) = _
       have e0 : (UInt8.ofNat (240 + r / 262144)).toNat = 240 + r / 262144 := toNat_ofNat (by omega);have e1 : (UInt8.ofNat (128 + r / 4096 % 64)).toNat = 128 + r / 4096 % 64 := toNat_ofNat (by omega);have e2 : (UInt8.ofNat (128 + r / 64 % 64)).toNat = 128 + r / 64 % 64 := toNat_ofNat (by omega);have e3 : (UInt8.ofNat (128 + r % 64)).toNat = 128 + r % 64 := toNat_ofNat (by omega);rw [dec_cons, e0, if_neg (by omega), if_neg (by omega), if_neg (by omega), if_neg (by omega), if_pos (by omega), tl_cons _ _ _ _ (by rw [e1]; omega), tl_cons _ _ _ _ (by rw [e2]; omega),
        tl_cons _ _ _ _ (by rw [e3]; omega), tl_zero, e1, e2, e3,
        show (((240 + r / 262144) % 8 * 64 + (128 + r / 4096 % 64) % 64) * 64 + (128 + r / 64 % 64) % 64) * 64 + (128 + r % 64) % 64 = r from by omega, fin_ok (by omega) h]; rfl
theorem enc_dec {l : List UInt8} {r n : Nat} (h : dec l = some (r, n)) : l.take n = enc r ∧ n = (enc r).length := by
 have tcs : ∀ (m acc v : Nat) (b : UInt8) (t : List UInt8), tl (m + 1) acc (b :: t) = some v → (128 ≤ b.toNat ∧ b.toNat ≤ 191) ∧ tl m (acc * 64 + b.toNat % 64) t = some v := by
  intro m acc v b t h;have h' : (if 128 ≤ b.toNat ∧ b.toNat ≤ 191 then tl m (acc * 64 + b.toNat % 64) t else none) = some v := h
  split at h'
  · exact ⟨by assumption, h'⟩
  · cases h'
 have tnil : ∀ (m acc v : Nat), tl (m + 1) acc [] = some v → False := by intro m acc v h; cases h
 have fs : ∀ (m least : Nat) (o : Option Nat), fin m least o = some (r, n) → ∃ v, o = some v ∧ least ≤ v ∧ v = r ∧ n = m + 1 := by
  intro m least o h
  cases o with
  | none => cases h
  | some v =>
   unfold fin at h;simp only [] at h
   split at h
   · cases h
   · rename_i hc
     injection h with h; injection h with h1 h2
     exact ⟨v, rfl, by omega, h1, h2.symm⟩
 have u8 : ∀ (b : UInt8) (m : Nat), b.toNat = m → b = UInt8.ofNat m := by
  intro b m h; rw [← h]; simp
 cases l with
 | nil => cases h
 | cons b t =>
  have hb := UInt8.toNat_lt b;rw [dec_cons] at h
  split at h
  · injection h with h; injection h with h1 h2
    subst h1; subst h2;unfold enc;rw [if_pos (by omega)]
    simp
  · split at h
    · cases h
    · split at h
      · obtain ⟨v, hv, hl, rfl, rfl⟩ := fs _ _ _ h
        cases t with
        | nil => exact (tnil _ _ _ hv).elim
        | cons b1 t =>
         obtain ⟨g1, hv⟩ := tcs _ _ _ _ _ hv;rw [tl_zero] at hv; injection hv with hv
         unfold enc;rw [if_neg (by omega), if_pos (by omega)];refine ⟨?_, rfl⟩;rw [← u8 b _ (by omega), ← u8 b1 _ (by omega)]; rfl
      · split at h
        · obtain ⟨v, hv, hl, rfl, rfl⟩ := fs _ _ _ h
          cases t with
          | nil => exact (tnil _ _ _ hv).elim
          | cons b1 t =>
           obtain ⟨g1, hv⟩ := tcs _ _ _ _ _ hv
           cases t with
           | nil => exact (tnil _ _ _ hv).elim
           | cons b2 t =>
            obtain ⟨g2, hv⟩ := tcs _ _ _ _ _ hv;rw [tl_zero] at hv; injection hv with hv
            unfold enc;rw [if_neg (by omega), if_neg (by omega), if_pos (by omega)];refine ⟨?_, rfl⟩;rw [← u8 b _ (by omega), ← u8 b1 _ (by omega), ← u8 b2 _ (by omega)]; rfl
        · split at h
          · obtain ⟨v, hv, hl, rfl, rfl⟩ := fs _ _ _ h
            cases t with
            | nil => exact (tnil _ _ _ hv).elim
            | cons b1 t =>
             obtain ⟨g1, hv⟩ := tcs _ _ _ _ _ hv
             cases t with
             | nil => exact (tnil _ _ _ hv).elim
             | cons b2 t =>
              obtain ⟨g2, hv⟩ := tcs _ _ _ _ _ hv
              cases t with
              | nil => exact (tnil _ _ _ hv).elim
              | cons b3 t =>
               obtain ⟨g3, hv⟩ := tcs _ _ _ _ _ hv;rw [tl_zero] at hv; injection hv with hv
               unfold enc;rw [if_neg (by omega), if_neg (by omega), if_neg (by omega)];refine ⟨?_, rfl⟩;rw [← u8 b _ (by omega), ← u8 b1 _ (by omega), ← u8 b2 _ (by omega), ← u8 b3 _ (by omega)]; rfl
          · cases h
end Go.Proofs.YtoleoimmpggldaaGreatDoor
namespace Go.Proofs.YtoleoimmpggldaaGreatDoor
def hexP (b : UInt8) : Option Nat :=
 if 48 ≤ b.toNat ∧ b.toNat ≤ 57 then some (b.toNat - 48) else if 97 ≤ b.toNat ∧ b.toNat ≤ 102 then some (b.toNat - 97 + 10) else if 65 ≤ b.toNat ∧ b.toNat ≤ 70 then some (b.toNat - 65 + 10) else none
theorem hexP_lt {b : UInt8} {d : Nat} (h : hexP b = some d) : d < 16 := by
 unfold hexP at h
 (repeat' split at h) <;> simp at h <;> omega
inductive U where
 | ok (n : Nat)
 | trunc
 | bad
deriving DecidableEq
def quadR (lo hi : Nat) : Nat → Nat → List UInt8 → U
 | 0, n, _ => .ok n
 | m + 1, n, [] => .trunc
 | m + 1, n, b :: r => match hexP b with
  | none => .bad
  | some d => if (n * 16 + d + 1) * 16 ^ m - 1 < lo ∨ hi < (n * 16 + d) * 16 ^ m then .bad else quadR lo hi m (n * 16 + d) r
def possP (least most : Nat) (low : Bool) : Bool := if low then decide (least ≤ 57343 ∧ 56320 ≤ most) else decide (least < 56320 ∨ 57343 < most)
def unitD (low : Bool) : Nat → Nat → List UInt8 → U
 | 0, n, _ => .ok n
 | m + 1, n, [] => .trunc
 | m + 1, n, b :: r => match hexP b with
  | none => .bad
  | some d => if possP ((n * 16 + d) * 16 ^ m) ((n * 16 + d) * 16 ^ m + 16 ^ m - 1) low = true then unitD low m (n * 16 + d) r else .bad
theorem pow16 (m x : Nat) : (x + 1) * 16 ^ m - 1 = x * 16 ^ m + 16 ^ m - 1 := by rw [Nat.add_mul, Nat.one_mul]
theorem unit_low : ∀ (m n : Nat) (l : List UInt8), unitD true m n l = quadR 56320 57343 m n l
 | 0, n, l => by rw [unitD, quadR]
 | m + 1, n, [] => by rw [unitD, quadR]
 | m + 1, n, b :: r => by
  rw [unitD, quadR]
  cases hexP b with
  | none => rfl
  | some d =>
   simp only [];rw [unit_low m, pow16];generalize (n * 16 + d) * 16 ^ m = x;generalize 16 ^ m = p;unfold possP
   by_cases h : x ≤ 57343 ∧ 56320 ≤ x + p - 1
   · rw [if_pos (by simpa using h), if_neg (by omega)]
   · rw [if_neg (by simpa using h), if_pos (by omega)]
def quadA : Nat → Nat → List UInt8 → U
 | 0, n, _ => .ok n
 | m + 1, n, [] => .trunc
 | m + 1, n, b :: r => match hexP b with
  | none => .bad
  | some d => quadA m (n * 16 + d) r
theorem quad_any : ∀ (m n : Nat) (l : List UInt8), (n + 1) * 16 ^ m ≤ 65536 → quadR 0 65535 m n l = quadA m n l
 | 0, n, l, _ => by rw [quadR, quadA]
 | m + 1, n, [], _ => by rw [quadR, quadA]
 | m + 1, n, b :: r, h => by
  rw [quadR, quadA]
  cases hd : hexP b with
  | none => rfl
  | some d =>
   have hd16 := hexP_lt hd;simp only [];have hle : (n * 16 + d + 1) * 16 ^ m ≤ 65536 := by
    refine Nat.le_trans ?_ h;rw [Nat.pow_succ, Nat.mul_comm (16 ^ m) 16, ← Nat.mul_assoc];exact Nat.mul_le_mul_right _ (by omega)
   have hlt : (n * 16 + d) * 16 ^ m ≤ 65535 := by
    have : (n * 16 + d) * 16 ^ m < (n * 16 + d + 1) * 16 ^ m := Nat.mul_lt_mul_of_pos_right (by omega) (Nat.pow_pos (by omega));omega
   rw [if_neg (by omega), quad_any m _ r hle]
def firstR (l : List UInt8) : U :=
 match quadA 4 0 l with
 | .bad => .bad
 | .trunc => match l with
  | b :: c :: _ => match hexP b, hexP c with
   | some d, some e => if d = 13 ∧ 12 ≤ e then .bad else .trunc
   | _, _ => .trunc
  | _ => .trunc
 | .ok n => if 56320 ≤ n ∧ n ≤ 57343 then .bad else .ok n
theorem hexP_none_or (b : UInt8) : hexP b = none ∨ ∃ d, hexP b = some d ∧ d < 16 := by
 cases h : hexP b with
 | none => exact .inl rfl
 | some d => exact .inr ⟨d, rfl, hexP_lt h⟩
theorem unitD_some {low : Bool} {m n d : Nat} {b : UInt8} {r : List UInt8} (h : hexP b = some d) : unitD low (m + 1) n (b :: r) = if possP ((n * 16 + d) * 16 ^ m) ((n * 16 + d) * 16 ^ m + 16 ^ m - 1) low = true then unitD low m (n * 16 + d) r else .bad := by rw [unitD, h]
theorem unitD_none {low : Bool} {m n : Nat} {b : UInt8} {r : List UInt8} (h : hexP b = none) : unitD low (m + 1) n (b :: r) = .bad := by rw [unitD, h]
theorem quadA_some {m n d : Nat} {b : UInt8} {r : List UInt8} (h : hexP b = some d) : quadA (m + 1) n (b :: r) = quadA m (n * 16 + d) r := by rw [quadA, h]
theorem quadA_none {m n : Nat} {b : UInt8} {r : List UInt8} (h : hexP b = none) : quadA (m + 1) n (b :: r) = .bad := by rw [quadA, h]
theorem poss_no {x y : Nat} : possP x y false = true ↔ (x < 56320 ∨ 57343 < y) := by unfold possP; simp
theorem unit_rest : ∀ (m n : Nat) (l : List UInt8), (n + 1) * 16 ^ m ≤ 56320 ∨ 57344 ≤ n * 16 ^ m → unitD false m n l = quadA m n l
 | 0, n, l, _ => by rw [unitD, quadA]
 | m + 1, n, [], _ => by rw [unitD, quadA]
 | m + 1, n, b :: r, h => by
  rcases hexP_none_or b with hb | ⟨d, hb, hd⟩
  · rw [unitD_none hb, quadA_none hb]
  · rw [unitD_some hb, quadA_some hb];have hp : 0 < 16 ^ m := Nat.pow_pos (by omega);have e1 : (n + 1) * 16 ^ (m + 1) = (n * 16 + 16) * 16 ^ m := by rw [Nat.pow_succ, Nat.mul_comm (16 ^ m) 16, ← Nat.mul_assoc]; congr 1; omega
    have e2 : n * 16 ^ (m + 1) = (n * 16) * 16 ^ m := by rw [Nat.pow_succ, Nat.mul_comm (16 ^ m) 16, ← Nat.mul_assoc]
    rw [e1, e2] at h;have a1 : (n * 16 + d + 1) * 16 ^ m ≤ (n * 16 + 16) * 16 ^ m := Nat.mul_le_mul_right _ (by omega);have a2 : (n * 16) * 16 ^ m ≤ (n * 16 + d) * 16 ^ m := Nat.mul_le_mul_right _ (by omega);have a3 : (n * 16 + d + 1) * 16 ^ m = (n * 16 + d) * 16 ^ m + 16 ^ m := by rw [Nat.add_mul, Nat.one_mul]
    rw [if_pos (poss_no.2 (by omega))];exact unit_rest m _ r (by omega)
theorem quadA_lo : ∀ (m n : Nat) (l : List UInt8) (x : Nat), quadA m n l = .ok x → n * 16 ^ m ≤ x ∧ x < (n + 1) * 16 ^ m
 | 0, n, l, x, h => by rw [quadA] at h; injection h with h; subst h; simp
 | m + 1, n, [], x, h => by rw [quadA] at h; cases h
 | m + 1, n, b :: r, x, h => by
  rcases hexP_none_or b with hb | ⟨d, hb, hd⟩
  · rw [quadA_none hb] at h; cases h
  · rw [quadA_some hb] at h;obtain ⟨h1, h2⟩ := quadA_lo m _ r x h;have e1 : (n + 1) * 16 ^ (m + 1) = (n * 16 + 16) * 16 ^ m := by rw [Nat.pow_succ, Nat.mul_comm (16 ^ m) 16, ← Nat.mul_assoc]; congr 1; omega
    have e2 : n * 16 ^ (m + 1) = (n * 16) * 16 ^ m := by rw [Nat.pow_succ, Nat.mul_comm (16 ^ m) 16, ← Nat.mul_assoc]
    have a1 : (n * 16 + d + 1) * 16 ^ m ≤ (n * 16 + 16) * 16 ^ m := Nat.mul_le_mul_right _ (by omega);have a2 : (n * 16) * 16 ^ m ≤ (n * 16 + d) * 16 ^ m := Nat.mul_le_mul_right _ (by omega);rw [e1, e2];omega
theorem unit_first (l : List UInt8) : unitD false 4 0 l = firstR l := by
 unfold firstR
 match l with
 | [] => simp [unitD, quadA]
 | [b] =>
  rcases hexP_none_or b with h | ⟨d, h, hd⟩
  · rw [unitD_none h, quadA_none h]
  · rw [unitD_some h, quadA_some h, if_pos (poss_no.2 (by omega))];rw [unitD, quadA]
 | b :: c :: r =>
  rcases hexP_none_or b with h | ⟨d, h, hd⟩
  · rw [unitD_none h, quadA_none h]
  · rw [unitD_some h, quadA_some h, if_pos (poss_no.2 (by omega))];rcases hexP_none_or c with k | ⟨e, k, he⟩
    · rw [unitD_none k, quadA_none k]
    · rw [unitD_some k, quadA_some k];simp only [h, k]
      by_cases hb : d = 13 ∧ 12 ≤ e
      · rw [if_neg (by rw [poss_no]; omega)]
        cases hq : quadA 2 ((0 * 16 + d) * 16 + e) r with
        | bad => rfl
        | trunc => simp only []; rw [if_pos hb]
        | ok x =>
         have := quadA_lo _ _ _ _ hq;simp only [];rw [if_pos (by omega)]
      · rw [if_pos (by rw [poss_no]; omega), unit_rest 2 _ r (by omega)]
        cases hq : quadA 2 ((0 * 16 + d) * 16 + e) r with
        | bad => rfl
        | trunc => simp only []; rw [if_neg hb]
        | ok x =>
         have := quadA_lo _ _ _ _ hq;simp only [];rw [if_neg (by omega)]
end Go.Proofs.YtoleoimmpggldaaGreatDoor
namespace Go.Proofs.YtoleoimmpggldaaGreatDoor
open Go.RowKit
structure Lx where
 k : Nat
 f : Nat
 t : Nat
 b : Nat
 i : Int
 s : ByteArray
 p : Nat
 e : Nat
def Lx.val (x : Lx) : Value := .tuple #[.agg #[.int .i64 x.k, .int .i64 x.f, .int .i64 x.t, .int .u8 x.b, .int .i64 x.i, .string x.s], .int .i64 x.p, .int .i64 x.e]
def okX (k f t b : Nat) (i : Int) (s : ByteArray) : Lx := ⟨k, f, t, b, i, s, t, 0⟩
def noX (p e : Nat) : Lx := ⟨0, 0, 0, 0, 0, ⟨#[]⟩, p, e⟩
def span (p : UInt8 → Bool) (l : List UInt8) (k : Nat) : Nat := k + ((l.drop k).takeWhile p).length
theorem span_in {p : UInt8 → Bool} {l : List UInt8} {k : Nat} (h : k < l.length) (hp : p l[k] = true) : span p l k = span p l (k + 1) := by
 unfold span;rw [List.drop_eq_getElem_cons h, List.takeWhile_cons, if_pos hp]
 simp; omega
theorem span_no {p : UInt8 → Bool} {l : List UInt8} {k : Nat} (h : k < l.length) (hp : p l[k] = false) : span p l k = k := by
 unfold span;rw [List.drop_eq_getElem_cons h, List.takeWhile_cons, if_neg (by simp [hp])]
 simp
theorem span_end {p : UInt8 → Bool} {l : List UInt8} {k : Nat} (h : l.length ≤ k) : span p l k = k := by
 unfold span;rw [List.drop_eq_nil_of_le h]
 simp
theorem span_ge (p : UInt8 → Bool) (l : List UInt8) (k : Nat) : k ≤ span p l k := Nat.le_add_right _ _
theorem span_spec (p : UInt8 → Bool) (l : List UInt8) : ∀ (n k : Nat), l.length - k = n → k ≤ l.length → span p l k ≤ l.length ∧ (∀ i (h : i < l.length), k ≤ i → i < span p l k → p l[i] = true) ∧ (∀ h : span p l k < l.length, p l[span p l k] = false)
 | 0, k, hn, hk => by
  have h : l.length ≤ k := by omega
  rw [span_end h];exact ⟨hk, fun i h1 h2 h3 => by omega, fun h1 => by omega⟩
 | n + 1, k, hn, hk => by
  have h : k < l.length := by omega
  cases hp : p l[k] with
  | false =>
   rw [span_no h hp];exact ⟨hk, fun i h1 h2 h3 => by omega, fun _ => hp⟩
  | true =>
   rw [span_in h hp];obtain ⟨h1, h2, h3⟩ := span_spec p l n (k + 1) (by omega) (by omega);refine ⟨h1, fun i g1 g2 g3 => ?_, h3⟩;rcases Nat.eq_or_lt_of_le g2 with rfl | g2
   · exact hp
   · exact h2 i g1 g2 g3
theorem span_le {p : UInt8 → Bool} {l : List UInt8} {k : Nat} (h : k ≤ l.length) : span p l k ≤ l.length := (span_spec p l _ k rfl h).1
theorem span_all {p : UInt8 → Bool} {l : List UInt8} {k i : Nat} (h : i < l.length) (h1 : k ≤ i) (h2 : i < span p l k) : p l[i] = true := (span_spec p l _ k rfl (by omega)).2.1 i h h1 h2
theorem span_stop {p : UInt8 → Bool} {l : List UInt8} {k : Nat} (h : span p l k < l.length) : p l[span p l k] = false := (span_spec p l _ k rfl (by have := span_ge p l k; omega)).2.2 h
def blankB (b : UInt8) : Bool := decide (b.toNat = 32 ∨ b.toNat = 9 ∨ b.toNat = 10 ∨ b.toNat = 13)
def signB (b : UInt8) : Bool := decide (b.toNat = 91 ∨ b.toNat = 93 ∨ b.toNat = 123 ∨ b.toNat = 125 ∨ b.toNat = 44 ∨ b.toNat = 58)
def letB (b : UInt8) : Bool := decide (97 ≤ b.toNat ∧ b.toNat ≤ 122)
def digB (b : UInt8) : Bool := decide (48 ≤ b.toNat ∧ b.toNat ≤ 57)
def byt (l : List UInt8) (k : Nat) : Nat := (l[k]?.getD 0).toNat
theorem byt_at {l : List UInt8} {k : Nat} (h : k < l.length) : byt l k = l[k].toNat := by unfold byt; rw [List.getElem?_eq_getElem h]; rfl
theorem byt_no {l : List UInt8} {k : Nat} (h : l.length ≤ k) : byt l k = 0 := by unfold byt; rw [List.getElem?_eq_none h]; rfl
def sub (l : List UInt8) (i j : Nat) : List UInt8 := (l.drop i).take (j - i)
def wordB (l : List UInt8) : Bool := l == [110, 117, 108, 108] || l == [116, 114, 117, 101] || l == [102, 97, 108, 115, 101]
def wordP (l : List UInt8) (k : Nat) : Lx := match wordB (sub l k (span letB l k)) with
 | true => okX 2 k (span letB l k) (byt l k) 0 ⟨#[]⟩
 | false => noX k 4
def natF (a : Nat) (l : List UInt8) : Nat := l.foldl (fun n b => n * 10 + (b.toNat - 48)) a
def fitP (neg : Bool) (v : Nat) : Option Int := match neg with
 | true => if v ≤ 9223372036854775808 then some (-(v : Int)) else none
 | false => if v < 9223372036854775808 then some (v : Int) else none
def firstP (l : List UInt8) (k : Nat) : Nat := if byt l k = 45 then k + 1 else k
def moreB (l : List UInt8) (t : Nat) : Bool := decide (byt l t = 46 ∨ byt l t = 101 ∨ byt l t = 69)
def numP (l : List UInt8) (k : Nat) : Lx :=
 if span digB l (firstP l k) = firstP l k then noX (firstP l k) 4
 else if byt l (firstP l k) = 48 ∧ firstP l k + 1 < span digB l (firstP l k) then noX (firstP l k + 1) 4
 else if moreB l (span digB l (firstP l k)) = true then noX k 7
 else match fitP (decide (byt l k = 45)) (natF 0 (sub l (firstP l k) (span digB l (firstP l k)))) with
  | none => noX k 7
  | some v => okX 3 k (span digB l (firstP l k)) 0 v ⟨#[]⟩
inductive Esc where
 | ok (r n : Nat)
 | trunc
 | bad
deriving DecidableEq
def pairP (n : Nat) : List UInt8 → Esc
 | [] => .trunc
 | [b] => if b.toNat = 92 then .trunc else .bad
 | b :: c :: r => if b.toNat = 92 ∧ c.toNat = 117 then (match quadR 56320 57343 4 0 r with
  | .ok m => .ok (65536 + (n - 55296) * 1024 + (m - 56320)) 12
  | .trunc => .trunc
  | .bad => .bad) else .bad
def uniP (r : List UInt8) : Esc := match firstR r with
 | .bad => .bad
 | .trunc => .trunc
 | .ok n => if 55296 ≤ n ∧ n ≤ 56319 then pairP n (r.drop 4) else .ok n 6
def escP : List UInt8 → Esc
 | [] => .trunc
 | c :: r => if c.toNat = 34 ∨ c.toNat = 92 ∨ c.toNat = 47 then .ok c.toNat 2
  else if c.toNat = 98 then .ok 8 2 else if c.toNat = 102 then .ok 12 2 else if c.toNat = 110 then .ok 10 2 else if c.toNat = 114 then .ok 13 2 else if c.toNat = 116 then .ok 9 2
  else if c.toNat = 117 then uniP r else .bad
inductive El where
 | quote
 | add (r n : Nat)
 | trunc
 | stop (e : Nat)
def elP : List UInt8 → El
 | [] => .trunc
 | b :: r => if b.toNat = 34 then .quote
  else if b.toNat = 92 then (match escP r with
   | .ok r n => .add r n
   | .trunc => .trunc
   | .bad => .stop 4)
  else if b.toNat < 32 then .stop 4
  else match dec (b :: r) with
   | some (r, n) => .add r n
   | none => .stop 6
def strF (l : List UInt8) (k : Nat) : Nat → Nat → List UInt8 → Lx
 | 0, i, out => noX l.length 5
 | m + 1, i, out => match elP (l.drop i) with
  | .quote => if out.length ≤ 4096 then okX 4 k (i + 1) 0 0 ⟨out.toArray⟩ else noX k 2
  | .trunc => noX l.length 5
  | .stop e => noX i e
  | .add r n => strF l k m (i + n) (out ++ enc r)
def strP (l : List UInt8) (k : Nat) : Lx := strF l k (l.length - k) (k + 1) []
def lexN (l : List UInt8) (k : Nat) : Lx :=
 if k = l.length then okX 0 k k 0 0 ⟨#[]⟩
 else if signB (l[k]?.getD 0) = true then okX 1 k (k + 1) (byt l k) 0 ⟨#[]⟩
 else if letB (l[k]?.getD 0) = true then wordP l k
 else if byt l k = 45 ∨ digB (l[k]?.getD 0) = true then numP l k
 else if byt l k = 34 then strP l k
 else noX k 4
def lexP (l : List UInt8) (k : Int) : Lx := if k < 0 ∨ (l.length : Int) < k then noX 0 3 else lexN l (span blankB l k.toNat)
theorem firstP_cases {l : List UInt8} {k : Nat} : (byt l k = 45 ∧ firstP l k = k + 1) ∨ (byt l k ≠ 45 ∧ firstP l k = k) := by
 unfold firstP
 by_cases h : byt l k = 45
 · rw [if_pos h]; exact .inl ⟨h, rfl⟩
 · rw [if_neg h]; exact .inr ⟨h, rfl⟩
theorem quadR_len : ∀ {lo hi m n : Nat} {l : List UInt8} {x : Nat}, quadR lo hi m n l = .ok x → m ≤ l.length
 | lo, hi, 0, n, l, x, h => Nat.zero_le _
 | lo, hi, m + 1, n, [], x, h => by rw [quadR] at h; cases h
 | lo, hi, m + 1, n, b :: r, x, h => by
  rw [quadR] at h
  split at h
  · cases h
  · split at h
    · cases h
    · have := quadR_len h
      simp; omega
theorem quadA_len : ∀ {m n : Nat} {l : List UInt8} {x : Nat}, quadA m n l = .ok x → m ≤ l.length
 | 0, n, l, x, h => Nat.zero_le _
 | m + 1, n, [], x, h => by rw [quadA] at h; cases h
 | m + 1, n, b :: r, x, h => by
  rw [quadA] at h
  split at h
  · cases h
  · have := quadA_len h
    simp; omega
theorem quadR_range : ∀ {lo hi m n : Nat} {l : List UInt8} {x : Nat}, quadR lo hi m n l = .ok x → m ≠ 0 → lo ≤ x ∧ x ≤ hi
 | lo, hi, 0, n, l, x, h, h0 => absurd rfl h0
 | lo, hi, m + 1, n, [], x, h, _ => by rw [quadR] at h; cases h
 | lo, hi, m + 1, n, b :: r, x, h, _ => by
  rw [quadR] at h
  split at h
  · cases h
  · rename_i d hd
    split at h
    · cases h
    · rename_i hno
      cases m with
      | zero =>
       rw [quadR] at h;injection h with h
       simp at hno;omega
      | succ m => exact quadR_range h (by omega)
theorem firstR_ok {l : List UInt8} {x : Nat} (h : firstR l = .ok x) : quadA 4 0 l = .ok x ∧ 4 ≤ l.length ∧ x < 65536 ∧ ¬ (56320 ≤ x ∧ x ≤ 57343) := by
 unfold firstR at h
 cases hq : quadA 4 0 l with
 | bad => rw [hq] at h; cases h
 | trunc =>
  rw [hq] at h;simp only [] at h
  (repeat' split at h) <;> cases h
 | ok n =>
  rw [hq] at h;simp only [] at h
  split at h
  · cases h
  · rename_i hno
    injection h with h
    subst h;have h2 := quadA_lo _ _ _ _ hq;exact ⟨rfl, quadA_len hq, by omega, hno⟩
theorem pairP_ok {n : Nat} {l : List UInt8} {r m : Nat} (hn : 55296 ≤ n ∧ n ≤ 56319) (h : pairP n l = .ok r m) : m = 12 ∧ 6 ≤ l.length ∧ r ≤ 1114111 ∧ 65536 ≤ r := by
 match l, h with
 | [], h => cases h
 | [b], h =>
  rw [pairP] at h
  split at h <;> cases h
 | b :: c :: t, h =>
  rw [pairP] at h
  split at h
  · cases hq : quadR 56320 57343 4 0 t with
    | bad => rw [hq] at h; cases h
    | trunc => rw [hq] at h; cases h
    | ok x =>
     rw [hq] at h;simp only [Esc.ok.injEq] at h;have h1 := quadR_len hq;have h2 := quadR_range hq (by omega);obtain ⟨h, rfl⟩ := h;exact ⟨rfl, by simp; omega, by omega, by omega⟩
  · cases h
theorem cp_of {r : Nat} (h : r ≤ 1114111) (h2 : ¬ (55296 ≤ r ∧ r ≤ 57343)) : cp (r : Int) = true := by unfold cp; simp; omega
theorem uniP_ok {l : List UInt8} {r m : Nat} (h : uniP l = .ok r m) : 6 ≤ m ∧ m ≤ l.length + 2 ∧ cp (r : Int) = true := by
 unfold uniP at h
 cases hq : firstR l with
 | bad => rw [hq] at h; cases h
 | trunc => rw [hq] at h; cases h
 | ok n =>
  rw [hq] at h;simp only [] at h;obtain ⟨-, h1, h2, h3⟩ := firstR_ok hq
  split at h
  · rename_i hn
    obtain ⟨h4, h5, h6, h7⟩ := pairP_ok hn h;rw [List.length_drop] at h5;exact ⟨by omega, by omega, cp_of (by omega) (by omega)⟩
  · injection h with h4 h5
    subst h4; subst h5;exact ⟨by omega, by omega, cp_of (by omega) (by omega)⟩
theorem escP_ok {l : List UInt8} {r m : Nat} (h : escP l = .ok r m) : 2 ≤ m ∧ m ≤ l.length + 1 ∧ cp (r : Int) = true := by
 match l, h with
 | [], h => cases h
 | c :: t, h =>
  rw [escP] at h
  split at h
  · injection h with h1 h2
    subst h1; subst h2;exact ⟨by omega, by simp, cp_of (by omega) (by omega)⟩
  (repeat' split at h)
  all_goals first
   | (obtain ⟨h1, h2, h3⟩ := uniP_ok h; exact ⟨by omega, by simp; omega, h3⟩)
   | (injection h with h1 h2; subst h1; subst h2; exact ⟨by omega, by simp, by decide⟩)
   | cases h
theorem elP_add {l : List UInt8} {r n : Nat} (h : elP l = .add r n) : 1 ≤ n ∧ n ≤ l.length ∧ cp (r : Int) = true ∧ (enc r).length ≤ 4 := by
 match l, h with
 | [], h => cases h
 | b :: t, h =>
  rw [elP] at h
  split at h
  · cases h
  · split at h
    · cases hq : escP t with
      | bad => rw [hq] at h; cases h
      | trunc => rw [hq] at h; cases h
      | ok x y =>
       rw [hq] at h;injection h with h1 h2
       subst h1; subst h2;obtain ⟨h1, h2, h3⟩ := escP_ok hq;exact ⟨by omega, by simp; omega, h3, (enc_len _).2⟩
    · split at h
      · cases h
      · cases hq : dec (b :: t) with
        | none => rw [hq] at h; cases h
        | some x =>
         obtain ⟨x, y⟩ := x;rw [hq] at h;injection h with h1 h2
         subst h1; subst h2;obtain ⟨h1, h2, _, h4⟩ := dec_some_cp hq;exact ⟨by omega, h4, h1, (enc_len _).2⟩
def StrAt (l : List UInt8) (k i : Nat) (out : List UInt8) : Prop := k + 1 ≤ i ∧ i ≤ l.length ∧ out.length ≤ 4 * (i - k) ∧ ∃ m, l.length - i < m ∧ strP l k = strF l k m i out
theorem StrAt.start {l : List UInt8} {k : Nat} (h : k < l.length) : StrAt l k (k + 1) [] := ⟨Nat.le_refl _, h, by simp, l.length - k, by omega, rfl⟩
theorem StrAt.step {l : List UInt8} {k i : Nat} {out : List UInt8} (h : StrAt l k i out) : strP l k = match elP (l.drop i) with
 | .quote => if out.length ≤ 4096 then okX 4 k (i + 1) 0 0 ⟨out.toArray⟩ else noX k 2
 | .trunc => noX l.length 5
 | .stop e => noX i e
 | .add r n => strP l k := by
 obtain ⟨h1, h2, h3, m, h4, h5⟩ := h;obtain ⟨m, rfl⟩ : ∃ x, m = x + 1 := ⟨m - 1, by omega⟩
 cases hq : elP (l.drop i) with
 | add r n => rfl
 | quote => rw [h5, strF, hq]
 | trunc => rw [h5, strF, hq]
 | stop e => rw [h5, strF, hq]
theorem StrAt.next {l : List UInt8} {k i : Nat} {out : List UInt8} (h : StrAt l k i out) {r n : Nat} (he : elP (l.drop i) = .add r n) : StrAt l k (i + n) (out ++ enc r) := by
 obtain ⟨h1, h2, h3, m, h4, h5⟩ := h;obtain ⟨h6, h7, h8, h9⟩ := elP_add he;rw [List.length_drop] at h7;refine ⟨by omega, by omega, by rw [List.length_append]; omega, ?_⟩;obtain ⟨m, rfl⟩ : ∃ x, m = x + 1 := ⟨m - 1, by omega⟩
 refine ⟨m, by omega, ?_⟩;rw [h5, strF, he]
end Go.Proofs.YtoleoimmpggldaaGreatDoor
namespace Go.Proofs.YtoleoimmpggldaaGreatDoor
theorem natF_cons (a : Nat) (b : UInt8) (l : List UInt8) : natF a (b :: l) = natF (a * 10 + (b.toNat - 48)) l := by unfold natF; rw [List.foldl_cons]
theorem natF_le : ∀ (l : List UInt8) (a : Nat), a ≤ natF a l
 | [], a => Nat.le_refl _
 | b :: l, a => by rw [natF_cons]; have := natF_le l (a * 10 + (b.toNat - 48)); omega
theorem natF_app (a : Nat) (l r : List UInt8) : natF a (l ++ r) = natF (natF a l) r := by unfold natF; rw [List.foldl_append]
theorem natF_take {l : List UInt8} {i : Nat} {b : UInt8} (h : l[i]? = some b) : natF 0 (l.take (i + 1)) = natF 0 (l.take i) * 10 + (b.toNat - 48) := by
 rw [List.take_add_one, h, natF_app]; rfl
theorem natF_take_le (l : List UInt8) (i : Nat) : natF 0 (l.take i) ≤ natF 0 l := by
 conv => rhs; rw [← List.take_append_drop i l]
 rw [natF_app];exact natF_le _ _
theorem parse_digits : ∀ (l : List UInt8) (a : Nat), (∀ b ∈ l, digB b = true) → a < 18446744073709551616 → Lib.parseUint10 a l = if natF a l < 18446744073709551616 then .ok (natF a l) else .range
 | [], a, _, h => by unfold Lib.parseUint10; rw [show natF a [] = a from by unfold natF; rfl, if_pos h]
 | b :: l, a, hd, h => by
  have hb : 48 ≤ b.toNat ∧ b.toNat ≤ 57 := by have := hd b (by simp); unfold digB at this; simpa using this
  unfold Lib.parseUint10;rw [if_pos hb, natF_cons];have hle := natF_le l (a * 10 + (b.toNat - 48))
  by_cases h1 : 1844674407370955162 ≤ a
  · rw [if_pos h1, if_neg (by omega)]
  · rw [if_neg h1]
    by_cases h2 : 18446744073709551616 ≤ a * 10 + (b.toNat - 48)
    · rw [if_pos h2, if_neg (by omega)]
    · rw [if_neg h2];exact parse_digits l _ (fun c hc => hd c (by simp [hc])) (by omega)
def endP : Option Int → Lib.NumEnd Int
 | some v => .ok v
 | none => .range
theorem atoi_digits {l : List UInt8} (hl : l ≠ []) (hd : ∀ b ∈ l, digB b = true) : Lib.atoiAll l = endP (fitP false (natF 0 l)) := by
 cases l with
 | nil => exact absurd rfl hl
 | cons c r =>
  have hb : 48 ≤ c.toNat ∧ c.toNat ≤ 57 := by have := hd c (by simp); unfold digB at this; simpa using this
  rw [Lib.atoiAll_plain c r (by omega) (by omega)];unfold Lib.parseMag;rw [if_neg (by simp), parse_digits _ 0 hd (by omega)];unfold fitP;simp only []
  by_cases h : natF 0 (c :: r) < 9223372036854775808
  · rw [if_pos h, if_pos (by omega)];simp only [Lib.signless];rw [if_neg (by omega)]; rfl
  · rw [if_neg h]
    split
    · simp only [Lib.signless];rw [if_pos (by omega)]; rfl
    · rfl
theorem atoi_minus {l : List UInt8} (hl : l ≠ []) (hd : ∀ b ∈ l, digB b = true) : Lib.atoiAll (45 :: l) = endP (fitP true (natF 0 l)) := by
 rw [Lib.atoiAll_minus];unfold Lib.parseMag;rw [if_neg hl, parse_digits _ 0 hd (by omega)];unfold fitP;simp only []
 by_cases h : natF 0 l ≤ 9223372036854775808
 · rw [if_pos h, if_pos (by omega)];simp only [Lib.signed];rw [if_neg (by omega)]; rfl
 · rw [if_neg h]
   split
   · simp only [Lib.signed];rw [if_pos (by omega)]; rfl
   · rfl
theorem sub_cons {l : List UInt8} {i j : Nat} (h : i < j) (hi : i < l.length) : sub l i j = l[i] :: sub l (i + 1) j := by
 unfold sub;rw [List.drop_eq_getElem_cons hi, show j - i = (j - (i + 1)) + 1 from by omega, List.take_succ_cons]
theorem sub_mem {l : List UInt8} {i j : Nat} {b : UInt8} (h : b ∈ sub l i j) : ∃ x, ∃ hx : x < l.length, i ≤ x ∧ x < j ∧ l[x] = b := by
 unfold sub at h;obtain ⟨n, hn, hb⟩ := List.mem_iff_getElem.1 h;rw [List.getElem_take, List.getElem_drop] at hb;simp only [List.length_take, List.length_drop] at hn;exact ⟨i + n, by omega, by omega, by omega, hb⟩
theorem sub_len {l : List UInt8} {i j : Nat} (h : j ≤ l.length) : (sub l i j).length = j - i := by unfold sub; simp; omega
theorem sub_digits (l : List UInt8) (k : Nat) : ∀ b ∈ sub l k (span digB l k), digB b = true := fun b hb => by
 obtain ⟨x, hx, h1, h2, rfl⟩ := sub_mem hb;exact span_all hx h1 h2
theorem atoi_sub {l : List UInt8} {k : Nat} (hk : k < l.length) (hne : span digB l (firstP l k) ≠ firstP l k) :
 Lib.atoiAll (sub l k (span digB l (firstP l k))) = endP (fitP (decide (byt l k = 45)) (natF 0 (sub l (firstP l k) (span digB l (firstP l k))))) := by
 have hge := span_ge digB l (firstP l k);have hdig := sub_digits l (firstP l k);rcases firstP_cases (l := l) (k := k) with ⟨h1, h2⟩ | ⟨h1, h2⟩
 · rw [h2] at hge hdig hne ⊢;have hle : span digB l (k + 1) ≤ l.length := span_le (by omega);have hc : l[k] = 45 := by rw [byt_at hk] at h1; exact UInt8.toNat_inj.1 h1
   rw [sub_cons (by omega) hk, hc, decide_eq_true h1];exact atoi_minus (by intro h; have := congrArg List.length h; rw [sub_len hle] at this; simp at this; omega) hdig
 · rw [h2] at hge hdig hne ⊢;have hle : span digB l k ≤ l.length := span_le (by omega);rw [decide_eq_false h1];exact atoi_digits (by intro h; have := congrArg List.length h; rw [sub_len hle] at this; simp at this; omega) hdig
theorem fitP_big {neg : Bool} {v : Nat} (h : 9223372036854775808 < v) : fitP neg v = none := by
 cases neg <;> unfold fitP <;> simp <;> omega
end Go.Proofs.YtoleoimmpggldaaGreatDoor
namespace Go.Proofs.YtoleoimmpggldaaGreatDoor
def Stands (L k : Nat) (x : Lx) : Prop := x.f = k ∧ x.p = x.t ∧ x.t ≤ L ∧ ((x.k = 0 ∧ k = L ∧ x.t = L) ∨ (x.k ≠ 0 ∧ k < x.t))
theorem noX_e {p e : Nat} (he : e ≠ 0) {C : Prop} (h : (noX p e).e = 0) : C := absurd h he
theorem elP_stop {l : List UInt8} {e : Nat} (h : elP l = .stop e) : e = 4 ∨ e = 6 := by
 match l, h with
 | [], h => cases h
 | b :: t, h =>
  rw [elP] at h
  split at h
  · cases h
  · split at h
    · cases hq : escP t with
      | bad => rw [hq] at h; injection h with h; exact .inl h.symm
      | trunc => rw [hq] at h; cases h
      | ok x y => rw [hq] at h; cases h
    · split at h
      · injection h with h; exact .inl h.symm
      · cases hq : dec (b :: t) with
        | none => rw [hq] at h; injection h with h; exact .inr h.symm
        | some x => obtain ⟨x, y⟩ := x; rw [hq] at h; cases h
theorem strF_ok (l : List UInt8) (k : Nat) : ∀ (m i : Nat) (out : List UInt8), k < i → i ≤ l.length → (strF l k m i out).e = 0 → Stands l.length k (strF l k m i out)
 | 0, i, out, h1, h2, h => noX_e (by omega) h
 | m + 1, i, out, h1, h2, h => by
  rw [strF] at h ⊢
  cases hq : elP (l.drop i) with
  | quote =>
   rw [hq] at h;simp only [] at h ⊢;have hi : i < l.length := by
    rcases Nat.lt_or_ge i l.length with h3 | h3
    · exact h3
    · rw [List.drop_eq_nil_of_le h3] at hq; cases hq
   split at h
   · rename_i ho
     rw [if_pos ho];exact ⟨rfl, rfl, hi, .inr ⟨Nat.succ_ne_zero 3, by show k < i + 1; omega⟩⟩
   · exact noX_e (by omega) h
  | trunc => rw [hq] at h; exact noX_e (by omega) h
  | stop e =>
   rw [hq] at h;have := elP_stop hq;exact noX_e (by omega) h
  | add r n =>
   rw [hq] at h;simp only [] at h ⊢;obtain ⟨h3, h4, -, -⟩ := elP_add hq;rw [List.length_drop] at h4;exact strF_ok l k m _ _ (by omega) (by omega) h
theorem lexN_ok {l : List UInt8} {k : Nat} (hk : k ≤ l.length) (h : (lexN l k).e = 0) : Stands l.length k (lexN l k) := by
 unfold lexN at h ⊢
 by_cases h0 : k = l.length
 · rw [if_pos h0];exact ⟨rfl, rfl, hk, .inl ⟨rfl, h0, h0⟩⟩
 · have hlt : k < l.length := by omega
   have hgd : l[k]?.getD 0 = l[k] := by rw [List.getElem?_eq_getElem hlt]; rfl
   rw [if_neg h0] at h ⊢
   split at h
   · rename_i h1
     rw [if_pos h1];exact ⟨rfl, rfl, hlt, .inr ⟨Nat.succ_ne_zero 0, Nat.lt_succ_self k⟩⟩
   · rename_i h1
     rw [if_neg h1]
     split at h
     · rename_i h2
       rw [if_pos h2];unfold wordP at h ⊢
       split at h
       · rename_i hw
         refine ⟨rfl, rfl, span_le hk, .inr ⟨Nat.succ_ne_zero 1, ?_⟩⟩
         show k < span letB l k
         rw [span_in hlt (by rw [← hgd]; exact h2)];exact span_ge _ _ _
       · exact noX_e (by omega) h
     · rename_i h2
       rw [if_neg h2]
       split at h
       · rename_i h3
         rw [if_pos h3];unfold numP at h ⊢
         split at h
         · exact noX_e (by omega) h
         · rename_i h4
           rw [if_neg h4]
           split at h
           · exact noX_e (by omega) h
           · rename_i h5
             rw [if_neg h5]
             split at h
             · exact noX_e (by omega) h
             · rename_i h6
               rw [if_neg h6];have hge := span_ge digB l (firstP l k);have hf : k ≤ firstP l k ∧ firstP l k ≤ l.length := by rcases firstP_cases (l := l) (k := k) with ⟨_, h⟩ | ⟨_, h⟩ <;> omega
               split at h
               · exact noX_e (by omega) h
               · rename_i v hv
                 exact ⟨rfl, rfl, span_le hf.2, .inr ⟨Nat.succ_ne_zero 2, by show k < span digB l (firstP l k); omega⟩⟩
       · rename_i h3
         rw [if_neg h3]
         split at h
         · rename_i h4
           rw [if_pos h4];exact strF_ok l k _ _ _ (by omega) (by omega) h
         · exact noX_e (by omega) h
theorem lexP_ok {l : List UInt8} {k : Nat} (hk : k ≤ l.length) (h : (lexP l k).e = 0) : k ≤ (lexP l k).f ∧ Stands l.length (lexP l k).f (lexP l k) ∧ ∀ i (hi : i < l.length), k ≤ i → i < (lexP l k).f → blankB l[i] = true := by
 unfold lexP at h ⊢;rw [if_neg (by omega)] at h ⊢;rw [Int.toNat_natCast] at h ⊢;have hle : span blankB l k ≤ l.length := span_le hk;have hs := lexN_ok hle h;rw [hs.1];exact ⟨span_ge _ _ _, hs, fun i hi h1 h2 => span_all hi h1 h2⟩
