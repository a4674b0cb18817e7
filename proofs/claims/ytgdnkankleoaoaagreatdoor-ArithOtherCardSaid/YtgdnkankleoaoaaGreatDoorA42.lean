/- Plain facts on the encoding of code points, and how it fits their decoding. Nothing of the program is named here. TextCase, plain: mapping the ASCII letters of a valid string. TextJoin, plain: a valid string is split into valid pieces, in which the separator does not occur. Cutting a string at an occurrence (as in StrP, under names of its own). TextJoin, plain: the pieces of a valid string. The reference's Split of layer 6, plain: scanning from the left gives the library's pieces. -/
import Derived.Test.YtgdnkankleoaoaaGreatDoorA03
import Derived.Lib.MapLaws
import Derived.Lib.TrimUEq
import Derived.Lib.Split
import Derived.Lib.SplitLaws
import Derived.Lib.CutLaws
import Derived.Lib.CountLaws
import Derived.Lib.IndexLaws
import Derived.WalkKit
import Derived.Lib.IndexMore
import Derived.Lib.RepeatB
set_option linter.unusedVariables false
set_option linter.unusedSimpArgs false
namespace Go.Proofs.YtgdnkankleoaoaaGreatDoor
open Go.RowKit
/-- The encoding of a code point. -/
def enc (r : Nat) : List UInt8 :=
  if r < 128 then [UInt8.ofNat r]
  else if r < 2048 then [UInt8.ofNat (192 + r / 64), UInt8.ofNat (128 + r % 64)]
  else if r < 65536 then [UInt8.ofNat (224 + r / 4096), UInt8.ofNat (128 + r / 64 % 64), UInt8.ofNat (128 + r % 64)]
  else [UInt8.ofNat (240 + r / 262144), UInt8.ofNat (128 + r / 4096 % 64), UInt8.ofNat (128 + r / 64 % 64), UInt8.ofNat (128 + r % 64)]
def encs (xs : List Nat) : List UInt8 := xs.flatMap enc
theorem encs_nil : encs [] = [] := rfl
theorem encs_cons (r : Nat) (xs : List Nat) : encs (r :: xs) = enc r ++ encs xs := by simp [encs]
theorem enc_len (r : Nat) : 1 ≤ (enc r).length ∧ (enc r).length ≤ 4 := by unfold enc; (repeat' split) <;> simp
theorem encs_len (xs : List Nat) : xs.length ≤ (encs xs).length ∧ (encs xs).length ≤ 4 * xs.length := by
  induction xs with
  | nil => simp [encs]
  | cons r xs ih => rw [encs_cons]; have := enc_len r; simp; omega
theorem sz_enc {r : Nat} (h : cp r = true) : sz r = (enc r).length := by
  unfold sz enc
  rw [if_neg (by simp [h])]
  (repeat' split) <;> simp <;> omega
theorem toNat_ofNat {n : Nat} (h : n < 256) : (UInt8.ofNat n).toNat = n := by
  rw [UInt8.toNat_ofNat']; exact Nat.mod_eq_of_lt h
theorem tl_cons (n acc : Nat) (b : UInt8) (r : List UInt8) (h : 128 ≤ b.toNat ∧ b.toNat ≤ 191) : tl (n + 1) acc (b :: r) = tl n (acc * 64 + b.toNat % 64) r := by
  show (if _ then _ else _) = _
  rw [if_pos h]
theorem tl_zero (acc : Nat) (l : List UInt8) : tl 0 acc l = some acc := rfl
theorem fin_ok {n least r : Nat} (h1 : least ≤ r) (h2 : cp r = true) : fin n least (some r) = some (r, n + 1) := by
  unfold fin
  simp only []
  rw [if_neg (by simp [h2]; omega)]
/-- What an encoding begins with is decoded to its code point. -/
theorem dec_enc {r : Nat} (h : cp r = true) (t : List UInt8) : dec (enc r ++ t) = some (r, (enc r).length) := by
  have hr := cp_range h
  unfold enc
  split
  · rename_i h1
    show dec (UInt8.ofNat r :: t) = _
    rw [dec_cons, if_pos (by rw [toNat_ofNat (by omega)]; omega), toNat_ofNat (by omega)]; rfl
  · split
    · show dec (UInt8.ofNat (192 + r / 64) :: UInt8.ofNat (128 + r % 64) :: t) = _
      have e0 : (UInt8.ofNat (192 + r / 64)).toNat = 192 + r / 64 := toNat_ofNat (by omega)
      have e1 : (UInt8.ofNat (128 + r % 64)).toNat = 128 + r % 64 := toNat_ofNat (by omega)
      rw [dec_cons, e0, if_neg (by omega), if_neg (by omega), if_pos (by omega), tl_cons _ _ _ _ (by rw [e1]; omega), tl_zero, e1,
        show (192 + r / 64) % 32 * 64 + (128 + r % 64) % 64 = r from by omega, fin_ok (by omega) h]; rfl
    · split
      · show dec (UInt8.ofNat (224 + r / 4096) :: UInt8.ofNat (128 + r / 64 % 64) :: UInt8.ofNat (128 + r % 64) :: t) = _
        have e0 : (UInt8.ofNat (224 + r / 4096)).toNat = 224 + r / 4096 := toNat_ofNat (by omega)
        have e1 : (UInt8.ofNat (128 + r / 64 % 64)).toNat = 128 + r / 64 % 64 := toNat_ofNat (by omega)
        have e2 : (UInt8.ofNat (128 + r % 64)).toNat = 128 + r % 64 := toNat_ofNat (by omega)
        rw [dec_cons, e0, if_neg (by omega), if_neg (by omega), if_neg (by omega), if_pos (by omega), tl_cons _ _ _ _ (by rw [e1]; omega), tl_cons _ _ _ _ (by rw [e2]; omega), tl_zero, e1, e2,
          show ((224 + r / 4096) % 16 * 64 + (128 + r / 64 % 64) % 64) * 64 + (128 + r % 64) % 64 = r from by omega, fin_ok (by omega) h]; rfl
      · show dec (UInt8.ofNat (240 + r / 262144) :: UInt8.ofNat (128 + r / 4096 % 64) :: UInt8.ofNat (128 + r / 64 % 64) :: UInt8.ofNat (128 + r % 64) :: t) = _
        have e0 : (UInt8.ofNat (240 + r / 262144)).toNat = 240 + r / 262144 := toNat_ofNat (by omega)
        have e1 : (UInt8.ofNat (128 + r / 4096 % 64)).toNat = 128 + r / 4096 % 64 := toNat_ofNat (by omega)
        have e2 : (UInt8.ofNat (128 + r / 64 % 64)).toNat = 128 + r / 64 % 64 := toNat_ofNat (by omega)
        have e3 : (UInt8.ofNat (128 + r % 64)).toNat = 128 + r % 64 := toNat_ofNat (by omega)
        rw [dec_cons, e0, if_neg (by omega), if_neg (by omega), if_neg (by omega), if_neg (by omega), if_pos (by omega), tl_cons _ _ _ _ (by rw [e1]; omega), tl_cons _ _ _ _ (by rw [e2]; omega),
          tl_cons _ _ _ _ (by rw [e3]; omega), tl_zero, e1, e2, e3,
          show (((240 + r / 262144) % 8 * 64 + (128 + r / 4096 % 64) % 64) * 64 + (128 + r / 64 % 64) % 64) * 64 + (128 + r % 64) % 64 = r from by omega, fin_ok (by omega) h]; rfl
theorem runes_encs {xs : List Nat} (h : ∀ r ∈ xs, cp (r : Int) = true) : runes (encs xs) = some xs := by
  induction xs with
  | nil => rfl
  | cons r xs ih =>
    rw [encs_cons, runes_some (dec_enc (h r (by simp)) _), List.drop_left, ih (fun q hq => h q (by simp [hq]))]; rfl
/-- What is decoded is the shortest encoding of what it is decoded to. -/
theorem enc_dec {l : List UInt8} {r n : Nat} (h : dec l = some (r, n)) : l.take n = enc r ∧ n = (enc r).length := by
  have tcs : ∀ (m acc v : Nat) (b : UInt8) (t : List UInt8), tl (m + 1) acc (b :: t) = some v → (128 ≤ b.toNat ∧ b.toNat ≤ 191) ∧ tl m (acc * 64 + b.toNat % 64) t = some v := by
    intro m acc v b t h
    have h' : (if 128 ≤ b.toNat ∧ b.toNat ≤ 191 then tl m (acc * 64 + b.toNat % 64) t else none) = some v := h
    split at h'
    · exact ⟨by assumption, h'⟩
    · cases h'
  have tnil : ∀ (m acc v : Nat), tl (m + 1) acc [] = some v → False := by intro m acc v h; cases h
  have fs : ∀ (m least : Nat) (o : Option Nat), fin m least o = some (r, n) → ∃ v, o = some v ∧ least ≤ v ∧ v = r ∧ n = m + 1 := by
    intro m least o h
    cases o with
    | none => cases h
    | some v =>
      unfold fin at h
      simp only [] at h
      split at h
      · cases h
      · rename_i hc
        injection h with h; injection h with h1 h2
        exact ⟨v, rfl, by omega, h1, h2.symm⟩
  have u8 : ∀ (b : UInt8) (m : Nat), b.toNat = m → b = UInt8.ofNat m := by
    intro b m h; rw [← h]; simp
  cases l with
  | nil => cases h
  | cons b t =>
    have hb := UInt8.toNat_lt b
    rw [dec_cons] at h
    split at h
    · injection h with h; injection h with h1 h2
      subst h1; subst h2
      unfold enc
      rw [if_pos (by omega)]
      simp
    · split at h
      · cases h
      · split at h
        · obtain ⟨v, hv, hl, rfl, rfl⟩ := fs _ _ _ h
          cases t with
          | nil => exact (tnil _ _ _ hv).elim
          | cons b1 t =>
            obtain ⟨g1, hv⟩ := tcs _ _ _ _ _ hv
            rw [tl_zero] at hv; injection hv with hv
            unfold enc
            rw [if_neg (by omega), if_pos (by omega)]
            refine ⟨?_, rfl⟩
            rw [← u8 b _ (by omega), ← u8 b1 _ (by omega)]; rfl
        · split at h
          · obtain ⟨v, hv, hl, rfl, rfl⟩ := fs _ _ _ h
            cases t with
            | nil => exact (tnil _ _ _ hv).elim
            | cons b1 t =>
              obtain ⟨g1, hv⟩ := tcs _ _ _ _ _ hv
              cases t with
              | nil => exact (tnil _ _ _ hv).elim
              | cons b2 t =>
                obtain ⟨g2, hv⟩ := tcs _ _ _ _ _ hv
                rw [tl_zero] at hv; injection hv with hv
                unfold enc
                rw [if_neg (by omega), if_neg (by omega), if_pos (by omega)]
                refine ⟨?_, rfl⟩
                rw [← u8 b _ (by omega), ← u8 b1 _ (by omega), ← u8 b2 _ (by omega)]; rfl
          · split at h
            · obtain ⟨v, hv, hl, rfl, rfl⟩ := fs _ _ _ h
              cases t with
              | nil => exact (tnil _ _ _ hv).elim
              | cons b1 t =>
                obtain ⟨g1, hv⟩ := tcs _ _ _ _ _ hv
                cases t with
                | nil => exact (tnil _ _ _ hv).elim
                | cons b2 t =>
                  obtain ⟨g2, hv⟩ := tcs _ _ _ _ _ hv
                  cases t with
                  | nil => exact (tnil _ _ _ hv).elim
                  | cons b3 t =>
                    obtain ⟨g3, hv⟩ := tcs _ _ _ _ _ hv
                    rw [tl_zero] at hv; injection hv with hv
                    unfold enc
                    rw [if_neg (by omega), if_neg (by omega), if_neg (by omega)]
                    refine ⟨?_, rfl⟩
                    rw [← u8 b _ (by omega), ← u8 b1 _ (by omega), ← u8 b2 _ (by omega), ← u8 b3 _ (by omega)]; rfl
            · cases h
theorem encs_runes : ∀ (m : Nat) (l : List UInt8), l.length ≤ m → ∀ xs, runes l = some xs → encs xs = l ∧ ∀ r ∈ xs, cp (r : Int) = true := by
  intro m
  induction m with
  | zero =>
    intro l hl xs h
    have : l = [] := List.eq_nil_of_length_eq_zero (by omega)
    subst this; rw [runes_nil] at h; injection h with h; subst h; exact ⟨rfl, by simp⟩
  | succ m ih =>
    intro l hl xs h
    cases l with
    | nil => rw [runes_nil] at h; injection h with h; subst h; exact ⟨rfl, by simp⟩
    | cons b t =>
      cases hd : dec (b :: t) with
      | none => rw [runes_none (by simp) hd] at h; cases h
      | some rn =>
        obtain ⟨r, n⟩ := rn
        obtain ⟨hc, h1, _, h4⟩ := dec_some_cp hd
        obtain ⟨e1, e2⟩ := enc_dec hd
        rw [runes_some hd] at h
        cases hr : runes ((b :: t).drop n) with
        | none => rw [hr] at h; cases h
        | some ys =>
          rw [hr] at h; injection h with h; subst h
          obtain ⟨i1, i2⟩ := ih _ (by rw [List.length_drop]; omega) ys hr
          refine ⟨?_, ?_⟩
          · rw [encs_cons, i1, ← e1, List.take_append_drop]
          · intro q hq
            rcases List.mem_cons.1 hq with rfl | hq
            · exact hc
            · exact i2 q hq
theorem dec_cont {b : UInt8} {t : List UInt8} (h1 : 128 ≤ b.toNat) (h2 : b.toNat < 192) : dec (b :: t) = none := by
  rw [dec_cons, if_neg (by omega), if_pos h2]
end Go.Proofs.YtgdnkankleoaoaaGreatDoor
namespace Go.Proofs.YtgdnkankleoaoaaGreatDoor
open Go.RowKit
theorem tl_bytes : ∀ (n acc r : Nat) (l : List UInt8), tl n acc l = some r → n ≤ l.length ∧ ∀ x ∈ l.take n, 128 ≤ x.toNat ∧ x.toNat ≤ 191
  | 0, acc, r, l, _ => ⟨Nat.zero_le _, by simp⟩
  | n + 1, acc, r, [], h => by simp [tl] at h
  | n + 1, acc, r, b :: t, h => by
    rw [tl] at h
    split at h
    · rename_i hb
      obtain ⟨h1, h2⟩ := tl_bytes n _ r t h
      refine ⟨by simpa using h1, ?_⟩
      intro x hx
      rw [List.take_succ_cons] at hx
      rcases List.mem_cons.1 hx with rfl | hx
      · exact hb
      · exact h2 x hx
    · cases h
theorem fin_some {n least r k : Nat} {o : Option Nat} (h : fin n least o = some (r, k)) : o = some r ∧ k = n + 1 ∧ least ≤ r ∧ cp r = true := by
  cases o with
  | none => simp [fin] at h
  | some q =>
    simp only [fin] at h
    split at h
    · cases h
    · rename_i hh
      injection h with h
      injection h with h1 h2
      subst h1
      exact ⟨rfl, h2.symm, by omega, by simpa using (not_or.1 hh).2⟩
/-- A multi-byte encoding: all its bytes are 128 or more. -/
theorem dec_high {l : List UInt8} {r n : Nat} (h : dec l = some (r, n)) (hn : n ≠ 1) : 128 ≤ r ∧ ∀ x ∈ l.take n, 128 ≤ x.toNat := by
  cases l with
  | nil => simp [dec] at h
  | cons b t =>
    rw [dec_cons] at h
    split at h
    · injection h with h; injection h with h1 h2; omega
    rename_i hb
    split at h
    · cases h
    have key : ∀ m least acc, 128 ≤ least → fin m least (tl m acc t) = some (r, n) → 128 ≤ r ∧ ∀ x ∈ (b :: t).take n, 128 ≤ x.toNat := by
      intro m least acc hl hf
      obtain ⟨h1, rfl, h3, _⟩ := fin_some hf
      refine ⟨by omega, ?_⟩
      intro x hx
      rw [List.take_succ_cons] at hx
      rcases List.mem_cons.1 hx with rfl | hx
      · omega
      · exact ((tl_bytes _ _ _ _ h1).2 x hx).1
    split at h
    · exact key _ _ _ (by omega) h
    split at h
    · exact key _ _ _ (by omega) h
    split at h
    · exact key _ _ _ (by omega) h
    · cases h
theorem tl1 {acc r : Nat} {t : List UInt8} (h : tl 1 acc t = some r) : ∃ c t', t = c :: t' ∧ 128 ≤ c.toNat ∧ c.toNat ≤ 191 ∧ r = acc * 64 + c.toNat % 64 := by
  cases t with
  | nil => simp [tl] at h
  | cons c t' =>
    rw [tl] at h
    split at h
    · rename_i hc
      simp [tl] at h
      exact ⟨c, t', rfl, hc.1, hc.2, h.symm⟩
    · cases h
theorem tl2 {acc r : Nat} {t : List UInt8} (h : tl 2 acc t = some r) : ∃ c d t', t = c :: d :: t' ∧ 128 ≤ c.toNat ∧ c.toNat ≤ 191 ∧ 128 ≤ d.toNat ∧ d.toNat ≤ 191 ∧ r = (acc * 64 + c.toNat % 64) * 64 + d.toNat % 64 := by
  cases t with
  | nil => simp [tl] at h
  | cons c t' =>
    rw [tl] at h
    split at h
    · rename_i hc
      obtain ⟨d, t2, rfl, h1, h2, h3⟩ := tl1 h
      exact ⟨c, d, t2, rfl, hc.1, hc.2, h1, h2, h3⟩
    · cases h
theorem tl3 {acc r : Nat} {t : List UInt8} (h : tl 3 acc t = some r) : ∃ c d e t', t = c :: d :: e :: t' ∧ 128 ≤ c.toNat ∧ c.toNat ≤ 191 ∧ 128 ≤ d.toNat ∧ d.toNat ≤ 191 ∧ 128 ≤ e.toNat ∧ e.toNat ≤ 191 ∧ r = ((acc * 64 + c.toNat % 64) * 64 + d.toNat % 64) * 64 + e.toNat % 64 := by
  cases t with
  | nil => simp [tl] at h
  | cons c t' =>
    rw [tl] at h
    split at h
    · rename_i hc
      obtain ⟨d, e, t2, rfl, h1, h2, h3, h4, h5⟩ := tl2 h
      exact ⟨c, d, e, t2, rfl, hc.1, hc.2, h1, h2, h3, h4, h5⟩
    · cases h
theorem cp_parts {r : Nat} (h : cp (r : Int) = true) : r ≤ 1114111 ∧ (r < 55296 ∨ 57344 ≤ r) := by
  unfold cp at h
  have := of_decide_eq_true h
  omega
/-- The library's decoder agrees on valid encodings. -/
theorem dec_L {l : List UInt8} {r n : Nat} (h : dec l = some (r, n)) : Lib.decodeL l = (r, n) := by
  cases l with
  | nil => simp [dec] at h
  | cons b t =>
    have hb256 : b.toNat < 256 := b.toNat_lt
    rw [dec_cons] at h
    rw [Lib.decodeL_N]
    split at h
    · rename_i hb
      injection h with h; injection h with h1 h2
      subst h1 h2
      unfold Lib.decodeN
      simp [hb]
    rename_i hb
    split at h
    · cases h
    rename_i hb2
    split at h
    · rename_i hb3
      obtain ⟨h1, rfl, h3, h4⟩ := fin_some h
      obtain ⟨c, t', rfl, c1, c2, rfl⟩ := tl1 h1
      obtain ⟨h5, h6⟩ := cp_parts h4
      unfold Lib.decodeN
      simp only [List.getD_cons_zero, List.getD_cons_succ, List.length_cons]
      rw [if_neg (by omega), if_pos (by omega), if_pos (by omega)]
    rename_i hb3
    split at h
    · rename_i hb4
      obtain ⟨h1, rfl, h3, h4⟩ := fin_some h
      obtain ⟨c, d, t', rfl, c1, c2, d1, d2, rfl⟩ := tl2 h1
      obtain ⟨h5, h6⟩ := cp_parts h4
      unfold Lib.decodeN
      simp only [List.getD_cons_zero, List.getD_cons_succ, List.length_cons]
      have e : b.toNat % 16 * 4096 + c.toNat % 64 * 64 + d.toNat % 64 = (b.toNat % 16 * 64 + c.toNat % 64) * 64 + d.toNat % 64 := by omega
      rw [e]
      rw [if_neg (by omega), if_neg (by omega), if_pos (by omega), if_pos (by omega)]
    rename_i hb4
    split at h
    · rename_i hb5
      obtain ⟨h1, rfl, h3, h4⟩ := fin_some h
      obtain ⟨c, d, f, t', rfl, c1, c2, d1, d2, f1, f2, rfl⟩ := tl3 h1
      obtain ⟨h5, h6⟩ := cp_parts h4
      unfold Lib.decodeN
      simp only [List.getD_cons_zero, List.getD_cons_succ, List.length_cons]
      have e : b.toNat % 8 * 262144 + c.toNat % 64 * 4096 + d.toNat % 64 * 64 + f.toNat % 64 = ((b.toNat % 8 * 64 + c.toNat % 64) * 64 + d.toNat % 64) * 64 + f.toNat % 64 := by omega
      rw [e]
      rw [if_neg (by omega), if_neg (by omega), if_neg (by omega), if_pos (by omega), if_pos (by omega)]
    · cases h
/-- A function on code points that keeps the code points from 128 on and turns ASCII into ASCII, byte by byte. -/
structure AscF (f : Int → Int) (g : UInt8 → UInt8) : Prop where
  low : ∀ b : UInt8, b.toNat < 128 → f (b.toNat : Int) = ((g b).toNat : Int) ∧ (g b).toNat < 128
  high : ∀ r : Nat, 128 ≤ r → f (r : Int) = (r : Int)
  highB : ∀ b : UInt8, 128 ≤ b.toNat → g b = b
theorem enc_small (b : UInt8) (h : b.toNat < 128) : Lib.encodeRune ((b.toNat : Nat) : Int) = [b] := by
  unfold Lib.encodeRune
  rw [Lib.encodeRuneZ_one (by omega) (by omega)]
  simp
theorem map_take {g : UInt8 → UInt8} {l : List UInt8} (h : ∀ x ∈ l, g x = x) : l.map g = l := by
  induction l with
  | nil => rfl
  | cons a t ih => rw [List.map_cons, h a List.mem_cons_self, ih fun x hx => h x (List.mem_cons_of_mem _ hx)]
theorem mapD_asc {f : Int → Int} {g : UInt8 → UInt8} (A : AscF f g) : ∀ (n : Nat) (l : List UInt8) (xs : List Nat), l.length ≤ n → runes l = some xs → Lib.mapD f l = l.map g := by
  intro n
  induction n with
  | zero =>
    intro l xs hl _
    have : l = [] := List.eq_nil_of_length_eq_zero (by omega)
    subst this
    rfl
  | succ n ih =>
    intro l xs hl h
    cases l with
    | nil => rfl
    | cons b t =>
      cases hd : dec (b :: t) with
      | none => rw [runes_none (by simp) hd] at h; cases h
      | some rn =>
        obtain ⟨r, k⟩ := rn
        obtain ⟨_, h1, _, h4⟩ := dec_some_cp hd
        rw [runes_some hd] at h
        cases hr : runes ((b :: t).drop k) with
        | none => rw [hr] at h; cases h
        | some ys =>
          have ih2 := ih ((b :: t).drop k) ys (by rw [List.length_drop]; omega) hr
          have hL := dec_L hd
          by_cases hk : k = 1
          · subst hk
            have hb : r = b.toNat ∧ b.toNat < 128 := by
              rw [dec_cons] at hd
              split at hd
              · rename_i hb; injection hd with hd; injection hd with hd1 _; exact ⟨hd1.symm, hb⟩
              split at hd
              · cases hd
              split at hd
              · have := (fin_some hd).2.1; omega
              split at hd
              · have := (fin_some hd).2.1; omega
              split at hd
              · have := (fin_some hd).2.1; omega
              · cases hd
            obtain ⟨rfl, hb2⟩ := hb
            rw [Lib.mapD_step f (b :: t) (by simp), hL]
            simp only [List.drop_succ_cons, List.drop_zero] at ih2 ⊢
            obtain ⟨q1, q2⟩ := A.low b hb2
            rw [q1, if_pos (by omega), enc_small _ q2, ih2]
            rfl
          · obtain ⟨q1, q2⟩ := dec_high hd hk
            rw [Lib.mapD_same f (b :: t) (by simp) (by rw [hL]; exact A.high r q1) (by rw [hL]; intro q; exact hk q.2), hL]
            simp only
            rw [ih2]
            conv => rhs; rw [← List.take_append_drop k (b :: t), List.map_append]
            rw [map_take fun x hx => A.highB x (q2 x hx)]
end Go.Proofs.YtgdnkankleoaoaaGreatDoor
namespace Go.Proofs.YtgdnkankleoaoaaGreatDoor
open Go.RowKit Go.Lib
theorem enc_tailb {r : Nat} (h : cp (r : Int) = true) {i : Nat} {c : UInt8} (hi : 1 ≤ i) (hc : (enc r)[i]? = some c) : 128 ≤ c.toNat ∧ c.toNat < 192 := by
  have hd := dec_enc h []
  rw [List.append_nil] at hd
  have hlt : i < (enc r).length := (List.getElem?_eq_some_iff.1 hc).1
  generalize enc r = e at hd hc hlt
  cases e with
  | nil => simp at hlt
  | cons b t =>
    rw [dec_cons] at hd
    have key : ∀ m least acc, fin m least (tl m acc t) = some (r, (b :: t).length) → 128 ≤ c.toNat ∧ c.toNat < 192 := by
      intro m least acc hf
      obtain ⟨h1, h2, _, _⟩ := fin_some hf
      obtain ⟨j, rfl⟩ : ∃ j, i = j + 1 := ⟨i - 1, by omega⟩
      have hm : m = t.length := by simp at h2; omega
      have hcm : c ∈ t.take m := by
        rw [hm, List.take_length]
        exact List.mem_of_getElem? (by simpa using hc)
      have := (tl_bytes _ _ _ _ h1).2 c hcm
      omega
    split at hd
    · injection hd with hd; injection hd with _ h2; simp at h2; rw [h2] at hlt; simp at hlt; omega
    split at hd
    · cases hd
    split at hd
    · exact key _ _ _ hd
    split at hd
    · exact key _ _ _ hd
    split at hd
    · exact key _ _ _ hd
    · cases hd
theorem enc_ne (r : Nat) : enc r ≠ [] := by
  intro h
  have := (enc_len r).1
  rw [h] at this
  simp at this
/-- What begins with the encodings of code points begins with these code points. -/
theorem encs_pre : ∀ (ys xs : List Nat) (B : List UInt8), (∀ r ∈ xs, cp (r : Int) = true) → (∀ r ∈ ys, cp (r : Int) = true) → encs xs = encs ys ++ B → ∃ vs, xs = ys ++ vs ∧ B = encs vs
  | [], xs, B, _, _, h => ⟨xs, rfl, by rw [encs_nil, List.nil_append] at h; exact h.symm⟩
  | y :: ys, [], B, _, _, h => by
    rw [encs_nil, encs_cons] at h
    have := congrArg List.length h
    have h2 := (enc_len y).1
    simp at this
    omega
  | y :: ys, x :: xs, B, hx, hy, h => by
    rw [encs_cons, encs_cons, List.append_assoc] at h
    have d1 := dec_enc (hx x List.mem_cons_self) (encs xs)
    have d2 := dec_enc (hy y List.mem_cons_self) (encs ys ++ B)
    rw [h, d2] at d1
    injection d1 with d1
    injection d1 with d1 _
    subst d1
    have h3 := List.append_cancel_left h
    obtain ⟨vs, rfl, hB⟩ := encs_pre ys xs B (fun r hr => hx r (List.mem_cons_of_mem _ hr)) (fun r hr => hy r (List.mem_cons_of_mem _ hr)) h3
    exact ⟨vs, rfl, hB⟩
/-- An occurrence begins where a code point begins. -/
theorem encs_cut (ys : List Nat) (B : List UInt8) (hy : ∀ r ∈ ys, cp (r : Int) = true) (hne : ys ≠ []) : ∀ (xs : List Nat) (A : List UInt8), (∀ r ∈ xs, cp (r : Int) = true) → encs xs = A ++ (encs ys ++ B) → ∃ us vs, xs = us ++ (ys ++ vs) ∧ A = encs us ∧ B = encs vs := by
  intro xs
  induction xs with
  | nil =>
    intro A hx h
    cases A with
    | nil =>
      rw [List.nil_append] at h
      obtain ⟨vs, h1, rfl⟩ := encs_pre ys [] B hx hy h
      exact ⟨[], vs, h1, rfl, rfl⟩
    | cons a A => rw [encs_nil] at h; simp at h
  | cons x xs ih =>
    intro A hx h
    cases A with
    | nil =>
      rw [List.nil_append] at h
      obtain ⟨vs, h1, rfl⟩ := encs_pre ys (x :: xs) B hx hy h
      exact ⟨[], vs, h1, rfl, rfl⟩
    | cons a A =>
      have hcx := hx x List.mem_cons_self
      rw [encs_cons] at h
      by_cases hl : (enc x).length ≤ (a :: A).length
      · have h1 := List.append_eq_append_iff.1 h
        obtain ⟨A', hA⟩ : ∃ A', a :: A = enc x ++ A' := by
          rcases h1 with ⟨t, e1, _⟩ | ⟨t, e1, _⟩
          · exact ⟨t, e1⟩
          · have : t = [] := by
              have := congrArg List.length e1
              rw [List.length_append] at this
              exact List.eq_nil_of_length_eq_zero (by omega)
            subst this
            exact ⟨[], by rw [e1]; simp⟩
        rw [hA, List.append_assoc] at h
        have h3 := List.append_cancel_left h
        obtain ⟨us, vs, rfl, rfl, e3⟩ := ih A' (fun r hr => hx r (List.mem_cons_of_mem _ hr)) h3
        exact ⟨x :: us, vs, rfl, by rw [hA, encs_cons], e3⟩
      · exfalso
        obtain ⟨y, ys', rfl⟩ : ∃ y ys', ys = y :: ys' := by
          cases ys with
          | nil => exact absurd rfl hne
          | cons y ys' => exact ⟨y, ys', rfl⟩
        obtain ⟨c, t, hc⟩ : ∃ c t, enc y = c :: t := by
          cases he : enc y with
          | nil => exact absurd he (enc_ne y)
          | cons c t => exact ⟨c, t, rfl⟩
        have h5 : (enc x)[(a :: A).length]? = some c := by
          have e1 : (enc x ++ encs xs)[(a :: A).length]? = (enc x)[(a :: A).length]? := List.getElem?_append_left (by omega)
          rw [← e1, h, List.getElem?_append_right (Nat.le_refl _), Nat.sub_self, encs_cons, hc]
          rfl
        have h6 := enc_tailb hcx (by simp) h5
        have d := dec_enc (hy y List.mem_cons_self) []
        rw [List.append_nil, hc, dec_cont h6.1 h6.2] at d
        cases d
end Go.Proofs.YtgdnkankleoaoaaGreatDoor
namespace Go.Proofs.YtgdnkankleoaoaaGreatDoor
open Go.RowKit Go.Lib
theorem bytes_extq {a b : ByteArray} (h : a.data.toList = b.data.toList) : a = b := by
  cases a with | mk x => cases b with | mk y => cases x; cases y; simpa using h
theorem app_dataq (a b : ByteArray) : (a ++ b).data.toList = a.data.toList ++ b.data.toList := by simp
theorem cut_backq (s sep : ByteArray) (i : Nat) (h : indexB s sep = i) : s.extract 0 i ++ sep ++ s.extract (i + sep.size) s.size = s := by
  have h' : index s.data.toList sep.data.toList = i := h
  rcases index_spec s.data.toList sep.data.toList with ⟨h1, _⟩ | ⟨j, h1, hj, ho, _⟩
  · rw [h'] at h1; omega
  · rw [h'] at h1
    obtain rfl : i = j := by omega
    obtain ⟨t, ht⟩ := List.isPrefixOf_iff_prefix.1 ho
    apply bytes_extq
    rw [app_dataq, app_dataq, extract_from_zero, extract_to_end, size_eq sep, ← List.drop_drop, ← ht, List.drop_left, List.append_assoc, ht, List.take_append_drop]
end Go.Proofs.YtgdnkankleoaoaaGreatDoor
namespace Go.Proofs.YtgdnkankleoaoaaGreatDoor
open Go.RowKit Go.Lib
def okL (s : ByteArray) : Prop := (runes s.data.toList).isSome = true
theorem okL_encs {s : ByteArray} (h : okL s) : ∃ xs, encs xs = s.data.toList ∧ ∀ r ∈ xs, cp (r : Int) = true := by
  unfold okL at h
  cases hq : runes s.data.toList with
  | none => rw [hq] at h; cases h
  | some xs => exact ⟨xs, encs_runes _ _ (Nat.le_refl _) xs hq⟩
theorem okL_of {s : ByteArray} {xs : List Nat} (h : encs xs = s.data.toList) (hx : ∀ r ∈ xs, cp (r : Int) = true) : okL s := by
  unfold okL
  rw [← h, runes_encs hx]
  rfl
/-- Around an occurrence. -/
theorem okL_cut {s sep : ByteArray} (hs : okL s) (hp : okL sep) (h1 : 1 ≤ sep.size) {i : Nat} (hi : indexB s sep = i) : okL (s.extract 0 i) ∧ okL (s.extract (i + sep.size) s.size) := by
  obtain ⟨xs, ex, hx⟩ := okL_encs hs
  obtain ⟨ys, ey, hy⟩ := okL_encs hp
  have hne : ys ≠ [] := by
    rintro rfl
    rw [encs_nil] at ey
    have := congrArg List.length ey
    have e : sep.data.toList.length = sep.size := by simp
    simp at this
    omega
  have hc := cut_backq s sep i hi
  have hl : encs xs = (s.extract 0 i).data.toList ++ (encs ys ++ (s.extract (i + sep.size) s.size).data.toList) := by
    rw [ex, ey, ← List.append_assoc]
    have := congrArg (fun b : ByteArray => b.data.toList) hc
    simp only [app_dataq] at this
    exact this.symm
  obtain ⟨us, vs, rfl, hA, hB⟩ := encs_cut ys _ hy hne xs _ hx hl
  exact ⟨okL_of hA.symm fun r hr => hx r (List.mem_append_left _ hr), okL_of hB.symm fun r hr => hx r (List.mem_append_right _ (List.mem_append_right _ hr))⟩
theorem split_okL {sep : ByteArray} (hp : okL sep) (h1 : 1 ≤ sep.size) : ∀ (k : Nat) (s : ByteArray), okL s → ∀ x ∈ splitB sep 0 k s, okL x ∧ x.size ≤ s.size
  | 0, s, hs, x, hx => by
    rw [splitB_zero] at hx
    rcases List.mem_singleton.1 hx with rfl
    exact ⟨hs, Nat.le_refl _⟩
  | k + 1, s, hs, x, hx => by
    rcases indexB_cases s sep with hix | ⟨i, hix, hroom⟩
    · rw [splitB_miss sep 0 _ s hix] at hx
      rcases List.mem_singleton.1 hx with rfl
      exact ⟨hs, Nat.le_refl _⟩
    · rw [splitB_hit sep 0 k s i hix, Nat.add_zero] at hx
      obtain ⟨ha, hb⟩ := okL_cut hs hp h1 hix
      rcases List.mem_cons.1 hx with rfl | hx
      · exact ⟨ha, by simp; omega⟩
      · obtain ⟨h2, h3⟩ := split_okL hp h1 k _ hb x hx
        refine ⟨h2, Nat.le_trans h3 ?_⟩
        simp
end Go.Proofs.YtgdnkankleoaoaaGreatDoor
namespace Go.Proofs.YtgdnkankleoaoaaGreatDoor
open Go.RowKit Go.Lib
/-- The pieces of a string at a separator. -/
def pcs (s sep : ByteArray) : List ByteArray := splitB sep 0 (countB s sep) s
theorem pcs_miss {s sep : ByteArray} (h : indexB s sep = -1) : pcs s sep = [s] := splitB_miss sep 0 _ s h
theorem pcs_hit {s sep : ByteArray} {i : Nat} (h1 : 1 ≤ sep.size) (h : indexB s sep = i) : pcs s sep = s.extract 0 i :: pcs (s.extract (i + sep.size) s.size) sep := by
  unfold pcs
  rw [countB_hit s sep i h1 h, Nat.add_comm 1, splitB_hit sep 0 _ s i h, Nat.add_zero]
/-- The reference's loop: from where the piece begins, and where it looks. -/
def scanS (s sep : ByteArray) : Nat → Nat → Nat → List ByteArray
  | 0, from', _ => [s.extract from' s.size]
  | k + 1, from', i => if i + sep.size ≤ s.size then (if s.extract i (i + sep.size) = sep then s.extract from' i :: scanS s sep k (i + sep.size) (i + sep.size) else scanS s sep k from' (i + 1)) else [s.extract from' s.size]
theorem ext_list (s : ByteArray) (a b : Nat) : (s.extract a b).data.toList = (s.data.toList.drop a).take (b - a) := Lib.extract_data s a b
theorem rest_list (s : ByteArray) (a : Nat) : (s.extract a s.size).data.toList = s.data.toList.drop a := by
  rw [ext_list, List.take_of_length_le (by rw [List.length_drop]; simp)]
theorem occ_ext {s sep : ByteArray} {f i : Nat} (hfi : f ≤ i) (hi : i + sep.size ≤ s.size) : occAt (s.extract f s.size).data.toList sep.data.toList (i - f) = decide (s.extract i (i + sep.size) = sep) := by
  have hm : sep.data.toList.length = sep.size := by simp
  have hl : s.data.toList.length = s.size := by simp
  rw [rest_list, occAt_iff_take _ _ _ (by rw [List.length_drop, hm, hl]; omega), List.drop_drop, Nat.add_sub_cancel' hfi, hm]
  rw [Bool.eq_iff_iff, decide_eq_true_iff, beq_iff_eq]
  constructor
  · intro h
    apply bytes_extq
    rw [ext_list, Nat.add_sub_cancel_left]
    exact h
  · intro h
    have := congrArg (fun b : ByteArray => b.data.toList) h
    simp only [ext_list, Nat.add_sub_cancel_left] at this
    exact this
theorem scanS_eq {s sep : ByteArray} (h1 : 1 ≤ sep.size) : ∀ (k f i : Nat), f ≤ i → i ≤ s.size → s.size - i < k → (∀ j, f ≤ j → j < i → occAt (s.extract f s.size).data.toList sep.data.toList (j - f) = false) → scanS s sep k f i = pcs (s.extract f s.size) sep := by
  have hm : sep.data.toList.length = sep.size := by simp
  have hl : s.data.toList.length = s.size := by simp
  have hne : sep.data.toList ≠ [] := by
    intro e
    rw [e] at hm
    simp at hm
    omega
  intro k
  induction k with
  | zero => intro f i _ _ h; omega
  | succ k ih =>
    intro f i hfi his hk hno
    rw [scanS]
    have hrl : (s.extract f s.size).data.toList.length = s.size - f := by rw [rest_list, List.length_drop, hl]
    by_cases hroom : i + sep.size ≤ s.size
    · rw [if_pos hroom]
      have ho := occ_ext (s := s) (sep := sep) hfi hroom
      by_cases hq : s.extract i (i + sep.size) = sep
      · rw [if_pos hq]
        rw [decide_eq_true hq] at ho
        have hix : indexB (s.extract f s.size) sep = ((i - f : Nat) : Int) := index_first (by rw [hrl]; omega) ho fun j hj => by
          have := hno (j + f) (by omega) (by omega)
          rw [Nat.add_sub_cancel] at this
          exact this
        rw [pcs_hit h1 hix]
        have e1 : (s.extract f s.size).extract 0 (i - f) = s.extract f i := by
          apply bytes_extq
          rw [ext_list, rest_list, ext_list, List.drop_zero, Nat.sub_zero]
        have e2 : (s.extract f s.size).extract (i - f + sep.size) (s.extract f s.size).size = s.extract (i + sep.size) s.size := by
          apply bytes_extq
          rw [rest_list, rest_list, rest_list, List.drop_drop]
          congr 1
          omega
        rw [e1, e2, ih (i + sep.size) (i + sep.size) (Nat.le_refl _) hroom (by omega) fun j h2 h3 => by omega]
      · rw [if_neg hq]
        rw [decide_eq_false hq] at ho
        exact ih f (i + 1) (by omega) (by omega) (by omega) fun j h2 h3 => by
          rcases Nat.lt_or_ge j i with h | h
          · exact hno j h2 h
          · obtain rfl : j = i := by omega
            exact ho
    · rw [if_neg hroom]
      have hix : indexB (s.extract f s.size) sep = -1 := index_past (i := i - f) hne (fun j hj => by
          have := hno (j + f) (by omega) (by omega)
          rw [Nat.add_sub_cancel] at this
          exact this) (by rw [hrl, hm]; omega)
      rw [pcs_miss hix]
end Go.Proofs.YtgdnkankleoaoaaGreatDoor
