/- TextCase, plain: mapping the ASCII letters of a valid string. -/
import Derived.Test.YtjafmdngbphacaaGreatDoorC08
import Derived.Lib.MapLaws
import Derived.Lib.TrimUEq
set_option linter.unusedVariables false
set_option linter.unusedSimpArgs false
namespace Go.Proofs.YtjafmdngbphacaaGreatDoor
open Go.RowKit
theorem tl_bytes : ∀ (n acc r : Nat) (l : List UInt8), tl n acc l = some r → n ≤ l.length ∧ ∀ x ∈ l.take n, 128 ≤ x.toNat ∧ x.toNat ≤ 191
  | 0, acc, r, l, _ => ⟨Nat.zero_le _, by simp⟩
  | n + 1, acc, r, [], h => by simp [tl] at h
  | n + 1, acc, r, b :: t, h => by
    rw [tl] at h
    split at h
    · rename_i hb
      obtain ⟨h1, h2⟩ := tl_bytes n _ r t h
      refine ⟨by simpa using h1, ?_⟩
      intro x hx
      rw [List.take_succ_cons] at hx
      rcases List.mem_cons.1 hx with rfl | hx
      · exact hb
      · exact h2 x hx
    · cases h
theorem fin_some {n least r k : Nat} {o : Option Nat} (h : fin n least o = some (r, k)) : o = some r ∧ k = n + 1 ∧ least ≤ r ∧ cp r = true := by
  cases o with
  | none => simp [fin] at h
  | some q =>
    simp only [fin] at h
    split at h
    · cases h
    · rename_i hh
      injection h with h
      injection h with h1 h2
      subst h1
      exact ⟨rfl, h2.symm, by omega, by simpa using (not_or.1 hh).2⟩
/-- A multi-byte encoding: all its bytes are 128 or more. -/
theorem dec_high {l : List UInt8} {r n : Nat} (h : dec l = some (r, n)) (hn : n ≠ 1) : 128 ≤ r ∧ ∀ x ∈ l.take n, 128 ≤ x.toNat := by
  cases l with
  | nil => simp [dec] at h
  | cons b t =>
    rw [dec_cons] at h
    split at h
    · injection h with h; injection h with h1 h2; omega
    rename_i hb
    split at h
    · cases h
    have key : ∀ m least acc, 128 ≤ least → fin m least (tl m acc t) = some (r, n) → 128 ≤ r ∧ ∀ x ∈ (b :: t).take n, 128 ≤ x.toNat := by
      intro m least acc hl hf
      obtain ⟨h1, rfl, h3, _⟩ := fin_some hf
      refine ⟨by omega, ?_⟩
      intro x hx
      rw [List.take_succ_cons] at hx
      rcases List.mem_cons.1 hx with rfl | hx
      · omega
      · exact ((tl_bytes _ _ _ _ h1).2 x hx).1
    split at h
    · exact key _ _ _ (by omega) h
    split at h
    · exact key _ _ _ (by omega) h
    split at h
    · exact key _ _ _ (by omega) h
    · cases h
theorem tl1 {acc r : Nat} {t : List UInt8} (h : tl 1 acc t = some r) : ∃ c t', t = c :: t' ∧ 128 ≤ c.toNat ∧ c.toNat ≤ 191 ∧ r = acc * 64 + c.toNat % 64 := by
  cases t with
  | nil => simp [tl] at h
  | cons c t' =>
    rw [tl] at h
    split at h
    · rename_i hc
      simp [tl] at h
      exact ⟨c, t', rfl, hc.1, hc.2, h.symm⟩
    · cases h
theorem tl2 {acc r : Nat} {t : List UInt8} (h : tl 2 acc t = some r) : ∃ c d t', t = c :: d :: t' ∧ 128 ≤ c.toNat ∧ c.toNat ≤ 191 ∧ 128 ≤ d.toNat ∧ d.toNat ≤ 191 ∧ r = (acc * 64 + c.toNat % 64) * 64 + d.toNat % 64 := by
  cases t with
  | nil => simp [tl] at h
  | cons c t' =>
    rw [tl] at h
    split at h
    · rename_i hc
      obtain ⟨d, t2, rfl, h1, h2, h3⟩ := tl1 h
      exact ⟨c, d, t2, rfl, hc.1, hc.2, h1, h2, h3⟩
    · cases h
theorem tl3 {acc r : Nat} {t : List UInt8} (h : tl 3 acc t = some r) : ∃ c d e t', t = c :: d :: e :: t' ∧ 128 ≤ c.toNat ∧ c.toNat ≤ 191 ∧ 128 ≤ d.toNat ∧ d.toNat ≤ 191 ∧ 128 ≤ e.toNat ∧ e.toNat ≤ 191 ∧ r = ((acc * 64 + c.toNat % 64) * 64 + d.toNat % 64) * 64 + e.toNat % 64 := by
  cases t with
  | nil => simp [tl] at h
  | cons c t' =>
    rw [tl] at h
    split at h
    · rename_i hc
      obtain ⟨d, e, t2, rfl, h1, h2, h3, h4, h5⟩ := tl2 h
      exact ⟨c, d, e, t2, rfl, hc.1, hc.2, h1, h2, h3, h4, h5⟩
    · cases h
theorem cp_parts {r : Nat} (h : cp (r : Int) = true) : r ≤ 1114111 ∧ (r < 55296 ∨ 57344 ≤ r) := by
  unfold cp at h
  have := of_decide_eq_true h
  omega
/-- The library's decoder agrees on valid encodings. -/
theorem dec_L {l : List UInt8} {r n : Nat} (h : dec l = some (r, n)) : Lib.decodeL l = (r, n) := by
  cases l with
  | nil => simp [dec] at h
  | cons b t =>
    have hb256 : b.toNat < 256 := b.toNat_lt
    rw [dec_cons] at h
    rw [Lib.decodeL_N]
    split at h
    · rename_i hb
      injection h with h; injection h with h1 h2
      subst h1 h2
      unfold Lib.decodeN
      simp [hb]
    rename_i hb
    split at h
    · cases h
    rename_i hb2
    split at h
    · rename_i hb3
      obtain ⟨h1, rfl, h3, h4⟩ := fin_some h
      obtain ⟨c, t', rfl, c1, c2, rfl⟩ := tl1 h1
      obtain ⟨h5, h6⟩ := cp_parts h4
      unfold Lib.decodeN
      simp only [List.getD_cons_zero, List.getD_cons_succ, List.length_cons]
      rw [if_neg (by omega), if_pos (by omega), if_pos (by omega)]
    rename_i hb3
    split at h
    · rename_i hb4
      obtain ⟨h1, rfl, h3, h4⟩ := fin_some h
      obtain ⟨c, d, t', rfl, c1, c2, d1, d2, rfl⟩ := tl2 h1
      obtain ⟨h5, h6⟩ := cp_parts h4
      unfold Lib.decodeN
      simp only [List.getD_cons_zero, List.getD_cons_succ, List.length_cons]
      have e : b.toNat % 16 * 4096 + c.toNat % 64 * 64 + d.toNat % 64 = (b.toNat % 16 * 64 + c.toNat % 64) * 64 + d.toNat % 64 := by omega
      rw [e]
      rw [if_neg (by omega), if_neg (by omega), if_pos (by omega), if_pos (by omega)]
    rename_i hb4
    split at h
    · rename_i hb5
      obtain ⟨h1, rfl, h3, h4⟩ := fin_some h
      obtain ⟨c, d, f, t', rfl, c1, c2, d1, d2, f1, f2, rfl⟩ := tl3 h1
      obtain ⟨h5, h6⟩ := cp_parts h4
      unfold Lib.decodeN
      simp only [List.getD_cons_zero, List.getD_cons_succ, List.length_cons]
      have e : b.toNat % 8 * 262144 + c.toNat % 64 * 4096 + d.toNat % 64 * 64 + f.toNat % 64 = ((b.toNat % 8 * 64 + c.toNat % 64) * 64 + d.toNat % 64) * 64 + f.toNat % 64 := by omega
      rw [e]
      rw [if_neg (by omega), if_neg (by omega), if_neg (by omega), if_pos (by omega), if_pos (by omega)]
    · cases h
/-- A function on code points that keeps the code points from 128 on and turns ASCII into ASCII, byte by byte. -/
structure AscF (f : Int → Int) (g : UInt8 → UInt8) : Prop where
  low : ∀ b : UInt8, b.toNat < 128 → f (b.toNat : Int) = ((g b).toNat : Int) ∧ (g b).toNat < 128
  high : ∀ r : Nat, 128 ≤ r → f (r : Int) = (r : Int)
  highB : ∀ b : UInt8, 128 ≤ b.toNat → g b = b
theorem enc_small (b : UInt8) (h : b.toNat < 128) : Lib.encodeRune ((b.toNat : Nat) : Int) = [b] := by
  unfold Lib.encodeRune
  rw [Lib.encodeRuneZ_one (by omega) (by omega)]
  simp
theorem map_take {g : UInt8 → UInt8} {l : List UInt8} (h : ∀ x ∈ l, g x = x) : l.map g = l := by
  induction l with
  | nil => rfl
  | cons a t ih => rw [List.map_cons, h a List.mem_cons_self, ih fun x hx => h x (List.mem_cons_of_mem _ hx)]
theorem mapD_asc {f : Int → Int} {g : UInt8 → UInt8} (A : AscF f g) : ∀ (n : Nat) (l : List UInt8) (xs : List Nat), l.length ≤ n → runes l = some xs → Lib.mapD f l = l.map g := by
  intro n
  induction n with
  | zero =>
    intro l xs hl _
    have : l = [] := List.eq_nil_of_length_eq_zero (by omega)
    subst this
    rfl
  | succ n ih =>
    intro l xs hl h
    cases l with
    | nil => rfl
    | cons b t =>
      cases hd : dec (b :: t) with
      | none => rw [runes_none (by simp) hd] at h; cases h
      | some rn =>
        obtain ⟨r, k⟩ := rn
        obtain ⟨_, h1, _, h4⟩ := dec_some_cp hd
        rw [runes_some hd] at h
        cases hr : runes ((b :: t).drop k) with
        | none => rw [hr] at h; cases h
        | some ys =>
          have ih2 := ih ((b :: t).drop k) ys (by rw [List.length_drop]; omega) hr
          have hL := dec_L hd
          by_cases hk : k = 1
          · subst hk
            have hb : r = b.toNat ∧ b.toNat < 128 := by
              rw [dec_cons] at hd
              split at hd
              · rename_i hb; injection hd with hd; injection hd with hd1 _; exact ⟨hd1.symm, hb⟩
              split at hd
              · cases hd
              split at hd
              · have := (fin_some hd).2.1; omega
              split at hd
              · have := (fin_some hd).2.1; omega
              split at hd
              · have := (fin_some hd).2.1; omega
              · cases hd
            obtain ⟨rfl, hb2⟩ := hb
            rw [Lib.mapD_step f (b :: t) (by simp), hL]
            simp only [List.drop_succ_cons, List.drop_zero] at ih2 ⊢
            obtain ⟨q1, q2⟩ := A.low b hb2
            rw [q1, if_pos (by omega), enc_small _ q2, ih2]
            rfl
          · obtain ⟨q1, q2⟩ := dec_high hd hk
            rw [Lib.mapD_same f (b :: t) (by simp) (by rw [hL]; exact A.high r q1) (by rw [hL]; intro q; exact hk q.2), hL]
            simp only
            rw [ih2]
            conv => rhs; rw [← List.take_append_drop k (b :: t), List.map_append]
            rw [map_take fun x hx => A.highB x (q2 x hx)]
end Go.Proofs.YtjafmdngbphacaaGreatDoor
