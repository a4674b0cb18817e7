/- What stands between the tokens of a filter changes only their offsets: plain. Nothing of the program is named here. -/
import Derived.Test.YthgnelkppibpeaaGreatDoorFxO
set_option linter.unusedVariables false
set_option linter.unusedSimpArgs false
namespace Go.Proofs.YthgnelkppibpeaaGreatDoor
open Go.RowKit
/-- Two texts begin with the same n bytes. -/
def Agr (n : Nat) (x y : List UInt8) : Prop := ∀ j, j < n → y[j]? = x[j]?
theorem Agr.mono {n m : Nat} {x y : List UInt8} (h : Agr n x y) (hm : m ≤ n) : Agr m x y := fun j hj => h j (by omega)
theorem Agr.cons {n : Nat} {b : UInt8} {x y : List UInt8} (h : Agr (n + 1) (b :: x) y) : ∃ y', y = b :: y' ∧ Agr n x y' := by
  have h0 := h 0 (by omega)
  cases y with
  | nil => simp at h0
  | cons c y' =>
    simp at h0
    subst h0
    exact ⟨y', rfl, fun j hj => by have := h (j + 1) (by omega); simpa using this⟩
theorem Agr.drop {n k : Nat} {x y : List UInt8} (h : Agr n x y) : Agr (n - k) (x.drop k) (y.drop k) := fun j hj => by
  rw [List.getElem?_drop, List.getElem?_drop]
  exact h _ (by omega)
theorem Agr.take {n : Nat} {x y : List UInt8} (h : Agr n x y) : y.take n = x.take n := by
  apply List.ext_getElem?
  intro j
  by_cases hj : j < n
  · rw [List.getElem?_take_of_lt hj, List.getElem?_take_of_lt hj]
    exact h j hj
  · rw [List.getElem?_eq_none (by simp; omega), List.getElem?_eq_none (by simp; omega)]
theorem quadA_loc : ∀ {m n : Nat} {x y : List UInt8} {v : Nat}, quadA m n x = .ok v → Agr m x y → quadA m n y = .ok v
  | 0, n, x, y, v, h, ha => by rw [quadA] at h ⊢; exact h
  | m + 1, n, [], y, v, h, ha => by rw [quadA] at h; cases h
  | m + 1, n, b :: r, y, v, h, ha => by
    obtain ⟨y', rfl, hy⟩ := ha.cons
    rcases hexP_none_or b with hb | ⟨d, hb, -⟩
    · rw [quadA_none hb] at h; cases h
    · rw [quadA_some hb] at h ⊢
      exact quadA_loc h hy
theorem quadR_loc : ∀ {lo hi m n : Nat} {x y : List UInt8} {v : Nat}, quadR lo hi m n x = .ok v → Agr m x y → quadR lo hi m n y = .ok v
  | lo, hi, 0, n, x, y, v, h, ha => by rw [quadR] at h ⊢; exact h
  | lo, hi, m + 1, n, [], y, v, h, ha => by rw [quadR] at h; cases h
  | lo, hi, m + 1, n, b :: r, y, v, h, ha => by
    obtain ⟨y', rfl, hy⟩ := ha.cons
    rw [quadR] at h ⊢
    cases hb : hexP b with
    | none => rw [hb] at h; cases h
    | some d =>
      rw [hb] at h
      simp only [] at h ⊢
      split at h
      · cases h
      · rename_i hno
        rw [if_neg hno]
        exact quadR_loc h hy
theorem firstR_loc {x y : List UInt8} {v : Nat} (h : firstR x = .ok v) (ha : Agr 4 x y) : firstR y = .ok v := by
  obtain ⟨h1, h2, h3, h4⟩ := firstR_ok h
  have h5 := quadA_loc h1 ha
  unfold firstR at h ⊢
  rw [h1] at h
  rw [h5]
  exact h
theorem pairP_loc {n : Nat} {x y : List UInt8} {r m : Nat} (h : pairP n x = .ok r m) (ha : Agr 6 x y) : pairP n y = .ok r m := by
  match x, h with
  | [], h => cases h
  | [b], h =>
    rw [pairP] at h
    split at h <;> cases h
  | b :: c :: t, h =>
    obtain ⟨y1, rfl, h1⟩ := ha.cons
    obtain ⟨y2, rfl, h2⟩ := h1.cons
    rw [pairP] at h ⊢
    split at h
    · rename_i hc
      rw [if_pos hc]
      cases hq : quadR 56320 57343 4 0 t with
      | bad => rw [hq] at h; cases h
      | trunc => rw [hq] at h; cases h
      | ok v =>
        rw [hq] at h
        rw [quadR_loc hq h2]
        exact h
    · cases h
theorem uniP_loc {x y : List UInt8} {r m : Nat} (h : uniP x = .ok r m) (ha : Agr (m - 2) x y) : uniP y = .ok r m := by
  unfold uniP at h ⊢
  cases hq : firstR x with
  | bad => rw [hq] at h; cases h
  | trunc => rw [hq] at h; cases h
  | ok n =>
    rw [hq] at h
    simp only [] at h
    split at h
    · rename_i hn
      obtain ⟨h4, h5, -, -⟩ := pairP_ok hn h
      subst h4
      rw [firstR_loc hq (ha.mono (by omega))]
      simp only []
      rw [if_pos hn]
      exact pairP_loc h (ha.drop.mono (by omega))
    · rename_i hn
      injection h with h4 h5
      subst h5
      rw [firstR_loc hq (ha.mono (by omega))]
      simp only []
      rw [if_neg hn, h4]
theorem escP_loc {x y : List UInt8} {r m : Nat} (h : escP x = .ok r m) (ha : Agr (m - 1) x y) : escP y = .ok r m := by
  have hm := (escP_ok h).1
  match x, h with
  | [], h => cases h
  | c :: t, h =>
    obtain ⟨k, hk⟩ : ∃ k, m - 1 = k + 1 := ⟨m - 2, by omega⟩
    rw [hk] at ha
    obtain ⟨y1, rfl, h1⟩ := ha.cons
    by_cases h117 : c.toNat = 117
    · have e : ∀ z, escP (c :: z) = uniP z := fun z => by
        rw [escP, if_neg (by omega), if_neg (by omega), if_neg (by omega), if_neg (by omega), if_neg (by omega), if_neg (by omega), if_pos h117]
      rw [e] at h ⊢
      exact uniP_loc h (h1.mono (by omega))
    · have e : escP (c :: y1) = escP (c :: t) := by
        rw [escP, escP]
        simp only [if_neg h117]
      rw [e]
      exact h
theorem dec_loc {x y : List UInt8} {r n : Nat} (h : dec x = some (r, n)) (ha : Agr n x y) : dec y = some (r, n) := by
  obtain ⟨h1, h2⟩ := enc_dec h
  have h3 := ha.take
  rw [h1] at h3
  have h4 : y = enc r ++ y.drop n := by rw [← h3, List.take_append_drop]
  rw [h4, dec_enc (dec_some_cp h).1, ← h2]
theorem elP_loc {x y : List UInt8} {r n : Nat} (h : elP x = .add r n) (ha : Agr n x y) : elP y = .add r n := by
  have hn := (elP_add h).1
  match x, h with
  | [], h => cases h
  | b :: t, h =>
    obtain ⟨k, hk⟩ : ∃ k, n = k + 1 := ⟨n - 1, by omega⟩
    have ha2 := ha
    rw [hk] at ha2
    obtain ⟨y1, rfl, h1⟩ := ha2.cons
    rw [elP] at h ⊢
    by_cases b34 : b.toNat = 34
    · rw [if_pos b34] at h; cases h
    · rw [if_neg b34] at h ⊢
      by_cases b92 : b.toNat = 92
      · rw [if_pos b92] at h ⊢
        cases hq : escP t with
        | bad => rw [hq] at h; cases h
        | trunc => rw [hq] at h; cases h
        | ok v m =>
          rw [hq] at h
          injection h with e1 e2
          subst e1
          have : escP y1 = .ok v m := escP_loc hq (h1.mono (by omega))
          rw [this]
          simp only []
          rw [e2]
      · rw [if_neg b92] at h ⊢
        by_cases b32 : b.toNat < 32
        · rw [if_pos b32] at h; cases h
        · rw [if_neg b32] at h ⊢
          cases hd : dec (b :: t) with
          | none => rw [hd] at h; cases h
          | some v =>
            obtain ⟨v, m⟩ := v
            rw [hd] at h
            injection h with e1 e2
            subst e1; subst e2
            rw [dec_loc hd ha]
theorem elP_quote {x y : List UInt8} (h : elP x = .quote) (ha : Agr 1 x y) : elP y = .quote := by
  match x, h with
  | [], h => cases h
  | b :: t, h =>
    obtain ⟨y1, rfl, -⟩ := ha.cons
    rw [elP] at h ⊢
    by_cases b34 : b.toNat = 34
    · rw [if_pos b34]
    · rw [if_neg b34] at h
      split at h
      · cases hq : escP t with
        | bad => rw [hq] at h; cases h
        | trunc => rw [hq] at h; cases h
        | ok v m => rw [hq] at h; cases h
      · split at h
        · cases h
        · cases hd : dec (b :: t) with
          | none => rw [hd] at h; cases h
          | some v => obtain ⟨v, m⟩ := v; rw [hd] at h; cases h
theorem strF_lt (l : List UInt8) (k : Nat) : ∀ (m i : Nat) (out : List UInt8), k < i → (strF l k m i out).e = 0 → i < (strF l k m i out).p
  | 0, i, out, h1, h => noX_e (by omega) h
  | m + 1, i, out, h1, h => by
    rw [strF] at h ⊢
    cases hq : elP (l.drop i) with
    | quote =>
      rw [hq] at h
      simp only [] at h ⊢
      split at h
      · rename_i ho
        rw [if_pos ho]
        exact Nat.lt_succ_self i
      · exact noX_e (by omega) h
    | trunc => rw [hq] at h; exact noX_e (by omega) h
    | stop e =>
      rw [hq] at h
      have := elP_stop hq
      exact noX_e (by omega) h
    | add r n =>
      rw [hq] at h
      simp only [] at h ⊢
      have := (elP_add hq).1
      have := strF_lt l k m _ _ (by omega) h
      omega
/-- A string that ends by the offset b reads the same where the same bytes stand. -/
theorem strF_loc {l T : List UInt8} {a A b : Nat} (hl : ∀ j, j < b - a → T[A + j]? = l[a + j]?) : ∀ (m i : Nat) (out : List UInt8) (m' : Nat), a ≤ i → (strF l a m i out).e = 0 → (strF l a m i out).p ≤ b → b - i ≤ m' →
    strF T A m' (A + (i - a)) out = okX 4 A (A + ((strF l a m i out).p - a)) 0 0 (strF l a m i out).s ∧ i < (strF l a m i out).p
  | 0, i, out, m', hai, h, hp, hm => noX_e (by omega) h
  | m + 1, i, out, m', hai, h, hp, hm => by
    rw [strF] at h hp ⊢
    have hag : ∀ n, n ≤ b - i → Agr n (l.drop i) (T.drop (A + (i - a))) := fun n hn j hj => by
      rw [List.getElem?_drop, List.getElem?_drop]
      have := hl (i - a + j) (by omega)
      rw [show A + (i - a) + j = A + (i - a + j) by omega, this]
      congr 1
      omega
    cases hq : elP (l.drop i) with
    | trunc => rw [hq] at h; exact noX_e (by omega) h
    | stop e =>
      rw [hq] at h
      have := elP_stop hq
      exact noX_e (by omega) h
    | quote =>
      rw [hq] at h hp
      simp only [] at h hp ⊢
      by_cases ho : out.length ≤ 4096
      · rw [if_pos ho] at h hp ⊢
        have hpb : i + 1 ≤ b := hp
        obtain ⟨m1, rfl⟩ : ∃ k, m' = k + 1 := ⟨m' - 1, by omega⟩
        rw [strF, elP_quote hq (hag 1 (by omega))]
        simp only []
        rw [if_pos ho]
        refine ⟨?_, Nat.lt_succ_self i⟩
        show okX 4 A (A + (i - a) + 1) 0 0 _ = okX 4 A (A + (i + 1 - a)) 0 0 _
        rw [show A + (i + 1 - a) = A + (i - a) + 1 by omega]
        rfl
      · rw [if_neg ho] at h
        exact noX_e (by omega) h
    | add r n =>
      rw [hq] at h hp
      simp only [] at h hp ⊢
      obtain ⟨g1, -, -, -⟩ := elP_add hq
      have key : i + n < (strF l a m (i + n) (out ++ enc r)).p := by
        have := strF_lt l a m (i + n) (out ++ enc r) (by omega) h
        exact this
      obtain ⟨m1, rfl⟩ : ∃ k, m' = k + 1 := ⟨m' - 1, by omega⟩
      obtain ⟨e1, e2⟩ := strF_loc hl m (i + n) (out ++ enc r) m1 (by omega) h hp (by omega)
      rw [strF, elP_loc hq (hag n (by omega))]
      simp only []
      rw [show A + (i - a) + n = A + (i + n - a) by omega]
      exact ⟨e1, by omega⟩
end Go.Proofs.YthgnelkppibpeaaGreatDoor
