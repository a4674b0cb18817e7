/- TextCase, plain: lower and upper on bytes and on code points. -/
import Derived.Test.YtjafmdngbphacaaGreatDoorC44
set_option linter.unusedVariables false
set_option linter.unusedSimpArgs false
namespace Go.Proofs.YtjafmdngbphacaaGreatDoor
open Go.RowKit
def lowF (r : Int) : Int := if 65 ≤ r ∧ r ≤ 90 then r + 32 else r
def upF (r : Int) : Int := if 97 ≤ r ∧ r ≤ 122 then r - 32 else r
def lowB (b : UInt8) : UInt8 := if 65 ≤ b.toNat ∧ b.toNat ≤ 90 then b + 32 else b
def upB (b : UInt8) : UInt8 := if 97 ≤ b.toNat ∧ b.toNat ≤ 122 then b - 32 else b
theorem low_nat (b : UInt8) : (lowB b).toNat = if 65 ≤ b.toNat ∧ b.toNat ≤ 90 then b.toNat + 32 else b.toNat := by
  unfold lowB
  split
  · rw [UInt8.toNat_add]; have : (32 : UInt8).toNat = 32 := rfl; rw [this]; omega
  · rfl
theorem up_nat (b : UInt8) : (upB b).toNat = if 97 ≤ b.toNat ∧ b.toNat ≤ 122 then b.toNat - 32 else b.toNat := by
  unfold upB
  split
  · rename_i h
    rw [UInt8.toNat_sub_of_le _ _ (by rw [UInt8.le_iff_toNat_le]; have : (32 : UInt8).toNat = 32 := rfl; rw [this]; omega)]
    rfl
  · rfl
theorem byte_ext {a b : UInt8} (h : a.toNat = b.toNat) : a = b := UInt8.toNat_inj.1 h
theorem asc_low : AscF lowF lowB where
  low b hb := by
    rw [low_nat]
    unfold lowF
    split <;> split <;> constructor <;> omega
  high r hr := by unfold lowF; rw [if_neg (by omega)]
  highB b hb := byte_ext (by rw [low_nat, if_neg (by omega)])
theorem asc_up : AscF upF upB where
  low b hb := by
    rw [up_nat]
    unfold upF
    split <;> split <;> constructor <;> omega
  high r hr := by unfold upF; rw [if_neg (by omega)]
  highB b hb := byte_ext (by rw [up_nat, if_neg (by omega)])
theorem tl_map {g : UInt8 → UInt8} (hg : ∀ b : UInt8, 128 ≤ b.toNat → g b = b) : ∀ (n acc r : Nat) (l : List UInt8), tl n acc l = some r → tl n acc (l.map g) = some r
  | 0, acc, r, l, h => by simpa [tl] using h
  | n + 1, acc, r, [], h => by simp [tl] at h
  | n + 1, acc, r, b :: t, h => by
    rw [tl] at h
    split at h
    · rename_i hb
      rw [List.map_cons, hg b hb.1, tl, if_pos hb]
      exact tl_map hg n _ r t h
    · cases h
theorem fin_map {n least acc : Nat} {g : UInt8 → UInt8} {t : List UInt8} {q : Nat × Nat} (hg : ∀ b : UInt8, 128 ≤ b.toNat → g b = b) (h : fin n least (tl n acc t) = some q) : fin n least (tl n acc (t.map g)) = some q := by
  cases hq : tl n acc t with
  | none => rw [hq] at h; simp [fin] at h
  | some r => rw [hq] at h; rw [tl_map hg n acc r t hq]; exact h
/-- A string stays valid under such a function. -/
theorem dec_map {f : Int → Int} {g : UInt8 → UInt8} (A : AscF f g) {l : List UInt8} {r n : Nat} (h : dec l = some (r, n)) : ∃ r', dec (l.map g) = some (r', n) := by
  cases l with
  | nil => simp [dec] at h
  | cons b t =>
    rw [dec_cons] at h
    rw [List.map_cons, dec_cons]
    by_cases hb : b.toNat < 128
    · rw [if_pos hb] at h
      injection h with h; injection h with h1 h2
      subst h2
      exact ⟨_, if_pos (A.low b hb).2⟩
    · rw [A.highB b (by omega), if_neg hb]
      rw [if_neg hb] at h
      split at h
      · cases h
      rename_i c1
      rw [if_neg c1]
      split at h
      · rename_i c2; rw [if_pos c2]; exact ⟨r, fin_map A.highB h⟩
      rename_i c2
      rw [if_neg c2]
      split at h
      · rename_i c3; rw [if_pos c3]; exact ⟨r, fin_map A.highB h⟩
      rename_i c3
      rw [if_neg c3]
      split at h
      · rename_i c4; rw [if_pos c4]; exact ⟨r, fin_map A.highB h⟩
      · cases h
theorem runes_map {f : Int → Int} {g : UInt8 → UInt8} (A : AscF f g) : ∀ (n : Nat) (l : List UInt8) (xs : List Nat), l.length ≤ n → runes l = some xs → (runes (l.map g)).isSome = true := by
  intro n
  induction n with
  | zero =>
    intro l xs hl h
    have : l = [] := List.eq_nil_of_length_eq_zero (by omega)
    subst this
    rfl
  | succ n ih =>
    intro l xs hl h
    cases l with
    | nil => rfl
    | cons b t =>
      cases hd : dec (b :: t) with
      | none => rw [runes_none (by simp) hd] at h; cases h
      | some rn =>
        obtain ⟨r, k⟩ := rn
        obtain ⟨_, h1, _, h4⟩ := dec_some_cp hd
        rw [runes_some hd] at h
        cases hr : runes ((b :: t).drop k) with
        | none => rw [hr] at h; cases h
        | some ys =>
          have ih2 := ih ((b :: t).drop k) ys (by rw [List.length_drop]; omega) hr
          obtain ⟨r', hd2⟩ := dec_map A hd
          rw [runes_some hd2, ← List.map_drop]
          cases hq : runes (((b :: t).drop k).map g) with
          | none => rw [hq] at ih2; cases ih2
          | some zs => rfl
end Go.Proofs.YtjafmdngbphacaaGreatDoor
