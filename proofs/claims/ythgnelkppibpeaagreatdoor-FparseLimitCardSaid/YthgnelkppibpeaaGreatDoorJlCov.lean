/- Where the first token of a JSON text lies: plain. Nothing of the program is named here. -/
import Derived.Test.YthgnelkppibpeaaGreatDoorJlNum
set_option linter.unusedVariables false
set_option linter.unusedSimpArgs false
namespace Go.Proofs.YthgnelkppibpeaaGreatDoor
/-- A token that was found stands from k on, and takes a byte at least, or is the end. -/
def Stands (L k : Nat) (x : Lx) : Prop := x.f = k ∧ x.p = x.t ∧ x.t ≤ L ∧ ((x.k = 0 ∧ k = L ∧ x.t = L) ∨ (x.k ≠ 0 ∧ k < x.t))
theorem noX_e {p e : Nat} (he : e ≠ 0) {C : Prop} (h : (noX p e).e = 0) : C := absurd h he
theorem elP_stop {l : List UInt8} {e : Nat} (h : elP l = .stop e) : e = 4 ∨ e = 6 := by
  match l, h with
  | [], h => cases h
  | b :: t, h =>
    rw [elP] at h
    split at h
    · cases h
    · split at h
      · cases hq : escP t with
        | bad => rw [hq] at h; injection h with h; exact .inl h.symm
        | trunc => rw [hq] at h; cases h
        | ok x y => rw [hq] at h; cases h
      · split at h
        · injection h with h; exact .inl h.symm
        · cases hq : dec (b :: t) with
          | none => rw [hq] at h; injection h with h; exact .inr h.symm
          | some x => obtain ⟨x, y⟩ := x; rw [hq] at h; cases h
theorem strF_ok (l : List UInt8) (k : Nat) : ∀ (m i : Nat) (out : List UInt8), k < i → i ≤ l.length → (strF l k m i out).e = 0 → Stands l.length k (strF l k m i out)
  | 0, i, out, h1, h2, h => noX_e (by omega) h
  | m + 1, i, out, h1, h2, h => by
    rw [strF] at h ⊢
    cases hq : elP (l.drop i) with
    | quote =>
      rw [hq] at h
      simp only [] at h ⊢
      have hi : i < l.length := by
        rcases Nat.lt_or_ge i l.length with h3 | h3
        · exact h3
        · rw [List.drop_eq_nil_of_le h3] at hq; cases hq
      split at h
      · rename_i ho
        rw [if_pos ho]
        exact ⟨rfl, rfl, hi, .inr ⟨Nat.succ_ne_zero 3, by show k < i + 1; omega⟩⟩
      · exact noX_e (by omega) h
    | trunc => rw [hq] at h; exact noX_e (by omega) h
    | stop e =>
      rw [hq] at h
      have := elP_stop hq
      exact noX_e (by omega) h
    | add r n =>
      rw [hq] at h
      simp only [] at h ⊢
      obtain ⟨h3, h4, -, -⟩ := elP_add hq
      rw [List.length_drop] at h4
      exact strF_ok l k m _ _ (by omega) (by omega) h
theorem lexN_ok {l : List UInt8} {k : Nat} (hk : k ≤ l.length) (h : (lexN l k).e = 0) : Stands l.length k (lexN l k) := by
  unfold lexN at h ⊢
  by_cases h0 : k = l.length
  · rw [if_pos h0]
    exact ⟨rfl, rfl, hk, .inl ⟨rfl, h0, h0⟩⟩
  · have hlt : k < l.length := by omega
    have hgd : l[k]?.getD 0 = l[k] := by rw [List.getElem?_eq_getElem hlt]; rfl
    rw [if_neg h0] at h ⊢
    split at h
    · rename_i h1
      rw [if_pos h1]
      exact ⟨rfl, rfl, hlt, .inr ⟨Nat.succ_ne_zero 0, Nat.lt_succ_self k⟩⟩
    · rename_i h1
      rw [if_neg h1]
      split at h
      · rename_i h2
        rw [if_pos h2]
        unfold wordP at h ⊢
        split at h
        · rename_i hw
          refine ⟨rfl, rfl, span_le hk, .inr ⟨Nat.succ_ne_zero 1, ?_⟩⟩
          show k < span letB l k
          rw [span_in hlt (by rw [← hgd]; exact h2)]
          exact span_ge _ _ _
        · exact noX_e (by omega) h
      · rename_i h2
        rw [if_neg h2]
        split at h
        · rename_i h3
          rw [if_pos h3]
          unfold numP at h ⊢
          split at h
          · exact noX_e (by omega) h
          · rename_i h4
            rw [if_neg h4]
            split at h
            · exact noX_e (by omega) h
            · rename_i h5
              rw [if_neg h5]
              split at h
              · exact noX_e (by omega) h
              · rename_i h6
                rw [if_neg h6]
                have hge := span_ge digB l (firstP l k)
                have hf : k ≤ firstP l k ∧ firstP l k ≤ l.length := by rcases firstP_cases (l := l) (k := k) with ⟨_, h⟩ | ⟨_, h⟩ <;> omega
                split at h
                · exact noX_e (by omega) h
                · rename_i v hv
                  exact ⟨rfl, rfl, span_le hf.2, .inr ⟨Nat.succ_ne_zero 2, by show k < span digB l (firstP l k); omega⟩⟩
        · rename_i h3
          rw [if_neg h3]
          split at h
          · rename_i h4
            rw [if_pos h4]
            exact strF_ok l k _ _ _ (by omega) (by omega) h
          · exact noX_e (by omega) h
/-- The token that is found from the offset k on. -/
theorem lexP_ok {l : List UInt8} {k : Nat} (hk : k ≤ l.length) (h : (lexP l k).e = 0) : k ≤ (lexP l k).f ∧ Stands l.length (lexP l k).f (lexP l k) ∧ ∀ i (hi : i < l.length), k ≤ i → i < (lexP l k).f → blankB l[i] = true := by
  unfold lexP at h ⊢
  rw [if_neg (by omega)] at h ⊢
  rw [Int.toNat_natCast] at h ⊢
  have hle : span blankB l k ≤ l.length := span_le hk
  have hs := lexN_ok hle h
  rw [hs.1]
  exact ⟨span_ge _ _ _, hs, fun i hi h1 h2 => span_all hi h1 h2⟩
end Go.Proofs.YthgnelkppibpeaaGreatDoor
