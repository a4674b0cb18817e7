/- A value that came in reads as a tree. -/
import Derived.SliceStrings
import Derived.SizedLaws
import Derived.Test.YtbpbplfiamllnaaRows
import Derived.Test.YtbpbplfiamllnaaLaw
import Derived.Test.YtbpbplfiamllnaaVal
set_option linter.unusedVariables false
set_option linter.unusedSimpArgs false
namespace Go.Proofs.Ytbpbplfiamllnaa
open Go.ChangeShapes Go.WideShapes Go.ChangeAt Go.RowKit
section
variable {H : Type} {enc : TypeId × Value → H} {w : World}
theorem weightsAll_mem {P : Program} {e : TypeId} {d : DataW H} : ∀ {l : List (DataW H)}, d ∈ l → ∀ n ∈ d.weights P e, n ∈ DataW.weightsAll P e l
  | [], h, _, _ => by cases h
  | x :: r, h, n, hn => by
    rw [DataW.weightsAll, List.mem_append]
    rcases List.mem_cons.1 h with rfl | h
    · exact .inl hn
    · exact .inr (weightsAll_mem h n hn)
/-- No string and no slice of the data takes more than the reach. -/
def Slim (P : Program) (t : TypeId) (d : DataW H) : Prop := ∀ n ∈ d.weights P t, n ≤ 140737488355328
theorem add_off (b o j : Nat) : ((⟨b, o, none⟩ : Addr).add j) = ⟨b, o + j, none⟩ := by
  unfold Addr.add
  by_cases h : j = 0 <;> simp [h]
theorem liesL_range {S : Nat → Prop} {Vf : Nat → V} {C : Nat → List Value} : ∀ len : Nat, (∀ i, i < len → Lies w S (Vf i) (C i)) → LiesL w S ((List.range len).map Vf) ((List.range len).flatMap C)
  | 0, _ => by simp [LiesL]
  | len + 1, h => by
    rw [List.range_succ, List.map_append, List.flatMap_append]
    have := LiesL.snoc (liesL_range len fun i hi => h i (by omega)) (h len (by omega))
    simpa using this
theorem rs_range {S : Nat → Prop} {b o : Nat} {C : Nat → List Value} (hb : ∀ i, S b ∨ i = i + 1) : ∀ len : Nat, (∀ i, i < len → (C i).length = 5 ∧ ∀ r, r < 5 → w.cell? ⟨b, o + i * 5 + r, none⟩ = (C i)[r]?) →
    ((List.range len).flatMap C).length = len * 5 ∧ ∀ j u, ((List.range len).flatMap C)[j]? = some u → w.cell? ⟨b, o + j, none⟩ = some u
  | 0, _ => by simp
  | len + 1, h => by
    obtain ⟨h1, h2⟩ := rs_range hb len fun i hi => h i (by omega)
    obtain ⟨h3, h4⟩ := h len (by omega)
    rw [List.range_succ, List.flatMap_append]
    have e : [len].flatMap C = C len := by simp
    rw [e]
    refine ⟨by rw [List.length_append, h1, h3]; omega, fun j u hj => ?_⟩
    by_cases hlt : j < len * 5
    · rw [List.getElem?_append_left (by omega)] at hj
      exact h2 j u hj
    · rw [List.getElem?_append_right (by omega), h1] at hj
      obtain ⟨hr, -⟩ := List.getElem?_eq_some_iff.1 hj
      have := h4 (j - len * 5) (by omega)
      rw [hj] at this
      rw [← this]
      congr 2
      omega
/-- A slice of strings that came in, in cells. -/
theorem open_keys {P : Program} {t e : TypeId} {fuel : Nat} {cs : List Value} {x : DataW H × List MemPlace} (ht : P.underlying t = some (.slice e)) (he : P.underlying e = some .string) (hc : P.cellsOf e = 1) (hby : 1 ≤ P.bytesOf e)
    (h : DataW.trod enc P w 0 (fun _ => true) true fuel t cs = some x) (hs : Slim P t x.1) :
    ∃ (A : Option Addr) (a : Nat) (ks : List ByteArray), cs = [.slice A ks.length a] ∧ (A = none → a = 0) ∧ (ks.length ≤ a ∧ a ≤ maxLen) ∧ Rs w (· < w.heap.size) A (kv ks) ∧ (∀ k ∈ ks, k.size ≤ 140737488355328) ∧ ks.length ≤ 140737488355328 := by
  rcases open_strings ht he hc h with ⟨rfl, rfl⟩ | ⟨a, len, cap, ss, rfl, -, hl, hm, hsl, rfl, hcell, -⟩
  · exact ⟨none, 0, [], rfl, fun _ => rfl, ⟨Nat.le_refl _, Nat.zero_le _⟩, Rs.nil _ _ _, by simp, Nat.zero_le _⟩
  · simp only [if_true] at hsl
    have htl : (ss.take len).length = len := by rw [List.length_take]; omega
    have hw := hs
    unfold Slim at hw
    simp only [DataW.weights, ht] at hw
    have hn := hw _ List.mem_cons_self
    refine ⟨some a, cap, ss.take len, by rw [htl], (fun h => by cases h), ⟨by omega, hm⟩, ?_, ?_, ?_⟩
    · intro j u hj
      have hjl : j < len := by
        rcases Nat.lt_or_ge j len with h1 | h1
        · exact h1
        · rw [List.getElem?_eq_none (by rw [kv_length]; omega)] at hj; cases hj
      have hcj := hcell j (by omega)
      have hc0 := hcell 0 (by omega)
      obtain ⟨b, o, sp⟩ := a
      have hsp : sp = none := by simpa [Addr.add] using World.cell?_spot hc0
      subst hsp
      rw [add_off] at hcj
      refine ⟨b, o, rfl, World.block_lt_of_cell? w _ hcj, ?_⟩
      rw [hcj]
      have hjz : j < ss.length := by omega
      simp only [kv, List.getElem?_map, List.getElem?_take, hjl, if_true] at hj
      rw [List.getElem?_eq_getElem hjz] at hj
      injection hj with hj
      subst hj
      simp [List.getD, List.getElem?_eq_getElem hjz]
    · intro k hk
      have := hw k.data.toList.length (List.mem_cons_of_mem _ (List.mem_append_left _ (weightsAll_mem (d := .lit (.string k.data.toList)) (by simp only [strs, List.mem_map]; exact ⟨k, hk, rfl⟩) _ (by simp [DataW.weights]))))
      simpa using this
    · rw [htl]
      have h0 : (strs (H := H) (ss.take len)).length + (strs (H := H) (ss.drop len)).length = ss.length := by simp [strs]; omega
      rw [h0] at hn
      have := Nat.mul_le_mul_left ss.length hby
      omega
end
end Go.Proofs.Ytbpbplfiamllnaa
