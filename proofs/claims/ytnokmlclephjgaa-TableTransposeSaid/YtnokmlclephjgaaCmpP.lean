/- The order of values, plain. -/
import Derived.Test.YtnokmlclephjgaaStrs
import Derived.Test.YtnokmlclephjgaaIxD
set_option linter.unusedVariables false
set_option linter.unusedSimpArgs false
namespace Go.Proofs.Ytnokmlclephjgaa
mutual
/-- The order of two values. -/
def vcmp : V → V → Int
  | .mk k n s ks es, .mk k' n' s' ks' es' =>
    if icmp k k' = 0 then (if icmp n n' = 0 then (if scmp s s' = 0 then (if kcmp ks ks' = 0 then vcmpL es es' else kcmp ks ks') else scmp s s') else icmp n n') else icmp k k'
def vcmpL : List V → List V → Int
  | [], [] => 0
  | [], _ :: _ => -1
  | _ :: _, [] => 1
  | e :: es, f :: fs => if vcmp e f = 0 then vcmpL es fs else vcmp e f
end
theorem icmp_zero {x y : Int} : icmp x y = 0 ↔ x = y := by unfold icmp; (repeat' split) <;> omega
theorem vcmpL_step {es fs : List V} {i : Nat} {x y : V} (hx : es[i]? = some x) (hy : fs[i]? = some y) (h : vcmp x y = 0) : vcmpL (es.drop i) (fs.drop i) = vcmpL (es.drop (i + 1)) (fs.drop (i + 1)) := by
  obtain ⟨h1, rfl⟩ := List.getElem?_eq_some_iff.1 hx
  obtain ⟨h2, rfl⟩ := List.getElem?_eq_some_iff.1 hy
  rw [List.drop_eq_getElem_cons h1, List.drop_eq_getElem_cons h2, vcmpL, if_pos h]
theorem vcmpL_part {es fs : List V} {i : Nat} {x y : V} (hx : es[i]? = some x) (hy : fs[i]? = some y) (h : ¬ vcmp x y = 0) : vcmpL (es.drop i) (fs.drop i) = vcmp x y := by
  obtain ⟨h1, rfl⟩ := List.getElem?_eq_some_iff.1 hx
  obtain ⟨h2, rfl⟩ := List.getElem?_eq_some_iff.1 hy
  rw [List.drop_eq_getElem_cons h1, List.drop_eq_getElem_cons h2, vcmpL, if_neg h]
theorem vcmpL_end {es fs : List V} {i : Nat} (h : ¬ (i < es.length ∧ i < fs.length)) (hi : i ≤ es.length) (hj : i ≤ fs.length) : vcmpL (es.drop i) (fs.drop i) = icmp es.length fs.length := by
  by_cases h1 : i < es.length
  · have h2 : i = fs.length := by omega
    subst h2
    rw [List.drop_eq_getElem_cons h1, List.drop_eq_nil_of_le (Nat.le_refl _), vcmpL]
    unfold icmp
    rw [if_neg (by omega), if_pos (by omega)]
  · have h2 : i = es.length := by omega
    subst h2
    rw [List.drop_eq_nil_of_le (Nat.le_refl _)]
    by_cases h3 : es.length < fs.length
    · rw [List.drop_eq_getElem_cons h3, vcmpL]
      unfold icmp
      rw [if_pos (by omega)]
    · rw [List.drop_eq_nil_of_le (by omega), vcmpL]
      unfold icmp
      rw [if_neg (by omega), if_neg (by omega)]
end Go.Proofs.Ytnokmlclephjgaa
