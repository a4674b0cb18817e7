import Derived.Test.YtoleoimmpggldaaGreatDoorYj
import Derived.Test.YtoleoimmpggldaaGreatDoorYk
import Derived.Test.YtoleoimmpggldaaGreatDoorYo
set_option linter.unusedVariables false
set_option linter.unusedSectionVars false
set_option linter.unusedSimpArgs false
namespace Go.Proofs.YtoleoimmpggldaaGreatDoor
open Go.RowKit
theorem rules_ok {L : List Fk} (hL : TokL L) {gt C g : Nat} : ∀ n, n ≤ 400000 → OkA L gt C g (run L n)
 | 0, _ => fun r W σ t τ hP hm => by simp [run] at hm
 | n + 1, hn => by
  have hA : OkA L gt C g (run L n) := rules_ok hL n (by omega);have hFE := fun W σ τ t (h : PAt L gt C g W σ) hm => foreach_any hL hA W σ τ t h hm
  intro r
  cases r with
  | filter => exact filter_any hL n hA
  | comma => exact comma_any hL n hA
  | update => exact update_any hL n hA
  | alt => exact alt_any hL n hA
  | or_ => exact or_any hL n hA
  | and_ => exact and_any hL n hA
  | cmp => exact cmp_any hL n hA
  | sum => exact sum_any hL n hA
  | product => exact product_any hL n hA
  | unary => exact unary_any hL hA
  | operand => exact operand_any hL n (by omega) hA
  | post => exact postfix_any hL n hA
  | primary => exact primary_any hL n (by omega) hA hFE
  | condition => exact cond_any hL hA
