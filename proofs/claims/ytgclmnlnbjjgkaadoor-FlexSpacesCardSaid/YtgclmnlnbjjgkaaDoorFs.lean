/- The table of signs: what the listed variable gives, and how it is read. -/
import Derived.Test.YtgclmnlnbjjgkaaDoorRows
import Derived.Test.YtgclmnlnbjjgkaaDoorFx
import Derived.Test.YtgclmnlnbjjgkaaDoorBox
import Derived.LaidMore
import Derived.LaidLaws
import Derived.Lib.LaidTab
import Derived.Laws.Rows
import Derived.Laws.Strings
set_option linter.unusedVariables false
set_option linter.unusedSimpArgs false
namespace Go.Proofs.YtgclmnlnbjjgkaaDoor
open Go.RowKit
theorem cells_of_strs {H : Type} {enc : TypeId × Value → H} {P : Program} {w : World} {base : Nat} {sp : Nat → Bool} {held : Bool} {fuel : Nat} {t e : TypeId} {n : Nat} {cs : List Value} {zs : List (List UInt8)} {p : List MemPlace}
    (ht : P.underlying t = some (.array n e)) (he : P.underlying e = some .string) (hce : P.cellsOf e = 1) (hct : P.cellsOf t = n)
    (h : DataW.trod enc P w base sp held fuel t cs = some (.agg (zs.map fun z => .lit (.string z)), p)) : cs = zs.map fun z => Value.string (bsF z) := by
  cases fuel with
  | zero => simp [DataW.trod] at h
  | succ fuel =>
    simp only [DataW.trod, ht, hce, hct, Nat.mul_one] at h
    split at h
    · rename_i hl
      obtain ⟨xs, hm, hx⟩ := Option.map_eq_some_iff.1 h
      have hxs : xs.map (·.1) = zs.map fun z => (DataW.lit (.string z) : DataW H) := by
        have := congrArg Prod.fst hx
        simpa using this
      have hxl : xs.length = n := by simpa using Lib.mapM_length hm
      have hzl : zs.length = n := by
        have := congrArg List.length hxs
        simp at this
        omega
      apply List.ext_getElem?
      intro i
      by_cases hi : i < n
      · obtain ⟨b, hb, hf⟩ := Lib.mapM_at hm i i (by simp [hi])
        obtain ⟨z, hc, rfl, _⟩ := DataW.trod_string he hf
        have h1 : cs[i]? = some (.string z) := by
          have := congrArg (·[0]?) hc
          simpa [List.getElem?_take, List.getElem?_drop] using this
        have h2 : (xs.map (·.1))[i]? = some (DataW.lit (.string z.data.toList) : DataW H) := by simp [hb]
        rw [hxs] at h2
        simp only [List.getElem?_map, Option.map_eq_some_iff, DataW.lit.injEq, Lit.string.injEq] at h2
        obtain ⟨z', hz', h3⟩ := h2
        rw [h1, List.getElem?_map, hz', h3]
        rfl
      · rw [List.getElem?_eq_none (by omega), List.getElem?_eq_none (by simp; omega)]
    · cases h
def sgV : Array Value := (signsL.map fun t => Value.string (bsF t)).toArray
theorem sgV_size : sgV.size = 32 := by decide
theorem sgV_at {j : Nat} {t : List UInt8} (h : signsL[j]? = some t) : sgV[j]? = some (.string (bsF t)) := by
  unfold sgV
  simp [h]
/-- The table of signs lies as the program text lays it. -/
def SgIn (w : World) : Prop := ∃ t fr, w.heap[0]? = some (.cells sgV t fr)
theorem SgIn.next {w w' : World} (h : SgIn w) (hb : Below w.heap.size w w') : SgIn w' := by
  obtain ⟨t, fr, hc⟩ := h
  exact ⟨t, fr, (hb.block _ (Array.getElem?_eq_some_iff.1 hc).1).trans hc⟩
theorem sg_of_head {W : World} {rest : List (String × DataW Unit)} (h : laidMet Tryd.prog (("ndjq/flex.signs", .agg (signsL.map fun z => .lit (.string z))) :: rest) W) : SgIn W := by
  obtain ⟨ps, ⟨g', t', cs, fuel, p, q, hg', ht', hvar, hd, _, _⟩, _⟩ := h
  have hg : Tryd.prog.globalNamed "ndjq/flex.signs" = some 0 := by kernel_rfl
  have hty : (Tryd.prog.globals[0]?).map (·.type) = some 52 := by kernel_rfl
  obtain rfl := Option.some.inj (hg.symm.trans hg')
  obtain rfl := Option.some.inj (hty.symm.trans ht')
  have hcs := cells_of_strs (n := 32) Tryd.underlying52 Tryd.underlying9 (by kernel_rfl) (by kernel_rfl) hd
  unfold World.var? at hvar
  rw [hg, Option.bind_some] at hvar
  cases hq : W.heap[0]? with
  | none => rw [hq] at hvar; cases hvar
  | some o =>
    rw [hq] at hvar
    cases o with
    | cells ds t fr =>
      simp only [Option.some.injEq] at hvar
      refine ⟨t, fr, ?_⟩
      rw [hq, hvar]
      have e : cs = sgV := by
        apply Array.toList_inj.1
        rw [hcs]
        unfold sgV
        simp
      rw [e]
    | _ => cases hvar
theorem index_sign {j : Nat} {t : List UInt8} (h : signsL[j]? = some t) (w : World) : (Instr.index 52 (.agg sgV) (.int .i64 (j : Int))).run Tryd.prog w = .ok (.string (bsF t)) w := by
  have hj : j < 32 := (List.getElem?_eq_some_iff.1 h).1
  have hc := sgV_at h
  have hg : sgV.getD j undef = .string (bsF t) := by simp [Array.getD_eq_getD_getElem?, hc]
  simp [Instr.index, asIntOf, run_underlying Tryd.underlying52, hj, part, Tryd.sizeOf9, Tryd.isAgg9, hc, hg]
end Go.Proofs.YtgclmnlnbjjgkaaDoor
