/- The reference's Valid, Nodes, Truthy, TypeName, Depth. -/
import Derived.Test.YtkohnkofnobakaaGreatDoorRMeas
import Derived.Test.YtkohnkofnobakaaGreatDoorCmp2
set_option linter.unusedVariables false
set_option linter.unusedSimpArgs false
namespace Go.Proofs.YtkohnkofnobakaaGreatDoor
open Go.RowKit
def validR (v : V) : Bool := match rmP v 0 with | none => false | some (m, b) => decide (m ≤ 4096) && decide (b ≤ 65536)
set_option maxHeartbeats 1000000 in
set_option maxRecDepth 100000 in
theorem rvalid_any (v : V) (cs : List Value) (w : World) (h : Lies w (· < w.heap.size) v cs) :
    Calls Tryz.prog 54 #[.agg cs.toArray] w fun e w' => e = .returned (.bool (validR v)) ∧ Below w.heap.size w w' := by
  have q1 := Lib.hid (fun W (hW : Below w.heap.size w W) => rm_any v 0 cs W (below_lies hW h) (by omega) (by omega))
  have hbd : ∀ m b, rmP v 0 = some (m, b) → (1 ≤ m ∧ m ≤ 4096) ∧ (0 ≤ b ∧ b ≤ 5000000) := fun m b hh => rmP_bd v 0 m b hh
  obtain ⟨k, n, s, ks, es⟩ := v
  obtain ⟨A, a, B, b, xs, rfl, _⟩ := lies_open h
  clear h
  show Calls _ _ #[.agg #[.int .i64 k, .int .i64 n, .string s, .slice A ks.length a, .slice B es.length b]] w _
  unfold validR
  generalize rmP (.mk k n s ks es) 0 = o at q1 hbd ⊢
  rcases o with _ | ⟨m, c⟩
  · clear hbd
    simp only [rmV] at q1
    go_enter Tryz.func54, Tryz.ntmps54
    go_wp2_with fail
    refine (q1.out _ (below1 _ _)).mono ?_
    rintro e1 w1 ⟨rfl, hb1⟩
    go_wp2_with fail
    go_ret
    exact ⟨rfl, chain (below1 _ _) hb1⟩
  · obtain ⟨⟨m0, m1⟩, c0, c1⟩ := hbd _ _ rfl
    clear hbd
    simp only [rmV] at q1
    by_cases hc : c ≤ 65536
    all_goals
      go_enter Tryz.func54, Tryz.ntmps54
      go_wp2_with fail
      refine (q1.out _ (below1 _ _)).mono ?_
      rintro e1 w1 ⟨rfl, hb1⟩
      go_wp2_with fail
      go_ret
      exact ⟨ret_bool (by simp [m1, hc]), chain (below1 _ _) hb1⟩
end Go.Proofs.YtkohnkofnobakaaGreatDoor
