/- The reference's Valid, Nodes, Truthy, TypeName, Depth. The reference's Compare, Equal, TypeName. The program's answers and the reference's are the same. -/
import Derived.Test.YtacnpligpbiamaaDoorRMeas
import Derived.Test.YtacnpligpbiamaaDoorG12
import Derived.Test.YtacnpligpbiamaaDoorG3
set_option linter.unusedVariables false
set_option linter.unusedSimpArgs false
namespace Go.Proofs.YtacnpligpbiamaaDoor
open Go.RowKit
def validR (v : V) : Bool := match rmP v 0 with | none => false | some (m, b) => decide (m ≤ 4096) && decide (b ≤ 65536)
set_option maxHeartbeats 1000000 in
set_option maxRecDepth 100000 in
theorem rvalid_any (v : V) (cs : List Value) (w : World) (h : Lies w (· < w.heap.size) v cs) :
    Calls Tryd.prog 37 #[.agg cs.toArray] w fun e w' => e = .returned (.bool (validR v)) ∧ Below w.heap.size w w' := by
  have q1 := Lib.hid (fun W (hW : Below w.heap.size w W) => rm_any v 0 cs W (below_lies hW h) (by omega) (by omega))
  have hbd : ∀ m b, rmP v 0 = some (m, b) → (1 ≤ m ∧ m ≤ 4096) ∧ (0 ≤ b ∧ b ≤ 5000000) := fun m b hh => rmP_bd v 0 m b hh
  obtain ⟨k, n, s, ks, es⟩ := v
  obtain ⟨A, a, B, b, xs, rfl, _⟩ := lies_open h
  clear h
  show Calls _ _ #[.agg #[.int .i64 k, .int .i64 n, .string s, .slice A ks.length a, .slice B es.length b]] w _
  unfold validR
  generalize rmP (.mk k n s ks es) 0 = o at q1 hbd ⊢
  rcases o with _ | ⟨m, c⟩
  · clear hbd
    simp only [rmV] at q1
    go_enter Tryd.func37, Tryd.ntmps37
    go_wp2_with fail
    refine (q1.out _ (below1 _ _)).mono ?_
    rintro e1 w1 ⟨rfl, hb1⟩
    go_wp2_with fail
    go_ret
    exact ⟨rfl, chain (below1 _ _) hb1⟩
  · obtain ⟨⟨m0, m1⟩, c0, c1⟩ := hbd _ _ rfl
    clear hbd
    simp only [rmV] at q1
    by_cases hc : c ≤ 65536
    all_goals
      go_enter Tryd.func37, Tryd.ntmps37
      go_wp2_with fail
      refine (q1.out _ (below1 _ _)).mono ?_
      rintro e1 w1 ⟨rfl, hb1⟩
      go_wp2_with fail
      go_ret
      exact ⟨ret_bool (by simp [m1, hc]), chain (below1 _ _) hb1⟩
end Go.Proofs.YtacnpligpbiamaaDoor
namespace Go.Proofs.YtacnpligpbiamaaDoor
open Go.RowKit
/-- What Compare and Equal lean on, at two values that lie in w. -/
structure TwoR (v u : V) (cs ds : List Value) (w : World) : Prop where
  h1 : Lies w (· < w.heap.size) v cs
  h2 : Lies w (· < w.heap.size) u ds
theorem TwoR.val1 {v u : V} {cs ds : List Value} {w W : World} (h : TwoR v u cs ds w) (hb : Below w.heap.size w W) : Calls Tryd.prog 37 #[.agg cs.toArray] W fun e w' => e = .returned (.bool (validR v)) ∧ Below W.heap.size W w' := rvalid_any v cs W (below_lies hb h.h1)
theorem TwoR.val2 {v u : V} {cs ds : List Value} {w W : World} (h : TwoR v u cs ds w) (hb : Below w.heap.size w W) : Calls Tryd.prog 37 #[.agg ds.toArray] W fun e w' => e = .returned (.bool (validR u)) ∧ Below W.heap.size W w' := rvalid_any u ds W (below_lies hb h.h2)
end Go.Proofs.YtacnpligpbiamaaDoor
namespace Go.Proofs.YtacnpligpbiamaaDoor
open Go.RowKit
theorem meas_some (v : V) (d m b : Int) : meas v = some (d, m, b) ↔ good v = true ∧ dep v ≤ 32 ∧ v.sz ≤ 4096 ∧ vbyt v ≤ 65536 ∧ d = dep v ∧ m = v.sz ∧ b = vbyt v := by
  unfold meas
  rw [addP_iff v 0 0 0 0 d m b (by omega) (by omega) (by omega) (by omega) (by omega)]
  constructor
  · rintro ⟨h0, h1, h2, h3, h4, h5, h6⟩; exact ⟨h0, by omega, by omega, by omega, by omega, by omega, by omega⟩
  · rintro ⟨h0, h1, h2, h3, h4, h5, h6⟩; exact ⟨h0, by omega, by omega, by omega, by omega, by omega, by omega⟩
/-- A valid value, said once. -/
def Ok (v : V) : Prop := good v = true ∧ dep v ≤ 32 ∧ v.sz ≤ 4096 ∧ vbyt v ≤ 65536
theorem valid_iff (v : V) : valid v = true ↔ Ok v := by
  unfold valid
  cases h : meas v with
  | none =>
    constructor
    · intro h; cases h
    · rintro ⟨h0, h1, h2, h3⟩
      have := (meas_some v (dep v) v.sz (vbyt v)).2 ⟨h0, h1, h2, h3, rfl, rfl, rfl⟩
      rw [h] at this
      cases this
  | some q =>
    obtain ⟨d, m, b⟩ := q
    obtain ⟨h0, h1, h2, h3, _⟩ := (meas_some v d m b).1 h
    exact ⟨fun _ => ⟨h0, h1, h2, h3⟩, fun _ => rfl⟩
theorem validR_iff (v : V) : validR v = true ↔ Ok v := by
  unfold validR
  cases h : rmP v 0 with
  | none =>
    constructor
    · intro h; cases h
    · rintro ⟨h0, h1, h2, h3⟩
      have := (rmP_iff v 0 v.sz (vbyt v) (by omega) (by omega)).2 ⟨h0, by omega, h2, h3, rfl, rfl⟩
      rw [h] at this
      cases this
  | some q =>
    obtain ⟨m, b⟩ := q
    obtain ⟨h0, h1, h2, h3, rfl, rfl⟩ := (rmP_iff v 0 m b (by omega) (by omega)).1 h
    constructor
    · intro _; exact ⟨h0, by omega, h2, h3⟩
    · intro _; simp; omega
theorem valid_same (v : V) : validR v = valid v := by rw [Bool.eq_iff_iff, valid_iff, validR_iff]
end Go.Proofs.YtacnpligpbiamaaDoor
