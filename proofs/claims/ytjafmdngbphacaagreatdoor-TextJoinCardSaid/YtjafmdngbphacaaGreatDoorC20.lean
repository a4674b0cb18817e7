/- The program's compare, Compare, Equal, Truthy, TypeName. The program's Equal, Truthy, TypeName. The program's answers and the reference's are the same. -/
import Derived.Test.YtjafmdngbphacaaGreatDoorC15
import Derived.Test.YtjafmdngbphacaaGreatDoorC16
import Derived.Test.YtjafmdngbphacaaGreatDoorC19
import Derived.Test.YtjafmdngbphacaaGreatDoorC07
import Derived.Test.YtjafmdngbphacaaGreatDoorC10
import Derived.Test.YtjafmdngbphacaaGreatDoorC11
import Derived.Test.YtjafmdngbphacaaGreatDoorC09
import Derived.Test.YtjafmdngbphacaaGreatDoorC13
import Derived.Test.YtjafmdngbphacaaGreatDoorC14
import Derived.Deep.DeepCutAuto
import Derived.Deep.RegionHeld3
import Derived.Deep.Light
set_option linter.unusedVariables false
set_option linter.unusedSimpArgs false
namespace Go.Proofs.YtjafmdngbphacaaGreatDoor
open Go.RowKit
/-- The two boxes that a call lays first. -/
theorem box_two {w w' : World} {cs ds : Array Value} {t : TypeId} (hb : Below (w.heap.size + 2) ((w.alloc (.cells cs t)).alloc (.cells ds t)) w') (i : Nat) : w'.cell? ⟨w.heap.size, i, none⟩ = cs[i]? ∧ w'.cell? ⟨w.heap.size + 1, i, none⟩ = ds[i]? := by
  refine ⟨?_, ?_⟩
  · rw [hb.cell (p := ⟨w.heap.size, i, none⟩) (by show w.heap.size < _; omega)]
    have h1 : Box ((w.alloc (.cells cs t)).alloc (.cells ds t)) w.heap.size t cs := (Box.laid w t cs).alloc _
    exact cell_of_row _ _ i cs t (0, 0) h1
  · rw [hb.cell (p := ⟨w.heap.size + 1, i, none⟩) (by show w.heap.size + 1 < _; omega)]
    have h1 : Box ((w.alloc (.cells cs t)).alloc (.cells ds t)) (w.alloc (.cells cs t)).heap.size t ds := Box.laid _ t ds
    have e : (w.alloc (.cells cs t)).heap.size = w.heap.size + 1 := by simp
    rw [e] at h1
    exact cell_of_row _ _ i ds t (0, 0) h1
theorem below_two {w w' : World} {o p : Obj} (hb : Below (w.heap.size + 2) ((w.alloc o).alloc p) w') : Below w.heap.size w w' := (below2 w o p).trans (hb.mono (by omega))
/-- What Compare and Equal lean on, at two values that lie in w. -/
structure Two (v u : V) (cs ds : List Value) (w : World) : Prop where
  h1 : Lies w (· < w.heap.size) v cs
  h2 : Lies w (· < w.heap.size) u ds
theorem two_step {w w1 w2 : World} {cs ds : Array Value} {t : TypeId} (hb : Below (w.heap.size + 2) ((w.alloc (.cells cs t)).alloc (.cells ds t)) w1) (hc : Below w1.heap.size w1 w2) : Below (w.heap.size + 2) ((w.alloc (.cells cs t)).alloc (.cells ds t)) w2 :=
  hb.trans (hc.mono (by have := hb.size; simp at this; omega))
end Go.Proofs.YtjafmdngbphacaaGreatDoor
namespace Go.Proofs.YtjafmdngbphacaaGreatDoor
open Go.RowKit
theorem below_one {w w' : World} {o : Obj} (hb : Below (w.heap.size + 1) (w.alloc o) w') : Below w.heap.size w w' := below_old hb
theorem one_step {w w1 w2 : World} {o : Obj} (hb : Below (w.heap.size + 1) (w.alloc o) w1) (hc : Below w1.heap.size w1 w2) : Below (w.heap.size + 1) (w.alloc o) w2 :=
  hb.trans (hc.mono (by have := hb.size; simp at this; omega))
theorem below1 (w : World) (o : Obj) : Below w.heap.size w (w.alloc o) := (Below.refl _ _).alloc (Nat.le_refl _) o
end Go.Proofs.YtjafmdngbphacaaGreatDoor
namespace Go.Proofs.YtjafmdngbphacaaGreatDoor
open Go.RowKit
theorem meas_some (v : V) (d m b : Int) : meas v = some (d, m, b) ↔ good v = true ∧ dep v ≤ 32 ∧ v.sz ≤ 4096 ∧ vbyt v ≤ 65536 ∧ d = dep v ∧ m = v.sz ∧ b = vbyt v := by
  unfold meas
  rw [addP_iff v 0 0 0 0 d m b (by omega) (by omega) (by omega) (by omega) (by omega)]
  constructor
  · rintro ⟨h0, h1, h2, h3, h4, h5, h6⟩; exact ⟨h0, by omega, by omega, by omega, by omega, by omega, by omega⟩
  · rintro ⟨h0, h1, h2, h3, h4, h5, h6⟩; exact ⟨h0, by omega, by omega, by omega, by omega, by omega, by omega⟩
/-- A valid value, said once. -/
def Ok (v : V) : Prop := good v = true ∧ dep v ≤ 32 ∧ v.sz ≤ 4096 ∧ vbyt v ≤ 65536
theorem valid_iff (v : V) : valid v = true ↔ Ok v := by
  unfold valid
  cases h : meas v with
  | none =>
    constructor
    · intro h; cases h
    · rintro ⟨h0, h1, h2, h3⟩
      have := (meas_some v (dep v) v.sz (vbyt v)).2 ⟨h0, h1, h2, h3, rfl, rfl, rfl⟩
      rw [h] at this
      cases this
  | some q =>
    obtain ⟨d, m, b⟩ := q
    obtain ⟨h0, h1, h2, h3, _⟩ := (meas_some v d m b).1 h
    exact ⟨fun _ => ⟨h0, h1, h2, h3⟩, fun _ => rfl⟩
end Go.Proofs.YtjafmdngbphacaaGreatDoor
