/- Package arith: boxes of arguments, what a call hands back. -/
import Derived.Test.YtbojpopgjcmlbaaGreatDoorArP
import Derived.Test.YtbojpopgjcmlbaaGreatDoorCat
import Derived.Test.YtbojpopgjcmlbaaGreatDoorMake2
import Derived.Test.YtbojpopgjcmlbaaGreatDoorCmp2
set_option linter.unusedVariables false
set_option linter.unusedSimpArgs false
namespace Go.Proofs.YtbojpopgjcmlbaaGreatDoor
open Go.RowKit Go.Sort
/-- Two arrays of two ints. -/
theorem eq_pair_aux (d : Nat) (x y x' y' : Int) (W : World) : Sem.run Tryz.prog (Op.equalIn (d + 1 + 1) 91 (.agg #[.int .i64 x, .int .i64 y]) (.agg #[.int .i64 x', .int .i64 y'])) W = .ok (x == x' && y == y') W := by
  have hi : ∀ a b W, Sem.run Tryz.prog (Op.equalIn (d + 1) 3 (.int .i64 a) (.int .i64 b)) W = .ok (a == b) W := fun a b W => run_equalIn_int W d 3 .i64 .i64 a b Tryz.underlying3
  have hs := Tryz.sizeOf3
  have ha := Tryz.isAgg3
  rw [Op.equalIn]
  simp only [Sem.run_bind, run_underlying Tryz.underlying91, Result.andThen_ok, hs]
  generalize Op.equalIn (d + 1) = f at hi
  have p0 : ∀ (a b : Value) W, Sem.run Tryz.prog (Go.part 3 #[a, b] 0) W = .ok a W := fun a b W => by simp [Go.part, ha]
  have p1 : ∀ (a b : Value) W, Sem.run Tryz.prog (Go.part 3 #[a, b] 1) W = .ok b W := fun a b W => by simp [Go.part, ha]
  simp [Std.Legacy.Range.forIn_eq_forIn_range', Std.Legacy.Range.size, List.range', hi, p0, p1]
  cases h1 : x == x' <;> cases h2 : y == y' <;> simp_all
theorem eq_pair (x y x' y' : Int) (W : World) : Sem.run Tryz.prog (Op.equalIn 10000 91 (.agg #[.int .i64 x, .int .i64 y]) (.agg #[.int .i64 x', .int .i64 y'])) W = .ok (x == x' && y == y') W := eq_pair_aux 9998 x y x' y' W
/-- A result stored into its block. -/
theorem ret_put {w W : World} {g : Nat} {v : V} {err : Int} {r0 r1 r2 r3 r4 : Value} (hB : Below w.heap.size w W) (hg : w.heap.size ≤ g) (hgW : g < W.heap.size) (hl : Lies W (fun b => w.heap.size ≤ b ∧ b < W.heap.size ∧ b ≠ g) v [r0, r1, r2, r3, r4]) :
    RetPost v err w (.returned (.tuple #[.agg #[r0, r1, r2, r3, r4], .int .i64 err])) (((((W.setCell ⟨g, 0, none⟩ r0).setCell ⟨g, 1, none⟩ r1).setCell ⟨g, 2, none⟩ r2).setCell ⟨g, 3, none⟩ r3).setCell ⟨g, 4, none⟩ r4) := by
  refine ret_of (ds := [r0, r1, r2, r3, r4]) (((((hB.setCell (by exact hg) _).setCell (by exact hg) _).setCell (by exact hg) _).setCell (by exact hg) _).setCell (by exact hg) _) ?_
  refine hl.move fun b hb => ⟨⟨hb.1, by simp [World.setCell]; omega⟩, ?_⟩
  have hne := hb.2.2
  rw [Below.heap_setCell _ _ _ _ (by simpa using hne), Below.heap_setCell _ _ _ _ (by simpa using hne), Below.heap_setCell _ _ _ _ (by simpa using hne), Below.heap_setCell _ _ _ _ (by simpa using hne), Below.heap_setCell _ _ _ _ (by simpa using hne)]
theorem lies_numv (w : World) (S : Nat → Prop) (n : Int) : Lies w S (numV n) [.int .i64 3, .int .i64 n, .string ⟨#[]⟩, .slice none 0 0, .slice none 0 0] := by
  unfold numV
  rw [Lies]
  exact ⟨⟨Nat.zero_le _, by simp, Nat.zero_le _, Nat.zero_le _⟩, none, 0, none, 0, [], rfl, fun _ => rfl, fun _ => rfl, ⟨Nat.le_refl _, Nat.zero_le _⟩, ⟨Nat.le_refl _, Nat.zero_le _⟩, Rs.nil _ _ _, Rs.nil _ _ _, by rw [LiesL]⟩
/-- The blocks of a function with two values and a result. -/
structure B3 (w : World) (cs ds : Array Value) (W : World) : Prop where
  below : Below w.heap.size w W
  x : Box W w.heap.size 26 cs
  y : Box W (w.heap.size + 1) 26 ds
  r : Box W (w.heap.size + 1 + 1) 26 #[.int .i64 0, .int .i64 0, .string ⟨#[]⟩, .slice none 0 0, .slice none 0 0]
theorem box_at (W : World) (t : TypeId) (cs : Array Value) (p : Nat) (hp : W.heap.size = p) : Box (W.alloc (.cells cs t)) p t cs := by
  subst hp
  exact Box.laid W t cs
theorem B3.start (w : World) (cs ds : Array Value) : B3 w cs ds (((w.alloc (.cells cs 26)).alloc (.cells ds 26)).alloc (.cells #[.int .i64 0, .int .i64 0, .string ⟨#[]⟩, .slice none 0 0, .slice none 0 0] 26)) := by
  exact ⟨((((Below.refl _ _).alloc (Nat.le_refl _) _).alloc (by simp) _).alloc (by simp; omega) _), ((Box.laid w _ cs).alloc _).alloc _, (box_at _ _ _ _ (by simp)).alloc _, box_at _ _ _ _ (by simp)⟩
theorem B3.next {w W W' : World} {cs ds : Array Value} (h : B3 w cs ds W) (hb : Below W.heap.size W W') : B3 w cs ds W' :=
  ⟨chain h.below hb, h.x.below hb h.x.lt, h.y.below hb h.y.lt, h.r.below hb h.r.lt⟩
end Go.Proofs.YtbojpopgjcmlbaaGreatDoor
