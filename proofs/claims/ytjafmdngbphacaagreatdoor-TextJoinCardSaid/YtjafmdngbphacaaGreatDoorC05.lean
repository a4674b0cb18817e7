/- slices.swapRangeCmpFunc and rotateCmpFunc at elements of k cells, k a variable: over any program that bears their bodies. slices.symMergeCmpFunc at members: two ascending neighbours are merged in place, stably. -/
import Derived.Shelf.SlSortCmp.KitK
import Derived.Sort.WalkB2
import Derived.Sort.WalkB12
import Derived.Deep.LoopGhost
import Derived.Test.YtjafmdngbphacaaGreatDoorC04
import Derived.Test.YtjafmdngbphacaaGreatDoorRows
import Derived.Lib.Hide
import Derived.Deep.CutBlock
import Derived.Deep.DeepCutAuto
import Derived.Shelf.SlSortCmp.QuietGrown
set_option linter.unusedVariables false
set_option linter.unusedSimpArgs false
namespace Go.Proofs.YtjafmdngbphacaaGreatDoor
open Go.Shelf Go.RowKit Go.Lib Go.Sort
/-- How far two stretches have changed places. -/
def SwSt {α : Type} (X p Q q Y : List α) (i : Nat) (d : Array α) : Prop :=
  ∃ p1 p2 q1 q2, p = p1 ++ p2 ∧ q = q1 ++ q2 ∧ p1.length = i ∧ q1.length = i ∧ d.toList = X ++ (q1 ++ (p2 ++ (Q ++ (p1 ++ (q2 ++ Y)))))
theorem SwSt.start {α : Type} {X p Q q Y : List α} {d : Array α} (h : d.toList = X ++ (p ++ (Q ++ (q ++ Y)))) : SwSt X p Q q Y 0 d := ⟨[], p, [], q, rfl, rfl, rfl, rfl, by simpa using h⟩
theorem SwSt.step {α : Type} [Inhabited α] {X p Q q Y : List α} {i n : Nat} {d : Array α} (h : SwSt X p Q q Y i d) (hp : p.length = n) (hq : q.length = n) (hi : i < n) : SwSt X p Q q Y (i + 1) (swp d (X.length + i) (X.length + n + Q.length + i)) := by
  obtain ⟨p1, p2, q1, q2, rfl, rfl, h1, h2, h⟩ := h
  simp only [List.length_append] at hp hq
  cases p2 with
  | nil => simp at hp; omega
  | cons x r =>
    cases q2 with
    | nil => simp at hq; omega
    | cons y s =>
      simp only [List.length_cons] at hp hq
      refine ⟨p1 ++ [x], r, q1 ++ [y], s, by simp, by simp, by simp [h1], by simp [h2], ?_⟩
      rw [swp_far (A := X ++ q1) (M := r ++ (Q ++ p1)) (B := s ++ Y) (x := x) (y := y) (by rw [h]; simp) (by simp; omega) (by simp; omega)]
      simp
theorem SwSt.done {α : Type} {X p Q q Y : List α} {i : Nat} {d : Array α} (h : SwSt X p Q q Y i d) (hp : p.length ≤ i) (hq : q.length ≤ i) : d.toList = X ++ (q ++ (Q ++ (p ++ Y))) := by
  obtain ⟨p1, p2, q1, q2, rfl, rfl, h1, h2, h⟩ := h
  simp only [List.length_append] at hp hq
  obtain rfl : p2 = [] := List.eq_nil_of_length_eq_zero (by omega)
  obtain rfl : q2 = [] := List.eq_nil_of_length_eq_zero (by omega)
  simpa using h
end Go.Proofs.YtjafmdngbphacaaGreatDoor
namespace Go.Proofs.YtjafmdngbphacaaGreatDoor
open Go.Shelf Go.RowKit Go.Lib Go.Sort
/-- How far one member has moved to the right. -/
def MvR (X l Y : List Mb) (x : Mb) (t : Nat) (d : Array Mb) : Prop := ∃ c r, l = c ++ r ∧ c.length = t ∧ d.toList = X ++ (c ++ x :: (r ++ Y))
theorem MvR.step {X l Y : List Mb} {x : Mb} {t : Nat} {d : Array Mb} (h : MvR X l Y x t d) (hl : t < l.length) : MvR X l Y x (t + 1) (swp d (X.length + t) (X.length + t + 1)) := by
  obtain ⟨c, r, rfl, h1, h2⟩ := h
  cases r with
  | nil => simp at hl; omega
  | cons y s =>
    refine ⟨c ++ [y], s, by simp, by simp [h1], ?_⟩
    rw [swp_far (A := X ++ c) (M := []) (B := s ++ Y) (x := x) (y := y) (by rw [h2]; simp) (by simp; omega) (by simp; omega)]
    simp
theorem MvR.done {X l Y : List Mb} {x : Mb} {t : Nat} {d : Array Mb} (h : MvR X l Y x t d) (hl : l.length ≤ t) : d.toList = X ++ (l ++ x :: Y) := by
  obtain ⟨c, r, rfl, h1, h2⟩ := h
  simp at hl
  obtain rfl : r = [] := List.eq_nil_of_length_eq_zero (by omega)
  simpa using h2
/-- How far one member has moved to the left: t members are still ahead of it. -/
def MvL (X l Y : List Mb) (x : Mb) (t : Nat) (d : Array Mb) : Prop := ∃ c r, l = c ++ r ∧ c.length = t ∧ d.toList = X ++ (c ++ x :: (r ++ Y))
theorem MvL.step {X l Y : List Mb} {x : Mb} {t : Nat} {d : Array Mb} (h : MvL X l Y x (t + 1) d) : MvL X l Y x t (swp d (X.length + t + 1) (X.length + t)) := by
  obtain ⟨c, r, rfl, h1, h2⟩ := h
  rcases list_snoc c with rfl | ⟨c', y, rfl⟩
  · simp at h1
  · simp at h1
    refine ⟨c', y :: r, by simp, h1, ?_⟩
    rw [swp_far' (A := X ++ c') (M := []) (B := r ++ Y) (x := y) (y := x) (by rw [h2]; simp) (by simp; omega) (by simp; omega)]
    simp
theorem MvL.done {X l Y : List Mb} {x : Mb} {d : Array Mb} (h : MvL X l Y x 0 d) : d.toList = X ++ (x :: (l ++ Y)) := by
  obtain ⟨c, r, rfl, h1, h2⟩ := h
  obtain rfl : c = [] := List.eq_nil_of_length_eq_zero h1
  simpa using h2
end Go.Proofs.YtjafmdngbphacaaGreatDoor
