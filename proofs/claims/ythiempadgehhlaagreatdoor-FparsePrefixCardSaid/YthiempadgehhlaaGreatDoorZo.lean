/- Tokens in memory, for the laws on the parser of filters. -/
import Derived.Test.YthiempadgehhlaaGreatDoorHG
set_option linter.unusedVariables false
set_option linter.unusedSectionVars false
set_option linter.unusedSimpArgs false
namespace Go.Proofs.YthiempadgehhlaaGreatDoor
open Go.RowKit
theorem own_row {w : World} {base : Nat} {e : TypeId} {n c size : Nat} {A : Option Addr} {xs : List Value} (h : w.ownsRow base e size (.slice A n c) n xs) (hn : 0 < n) :
    ∃ g, A = some ⟨g, 0, none⟩ ∧ base ≤ g ∧ g < w.heap.size ∧ ∀ j u, xs[j]? = some u → w.cell? ⟨g, j, none⟩ = some u := by
  have h2 := h
  rcases h.2 with ⟨e1, e2⟩ | ⟨g, cap, cur, e1, hb, hh, hnc, hcm, hcs, ht⟩
  · omega
  · injection e1 with e2 e3 e4
    subst e2; subst e4
    refine ⟨g, rfl, hb, (h2.lt g rfl).2, fun j u hj => ?_⟩
    have hjn : j < n * size := by
      rw [← h2.1]
      exact (List.getElem?_eq_some_iff.1 hj).1
    rw [h2.cellAt j hjn, hj]
theorem flex_open {r : Fr} {ts : List Fk} {w w' : World} {e : Ending} (h : FlexPost r w e w') (hr : r = ⟨some ts, 0, 0⟩) (hn : 0 < ts.length) :
    Below w.heap.size w w' ∧ ∃ g c, e = .returned (.tuple #[.slice (some ⟨g, 0, none⟩) ts.length c, .int .i64 0, .int .i64 0]) ∧ w.heap.size ≤ g ∧ g < w'.heap.size ∧ ∀ j u, (rowT ts)[j]? = some u → w'.cell? ⟨g, j, none⟩ = some u := by
  subst hr
  obtain ⟨hb, A, n, c, rfl, h1, h2⟩ := h
  subst h1
  obtain ⟨g, rfl, h3, h4, h5⟩ := own_row h2 hn
  exact ⟨hb, g, c, rfl, h3, h4, h5⟩
theorem rowT_at {ts : List Fk} {i : Nat} {t : Fk} (h : ts[i]? = some t) (j : Nat) {u : Value} (hu : t.cs[j]? = some u) : (rowT ts)[i * 4 + j]? = some u := by
  induction ts generalizing i with
  | nil => simp at h
  | cons x r ih =>
    rw [show rowT (x :: r) = x.cs ++ rowT r from rfl]
    cases i with
    | zero =>
      simp at h
      subst h
      have hj : j < x.cs.length := (List.getElem?_eq_some_iff.1 hu).1
      rw [Nat.zero_mul, Nat.zero_add, List.getElem?_append_left hj]
      exact hu
    | succ i =>
      have hl : x.cs.length = 4 := rfl
      rw [List.getElem?_append_right (by rw [hl]; omega), hl, show (i + 1) * 4 + j - 4 = i * 4 + j by omega]
      exact ih (by simpa using h)
theorem below_cells {w W : World} {g : Nat} {xs : List Value} (hb : Below w.heap.size w W) (hg : g < w.heap.size) (h : ∀ j u, xs[j]? = some u → w.cell? ⟨g, j, none⟩ = some u) : ∀ j u, xs[j]? = some u → W.cell? ⟨g, j, none⟩ = some u :=
  fun j u hj => (hb.cell (p := ⟨g, j, none⟩) hg).trans (h j u hj)
theorem tok_cells {ts : List Fk} {i g : Nat} {t : Fk} {w : World} (h : ts[i]? = some t) (hc : ∀ j u, (rowT ts)[j]? = some u → w.cell? ⟨g, j, none⟩ = some u) :
    w.cell? ⟨g, i * 4, none⟩ = some (.int .i64 t.k) ∧ w.cell? ⟨g, i * 4 + 1, none⟩ = some (.int .i64 t.o) ∧ w.cell? ⟨g, i * 4 + 2, none⟩ = some (.string t.s) ∧ w.cell? ⟨g, i * 4 + 3, none⟩ = some (.int .i64 t.i) :=
  ⟨hc _ _ (rowT_at h 0 rfl), hc _ _ (rowT_at h 1 rfl), hc _ _ (rowT_at h 2 rfl), hc _ _ (rowT_at h 3 rfl)⟩
end Go.Proofs.YthiempadgehhlaaGreatDoor
