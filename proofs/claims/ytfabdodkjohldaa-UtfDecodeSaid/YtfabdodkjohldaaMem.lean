/- Words for memory: a slice whose elements take one cell reads as a list of values. Nothing of the program is named here. -/
import Derived.WalkKit
import Derived.Laws.OwnMore
import Derived.Deep.Draws
namespace Go.Proofs.Ytfabdodkjohldaa
open Go.RowKit
/-- The slice with the address A reads as xs, and lies below block B. -/
def Rd (w : World) (B : Nat) (A : Option Addr) (xs : List Value) : Prop := ∀ j u, xs[j]? = some u → ∃ b o, A = some ⟨b, o, none⟩ ∧ b < B ∧ w.cell? ⟨b, o + j, none⟩ = some u
theorem Rd.at_ {w : World} {B : Nat} {A : Option Addr} {xs : List Value} (h : Rd w B A xs) {j : Nat} {u : Value} (hj : xs[j]? = some u) : ∃ b o, A = some ⟨b, o, none⟩ ∧ b < B ∧ w.cell? ⟨b, o + j, none⟩ = some u := h j u hj
theorem Rd.nil (w : World) (B : Nat) (A : Option Addr) : Rd w B A [] := fun j u h => by simp at h
theorem Rd.keep {w w' : World} {B : Nat} {A : Option Addr} {xs : List Value} (h : Rd w B A xs) (hk : ∀ p : Addr, p.block < B → w'.cell? p = w.cell? p) : Rd w' B A xs := by
  intro j u hj
  obtain ⟨b, o, e, hb, hc⟩ := h j u hj
  exact ⟨b, o, e, hb, (hk _ hb).trans hc⟩
theorem Rd.mono {w : World} {B B' : Nat} {A : Option Addr} {xs : List Value} (h : Rd w B A xs) (hB : B ≤ B') : Rd w B' A xs := by
  intro j u hj
  obtain ⟨b, o, e, hb, hc⟩ := h j u hj
  exact ⟨b, o, e, by omega, hc⟩
theorem Rd.below {w w' : World} {B B' : Nat} {A : Option Addr} {xs : List Value} (h : Rd w B A xs) (hb : Below B' w w') (hB : B ≤ B') : Rd w' B A xs :=
  h.keep fun _ hp => hb.cell (Nat.lt_of_lt_of_le hp hB)
theorem Rd.grown {w w' : World} {B : Nat} {A : Option Addr} {xs : List Value} (h : Rd w B A xs) {row : Option Nat} (hg : w.grownBy w' row) (hB : B ≤ w.heap.size) (hr : ∀ k, row = some k → B ≤ k) : Rd w' B A xs :=
  h.keep fun p hp => World.cell?_of_block (hg.block p.block (by omega) (fun e => by have := hr _ e.symm; omega))
theorem own_slice {w : World} {base n : Nat} {e : TypeId} {v : Value} {xs : List Value} (h : w.ownsRow base e 1 v n xs) :
    ∃ A c, v = .slice A n c ∧ xs.length = n ∧ Rd w w.heap.size A xs := by
  have hl : xs.length = n := by have := h.1; omega
  have h2 := h
  rcases h.2 with ⟨rfl, rfl⟩ | ⟨g, cap, cur, rfl, hb, hh, hnc, hcm, hcs, ht⟩
  · refine ⟨none, 0, rfl, hl, ?_⟩
    have : xs = [] := List.eq_nil_of_length_eq_zero hl
    subst this; exact Rd.nil _ _ _
  · refine ⟨some ⟨g, 0, none⟩, cap, rfl, hl, fun j u hj => ⟨g, 0, rfl, ?_, ?_⟩⟩
    · exact (h2.lt g rfl).2
    · have hjn : j < n := by
        rcases Nat.lt_or_ge j xs.length with hlt | hge
        · omega
        · rw [List.getElem?_eq_none hge] at hj; cases hj
      have := h2.cellAt (g := g) (cap := cap) j (by omega)
      rw [Nat.zero_add, this, hj]
end Go.Proofs.Ytfabdodkjohldaa
