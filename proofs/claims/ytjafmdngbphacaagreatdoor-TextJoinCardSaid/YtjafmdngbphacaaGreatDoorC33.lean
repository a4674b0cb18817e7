/- slices.DeleteFunc at values, over the closure of arith.without. -/
import Derived.Test.YtjafmdngbphacaaGreatDoorC32
set_option linter.unusedVariables false
set_option linter.unusedSimpArgs false
namespace Go.Proofs.YtjafmdngbphacaaGreatDoor
open Go.RowKit Go.Shelf Go.Sort
theorem flat_set (x : Fv) : ∀ (ys : List Fv) (i : Nat), i < ys.length → ((((((ys.flatMap Fv.cs).set (i * 5) (.int .i64 x.k)).set (i * 5 + 1) (.int .i64 x.n)).set (i * 5 + 2) (.string x.s)).set (i * 5 + 3) (.slice x.A x.la x.a)).set (i * 5 + 4) (.slice x.C x.lc x.c)) = (ys.set i x).flatMap Fv.cs
  | [], i, h => by simp at h
  | y :: r, 0, _ => by simp [Fv.cs]
  | y :: r, i + 1, h => by
    have ih := flat_set x r i (by simpa using h)
    rw [List.set_cons_succ, List.flatMap_cons, List.flatMap_cons, ← ih]
    have e : (i + 1) * 5 = i * 5 + 1 + 1 + 1 + 1 + 1 := by omega
    rw [e]
    simp only [Fv.cs, List.cons_append, List.nil_append, List.set_cons_succ, Nat.add_right_comm _ _ 1]
theorem own_belowV {w w' : World} {base size n : Nat} {e : TypeId} {v : Value} {xs : List Value} (h : w.ownsRow base e size v n xs) (hb : Below w.heap.size w w') : w'.ownsRow base e size v n xs := by
  refine ⟨h.1, ?_⟩
  rcases h.2 with h1 | ⟨g, cap, cur, rfl, h1, h2, h3⟩
  · exact .inl h1
  · exact .inr ⟨g, cap, cur, rfl, h1, (hb.block g (h.lt g rfl).2).trans h2, h3⟩
/-- What is kept. -/
def keptL (gone l : List (V × Fv)) : List (V × Fv) := l.filter fun p => !goneB gone p.1
theorem kept_step {gone l : List (V × Fv)} {j : Nat} {p : V × Fv} (hj : l[j]? = some p) : keptL gone (l.take (j + 1)) = keptL gone (l.take j) ++ (if goneB gone p.1 = true then [] else [p]) := by
  unfold keptL
  rw [List.take_add_one, hj, List.filter_append]
  congr 1
  cases h : goneB gone p.1 <;> simp [h]
/-- Between two rounds. -/
structure DelSt (base g cap : Nat) (gone l : List (V × Fv)) (w0 w : World) (i j : Nat) (ys : List Fv) : Prop where
  own : w.ownsRow base 25 5 (.slice (some ⟨g, 0, none⟩) l.length cap) l.length (ys.flatMap Fv.cs)
  len : ys.length = l.length
  head : ys.take i = (keptL gone (l.take j)).map Prod.snd
  tail : ys.drop j = (l.map Prod.snd).drop j
  ij : i < j
  jn : j ≤ l.length
  below : Below base w0 w
  size : w0.heap.size ≤ w.heap.size
namespace DelSt
variable {base g cap : Nat} {gone l : List (V × Fv)} {w0 w w' : World} {i j : Nat} {ys : List Fv}
theorem glt (h : DelSt base g cap gone l w0 w i j ys) : base ≤ g ∧ g < w.heap.size := h.own.lt g rfl
theorem next (h : DelSt base g cap gone l w0 w i j ys) (hb : Below w.heap.size w w') (hB : base ≤ w.heap.size) : DelSt base g cap gone l w0 w' i j ys :=
  ⟨own_belowV h.own hb, h.len, h.head, h.tail, h.ij, h.jn, h.below.trans (hb.mono hB), Nat.le_trans h.size hb.size⟩
theorem elem (h : DelSt base g cap gone l w0 w i j ys) {p : V × Fv} (hj : l[j]? = some p) : ys[j]? = some p.2 := by
  have h1 := congrArg (fun x => x[0]?) h.tail
  simp only [List.getElem?_drop, Nat.add_zero, List.getElem?_map, hj] at h1
  exact h1
theorem five (h : DelSt base g cap gone l w0 w i j ys) {p : V × Fv} (hj : l[j]? = some p) : FiveAt w g (j * 5) p.2 := by
  have hy := h.elem hj
  have hjl : j < ys.length := (List.getElem?_eq_some_iff.1 hy).1
  have hyy : ys[j]! = p.2 := by rw [getElem!_def, hy]
  have c : ∀ c, c < 5 → w.cell? ⟨g, j * 5 + c, none⟩ = some (p.2.cs[c]!) := fun c hc => by
    have hl := h.len
    rw [h.own.cellAt (j * 5 + c) (by omega), flat_get _ _ (by omega), show (j * 5 + c) / 5 = j by omega, show (j * 5 + c) % 5 = c by omega, hyy]
  exact ⟨c 0 (by omega), c 1 (by omega), c 2 (by omega), c 3 (by omega), c 4 (by omega)⟩
theorem free (h : DelSt base g cap gone l w0 w i j ys) (k : Nat) : w.frozen? ⟨g, k, none⟩ = false := by
  rcases h.own.2 with ⟨h0, _⟩ | ⟨g', cap', cur, hv, hbg, hgg, _⟩
  · cases h0
  · cases hv
    exact (show Box w g _ cur from hgg).free k
theorem there (h : DelSt base g cap gone l w0 w i j ys) (k : Nat) (hk : k < l.length * 5) : ∃ u, w.cell? ⟨g, k, none⟩ = some u := by
  have h1 := h.own.1
  rw [h.own.cellAt k hk]
  exact ⟨_, List.getElem?_eq_getElem (by omega)⟩
theorem skip (h : DelSt base g cap gone l w0 w i j ys) {p : V × Fv} (hj : l[j]? = some p) (hp : goneB gone p.1 = true) : DelSt base g cap gone l w0 w i (j + 1) ys := by
  have hjl : j < l.length := (List.getElem?_eq_some_iff.1 hj).1
  refine ⟨h.own, h.len, ?_, ?_, by have := h.ij; omega, by omega, h.below, h.size⟩
  · rw [kept_step hj, if_pos hp, List.append_nil, h.head]
  · rw [← List.drop_drop, h.tail, List.drop_drop]
theorem put (h : DelSt base g cap gone l w0 w i j ys) {p : V × Fv} (hj : l[j]? = some p) (hp : goneB gone p.1 = false) :
    DelSt base g cap gone l w0 (((((w.setCell ⟨g, i * 5, none⟩ (.int .i64 p.2.k)).setCell ⟨g, i * 5 + 1, none⟩ (.int .i64 p.2.n)).setCell ⟨g, i * 5 + 2, none⟩ (.string p.2.s)).setCell ⟨g, i * 5 + 3, none⟩ (.slice p.2.A p.2.la p.2.a)).setCell ⟨g, i * 5 + 4, none⟩ (.slice p.2.C p.2.lc p.2.c)) (i + 1) (j + 1) (ys.set i p.2) := by
  have hjl : j < l.length := (List.getElem?_eq_some_iff.1 hj).1
  have hij := h.ij
  have hl := h.len
  have hg := h.glt.1
  refine ⟨?_, by rw [List.length_set]; exact h.len, ?_, ?_, by omega, by omega, ((((h.below.setCell hg _).setCell hg _).setCell hg _).setCell hg _).setCell hg _, by simpa [World.setCell] using h.size⟩
  · rw [← flat_set p.2 ys i (by omega)]
    exact own_set (own_set (own_set (own_set (own_set h.own (i := i * 5) (by omega) _) (i := i * 5 + 1) (by omega) _) (i := i * 5 + 2) (by omega) _) (i := i * 5 + 3) (by omega) _) (i := i * 5 + 4) (by omega) _
  · rw [kept_step hj, if_neg (by rw [hp]; simp), List.map_append, ← h.head]
    rw [List.take_add_one, List.getElem?_set_self (by omega), List.take_set_of_le (Nat.le_refl _)]
    rfl
  · rw [List.drop_set_of_lt (by omega), ← List.drop_drop, h.tail, List.drop_drop]
end DelSt
end Go.Proofs.YtjafmdngbphacaaGreatDoor
