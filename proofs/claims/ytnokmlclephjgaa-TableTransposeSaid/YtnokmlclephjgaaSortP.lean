/- Members of objects, and a stable sort of them, plain. Nothing of the program is named here. -/
import Derived.Sort.LotA
import Derived.Shelf.SlSortCmp.Insertion
import Derived.Test.YtnokmlclephjgaaScmp
import Derived.Test.YtnokmlclephjgaaVal
set_option linter.unusedVariables false
set_option linter.unusedSimpArgs false
namespace Go.Proofs.Ytnokmlclephjgaa
open Go.RowKit Go.Sort
section
variable {α : Type} [Inhabited α] {lt : α → α → Bool} {p : α → Bool}
theorem swp_list (d : Array α) (t r : List α) (x y : α) (h : d.toList = t ++ x :: y :: r) : (swp d (t.length + 1) t.length).toList = t ++ y :: x :: r := by
  obtain ⟨l⟩ := d
  simp only at h
  subst h
  have h1 : (t ++ x :: y :: r)[t.length]! = x := by simp
  have h2 : (t ++ x :: y :: r)[t.length + 1]! = y := by simp
  unfold swp
  rw [Array.toList_setIfInBounds, Array.toList_setIfInBounds]
  simp only [List.getElem!_toArray, h1, h2]
  simp [List.set_append]
theorem cut_at (d : Array α) (j : Nat) (h : j + 1 < d.size) : ∃ t r, d.toList = t ++ d[j]! :: d[j + 1]! :: r ∧ t.length = j := by
  obtain ⟨l⟩ := d
  have hl : j + 1 < l.length := h
  refine ⟨l.take j, l.drop (j + 2), ?_, by simp; omega⟩
  conv => lhs; rw [show l = l.take j ++ l.drop j from (List.take_append_drop j l).symm, List.drop_eq_getElem_cons (show j < l.length by omega), List.drop_eq_getElem_cons hl]
  simp [getElem!_def, List.getElem?_eq_getElem (show j < l.length by omega), List.getElem?_eq_getElem hl]
theorem swp_filter (hp : ∀ x y, lt x y = true → ¬ (p x = true ∧ p y = true)) (d : Array α) (j : Nat) (h : j + 1 < d.size) (hl : lt d[j + 1]! d[j]! = true) : (swp d (j + 1) j).toList.filter p = d.toList.filter p := by
  obtain ⟨t, r, e, rfl⟩ := cut_at d j h
  generalize d[t.length]! = x at *
  generalize d[t.length + 1]! = y at *
  rw [swp_list d t r x y e, e]
  have := hp _ _ hl
  rw [List.filter_append, List.filter_append]
  congr 1
  cases hx : p x <;> cases hy : p y <;> simp_all
theorem inner_filter (hp : ∀ x y, lt x y = true → ¬ (p x = true ∧ p y = true)) (a : Nat) : ∀ (j : Nat) (d : Array α), j < d.size → (insInner lt a j d).toList.filter p = d.toList.filter p ∧ (insInner lt a j d).size = d.size
  | 0, d, _ => by unfold insInner; exact ⟨rfl, rfl⟩
  | j + 1, d, h => by
    unfold insInner
    split
    · rename_i hc
      simp only [Bool.and_eq_true, decide_eq_true_eq] at hc
      have ih := inner_filter hp a j (swp d (j + 1) j) (by rw [swp_size]; omega)
      exact ⟨ih.1.trans (swp_filter hp d j h hc.2), ih.2.trans (swp_size ..)⟩
    · exact ⟨rfl, rfl⟩
theorem outer_filter (hp : ∀ x y, lt x y = true → ¬ (p x = true ∧ p y = true)) (a b : Nat) : ∀ (n i : Nat) (d : Array α), b - i = n → b ≤ d.size → (insOuter lt a b i d).toList.filter p = d.toList.filter p
  | 0, i, d, hn, hb => by rw [insOuter, if_neg (by omega)]
  | n + 1, i, d, hn, hb => by
    rw [insOuter, if_pos (by omega)]
    have h1 := inner_filter hp a i d (by omega)
    rw [outer_filter hp a b n (i + 1) _ (by omega) (by rw [h1.2]; exact hb), h1.1]
/-- The insertion sort is stable: what no comparison parts keeps its order. -/
theorem sort_filter (hp : ∀ x y, lt x y = true → ¬ (p x = true ∧ p y = true)) (d : Array α) (a b : Nat) (hb : b ≤ d.size) : (insertionSort lt d a b).toList.filter p = d.toList.filter p := outer_filter hp a b _ _ d rfl hb
end
/-- A member: its key, its value, and where the value's lists lie. -/
structure Mb where
  key : ByteArray
  k : Int
  n : Int
  s : ByteArray
  ks : List ByteArray
  es : List V
  A : Option Addr
  a : Nat
  B : Option Addr
  b : Nat
instance : Inhabited Mb := ⟨⟨⟨#[]⟩, 0, 0, ⟨#[]⟩, [], [], none, 0, none, 0⟩⟩
def Mb.v (m : Mb) : V := .mk m.k m.n m.s m.ks m.es
def Mb.five (m : Mb) : List Value := [.int .i64 m.k, .int .i64 m.n, .string m.s, .slice m.A m.ks.length m.a, .slice m.B m.es.length m.b]
end Go.Proofs.Ytnokmlclephjgaa
