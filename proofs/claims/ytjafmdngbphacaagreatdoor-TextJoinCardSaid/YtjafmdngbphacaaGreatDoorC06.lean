/- Blocks of ascending members, plain: what the passes of a stable sort leave. Nothing of the program is named here. -/
import Derived.Test.YtjafmdngbphacaaGreatDoorC04
set_option linter.unusedVariables false
set_option linter.unusedSimpArgs false
namespace Go.Proofs.YtjafmdngbphacaaGreatDoor
open Go.RowKit Go.Sort
/-- Blocks of B ascending members, the last one perhaps shorter. -/
inductive Bk (B : Nat) : List Mb → Prop
  | last {l : List Mb} : l.length ≤ B → So l → Bk B l
  | cons {a r : List Mb} : a.length = B → So a → Bk B r → Bk B (a ++ r)
/-- Whole blocks of B ascending members. -/
inductive FB (B : Nat) : List Mb → Prop
  | nil : FB B []
  | snoc {p z : List Mb} : FB B p → z.length = B → So z → FB B (p ++ z)
theorem FB.bk {B : Nat} {p : List Mb} (h : FB B p) : ∀ {r : List Mb}, Bk B r → Bk B (p ++ r) := by
  induction h with
  | nil => exact fun h => h
  | snoc h1 h2 h3 ih =>
    intro r hr
    rw [List.append_assoc]
    exact ih (Bk.cons h2 h3 hr)
theorem so_nil : So [] := List.Pairwise.nil
theorem Bk.small {B : Nat} {l : List Mb} (h : Bk B l) (hl : l.length ≤ B) : So l := by
  cases h with
  | last _ h => exact h
  | @cons a r h1 h2 _ =>
    simp at hl
    obtain rfl : r = [] := List.eq_nil_of_length_eq_zero (by omega)
    simpa using h2
theorem Bk.one {B : Nat} {l : List Mb} (h : Bk B l) (hl : B < l.length) : ∃ a r, l = a ++ r ∧ a.length = B ∧ So a ∧ Bk B r := by
  cases h with
  | last h _ => omega
  | @cons a r h1 h2 h3 => exact ⟨a, r, rfl, h1, h2, h3⟩
theorem Bk.two {B : Nat} {l : List Mb} (h : Bk B l) (hB : 1 ≤ B) (hl : 2 * B ≤ l.length) : ∃ u v Y, l = u ++ (v ++ Y) ∧ u.length = B ∧ v.length = B ∧ So u ∧ So v ∧ Bk B Y := by
  obtain ⟨u, r, rfl, h1, h2, h3⟩ := h.one (by omega)
  simp at hl
  cases h3 with
  | last h4 h5 => exact ⟨u, r, [], by simp, h1, by omega, h2, h5, Bk.last (by simp) so_nil⟩
  | @cons v Y h4 h5 h6 => exact ⟨u, v, Y, rfl, h1, h4, h2, h5, h6⟩
theorem Bk.part {B : Nat} {l : List Mb} (h : Bk B l) (hl : B < l.length) (hl2 : l.length < 2 * B) : ∃ u v, l = u ++ v ∧ u.length = B ∧ So u ∧ So v := by
  obtain ⟨u, r, rfl, h1, h2, h3⟩ := h.one hl
  simp at hl2
  exact ⟨u, r, rfl, h1, h2, h3.small (by omega)⟩
/-- The same members at each key, in one order. -/
def SameK (l l' : List Mb) : Prop := ∀ k, fk k l' = fk k l
theorem SameK.refl (l : List Mb) : SameK l l := fun _ => rfl
theorem SameK.mid {l X u z Y : List Mb} (h : SameK l (X ++ (u ++ Y))) (hz : ∀ k, fk k z = fk k u) : SameK l (X ++ (z ++ Y)) := fun k => by
  rw [← h k]
  simp only [fk_app, hz]
theorem Mg.same {l X u v z Y : List Mb} (h : SameK l (X ++ (u ++ (v ++ Y)))) (hz : Mg u v z) : SameK l (X ++ (z ++ Y)) := fun k => by
  rw [← h k]
  simp only [fk_app, hz.cls, List.append_assoc]
/-- The state of the first pass. -/
structure P1 (l : List Mb) (a : Nat) (d : Array Mb) : Prop where
  ex : ∃ p r, d.toList = p ++ r ∧ p.length = a ∧ FB 20 p
  same : SameK l d.toList
theorem P1.start (d : Array Mb) : P1 d.toList 0 d := ⟨⟨[], d.toList, rfl, rfl, FB.nil⟩, SameK.refl _⟩
theorem P1.step {l : List Mb} {a : Nat} {d : Array Mb} (h : P1 l a d) (ha : a + 20 ≤ d.size) : P1 l (a + 20) (insertionSort (Go.Proofs.ltOf mcf) d a (a + 20)) := by
  obtain ⟨⟨p, r, h1, h2, h3⟩, h4⟩ := h
  have hl : d.size = p.length + r.length := by rw [← Array.length_toList, h1]; simp
  obtain ⟨u, Y, rfl, hu⟩ := cut_list r 20 (by omega)
  obtain ⟨z, z1, z2, z3, z4⟩ := ins_part (d := d) (X := p) (u := u) (Y := Y) h1 h2.symm (show a + 20 = p.length + u.length by omega)
  refine ⟨⟨p ++ z, Y, by rw [z1]; simp, by simp; omega, FB.snoc h3 (by omega) z2⟩, ?_⟩
  rw [z1]
  rw [h1] at h4
  exact h4.mid z4
/-- The state between two passes. -/
structure P2 (l : List Mb) (B : Nat) (d : Array Mb) : Prop where
  bk : Bk B d.toList
  same : SameK l d.toList
theorem P1.done {l : List Mb} {a n : Nat} {d : Array Mb} (h : P1 l a d) (ha : ¬ a + 20 ≤ d.size) (han : a ≤ d.size) (hn : n = d.size) : P2 l 20 (insertionSort (Go.Proofs.ltOf mcf) d a n) := by
  subst hn
  obtain ⟨⟨p, r, h1, h2, h3⟩, h4⟩ := h
  have hl : d.size = p.length + r.length := by rw [← Array.length_toList, h1]; simp
  obtain ⟨z, z1, z2, z3, z4⟩ := ins_part (d := d) (X := p) (u := r) (Y := []) (by rw [h1]; simp) h2.symm hl
  refine ⟨?_, ?_⟩
  · rw [z1, List.append_nil]
    exact h3.bk (Bk.last (by omega) z2)
  · rw [z1]
    rw [h1, ← List.append_nil r] at h4
    exact h4.mid z4
/-- The state within a pass. -/
structure P3 (l : List Mb) (B a : Nat) (d : Array Mb) : Prop where
  ex : ∃ p r, d.toList = p ++ r ∧ p.length = a ∧ FB (2 * B) p ∧ Bk B r
  same : SameK l d.toList
theorem P2.start {l : List Mb} {B : Nat} {d : Array Mb} (h : P2 l B d) : P3 l B 0 d := ⟨⟨[], d.toList, rfl, rfl, FB.nil, h.bk⟩, h.same⟩
/-- Two blocks to merge .. -/
theorem P3.two {l : List Mb} {B a : Nat} {d : Array Mb} (h : P3 l B a d) (hB : 1 ≤ B) (ha : a + 2 * B ≤ d.size) : ∃ X u v Y, d.toList = X ++ (u ++ (v ++ Y)) ∧ So u ∧ So v ∧ X.length = a ∧ u.length = B ∧ v.length = B ∧
    ∀ (d' : Array Mb) (z : List Mb), d'.toList = X ++ (z ++ Y) → Mg u v z → P3 l B (a + 2 * B) d' := by
  obtain ⟨⟨p, r, h1, h2, h3, h5⟩, h4⟩ := h
  have hl : d.size = p.length + r.length := by rw [← Array.length_toList, h1]; simp
  obtain ⟨u, v, Y, rfl, k1, k2, k3, k4, k5⟩ := h5.two hB (by omega)
  refine ⟨p, u, v, Y, h1, k3, k4, h2, k1, k2, fun d' z hd hz => ⟨⟨p ++ z, Y, by rw [hd]; simp, by simp [hz.len]; omega, FB.snoc h3 (by rw [hz.len]; omega) hz.so, k5⟩, ?_⟩⟩
  rw [hd]
  rw [h1] at h4
  exact hz.same h4
/-- .. or one and a part .. -/
theorem P3.part {l : List Mb} {B a : Nat} {d : Array Mb} (h : P3 l B a d) (ha : ¬ a + 2 * B ≤ d.size) (ha2 : a + B < d.size) : ∃ X u v, d.toList = X ++ (u ++ (v ++ [])) ∧ So u ∧ So v ∧ X.length = a ∧ u.length = B ∧ 1 ≤ v.length ∧ X.length + u.length + v.length = d.size ∧
    ∀ (d' : Array Mb) (z : List Mb), d'.toList = X ++ (z ++ []) → Mg u v z → P2 l (B * 2) d' := by
  obtain ⟨⟨p, r, h1, h2, h3, h5⟩, h4⟩ := h
  have hl : d.size = p.length + r.length := by rw [← Array.length_toList, h1]; simp
  obtain ⟨u, v, rfl, k1, k2, k3⟩ := h5.part (by omega) (by omega)
  simp only [List.length_append] at hl
  refine ⟨p, u, v, by rw [h1]; simp, k2, k3, h2, k1, by omega, by omega, fun d' z hd hz => ⟨?_, ?_⟩⟩
  · rw [hd, List.append_nil, Nat.mul_comm]
    exact h3.bk (Bk.last (by rw [hz.len]; omega) hz.so)
  · rw [hd]
    rw [h1, ← List.append_nil v] at h4
    exact hz.same h4
/-- .. or nothing. -/
theorem P3.done {l : List Mb} {B a : Nat} {d : Array Mb} (h : P3 l B a d) (ha2 : ¬ a + B < d.size) : P2 l (B * 2) d := by
  obtain ⟨⟨p, r, h1, h2, h3, h5⟩, h4⟩ := h
  have hl : d.size = p.length + r.length := by rw [← Array.length_toList, h1]; simp
  refine ⟨?_, h4⟩
  rw [h1, Nat.mul_comm]
  exact h3.bk (Bk.last (by omega) (h5.small (by omega)))
/-- The end: it is what the insertion sort makes. -/
theorem P2.fin {B : Nat} {d d' : Array Mb} (h : P2 d.toList B d') (hB : d'.size ≤ B) : d' = insertionSort (Go.Proofs.ltOf mcf) d 0 d.size := by
  have h1 := h.bk.small (by simpa using hB)
  obtain ⟨i1, i2⟩ := ins_so d
  have := stable_one h1 i1 (fun k => (h.same k).trans (i2 k).symm)
  exact Array.toList_inj.1 this
end Go.Proofs.YtjafmdngbphacaaGreatDoor
