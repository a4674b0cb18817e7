/- Merging two neighbours in place, plain: what a stable merge is, how it is made of two smaller ones, and why there is just one. Nothing of the program is named here. -/
import Derived.Test.YtjafmdngbphacaaGreatDoorC03
set_option linter.unusedVariables false
set_option linter.unusedSimpArgs false
namespace Go.Proofs.YtjafmdngbphacaaGreatDoor
open Go.RowKit Go.Sort
/-- An exchange of two places, in a list. -/
theorem swp_far {α : Type} [Inhabited α] {d : Array α} {A M B : List α} {x y : α} (h : d.toList = A ++ x :: (M ++ y :: B)) {i j : Nat} (hi : i = A.length) (hj : j = A.length + 1 + M.length) : (swp d i j).toList = A ++ y :: (M ++ x :: B) := by
  obtain ⟨l⟩ := d
  simp only at h
  subst h
  subst hi
  subst hj
  have h1 : (A ++ x :: (M ++ y :: B))[A.length]! = x := by simp
  have h2 : (A ++ x :: (M ++ y :: B))[A.length + 1 + M.length]! = y := by
    rw [getElem!_def, List.getElem?_append_right (by omega), show A.length + 1 + M.length - A.length = M.length + 1 by omega, List.getElem?_cons_succ, List.getElem?_append_right (by omega), Nat.sub_self, List.getElem?_cons_zero]
  unfold swp
  rw [Array.toList_setIfInBounds, Array.toList_setIfInBounds]
  simp only [List.getElem!_toArray, h1, h2]
  rw [List.set_append_right _ _ (by omega), Nat.sub_self, List.set_cons_zero, List.set_append_right _ _ (by omega), show A.length + 1 + M.length - A.length = M.length + 1 by omega, List.set_cons_succ, List.set_append_right _ _ (by omega), Nat.sub_self, List.set_cons_zero]
/-- The other way round. -/
theorem swp_far' {α : Type} [Inhabited α] {d : Array α} {A M B : List α} {x y : α} (h : d.toList = A ++ x :: (M ++ y :: B)) {i j : Nat} (hi : i = A.length) (hj : j = A.length + 1 + M.length) : (swp d j i).toList = A ++ y :: (M ++ x :: B) := by
  obtain ⟨l⟩ := d
  simp only at h
  subst h
  subst hi
  subst hj
  have h1 : (A ++ x :: (M ++ y :: B))[A.length]! = x := by simp
  have h2 : (A ++ x :: (M ++ y :: B))[A.length + 1 + M.length]! = y := by
    rw [getElem!_def, List.getElem?_append_right (by omega), show A.length + 1 + M.length - A.length = M.length + 1 by omega, List.getElem?_cons_succ, List.getElem?_append_right (by omega), Nat.sub_self, List.getElem?_cons_zero]
  unfold swp
  rw [Array.toList_setIfInBounds, Array.toList_setIfInBounds]
  simp only [List.getElem!_toArray, h1, h2]
  rw [List.set_append_right _ _ (by omega), show A.length + 1 + M.length - A.length = M.length + 1 by omega, List.set_cons_succ, List.set_append_right _ _ (by omega), Nat.sub_self, List.set_cons_zero, List.set_append_right _ _ (by omega), Nat.sub_self, List.set_cons_zero]
theorem at_mid {α : Type} [Inhabited α] {d : Array α} {A B : List α} {x : α} (h : d.toList = A ++ x :: B) {i : Nat} (hi : i = A.length) : d[i]! = x := by
  obtain ⟨l⟩ := d
  simp only at h
  subst h
  subst hi
  simp
/-- One member's key is less than another's. -/
def lk (x y : Mb) : Bool := Go.Proofs.ltOf mcf x y
theorem lk_def (x y : Mb) : Go.Proofs.ltOf mcf x y = lk x y := rfl
theorem lk_irr (x : Mb) : lk x x = false := mcf_swo.irrefl x
theorem lk_asym {x y : Mb} (h : lk x y = true) : lk y x = false := mcf_swo.asymmA h
theorem lk_key {x y : Mb} {k : ByteArray} (hx : x.key = k) (hy : y.key = k) : lk x y = false := by
  unfold lk
  rw [ltm, hx, hy, scmp_self]
  rfl
theorem lk_same {x y : Mb} (h : lk x y = false) (k : lk y x = false) : x.key = y.key := by
  unfold lk at h k
  rw [ltm] at h k
  have h := of_decide_eq_false h
  have k := of_decide_eq_false k
  have := scmp_anti x.key y.key
  exact (scmp_zero x.key y.key).1 (by omega)
/-- Ascending. -/
def So (l : List Mb) : Prop := l.Pairwise fun x y => lk y x = false
/-- The members with a key, in their order. -/
def fk (k : ByteArray) (l : List Mb) : List Mb := l.filter fun m => decide (m.key = k)
theorem fk_app (k : ByteArray) (a b : List Mb) : fk k (a ++ b) = fk k a ++ fk k b := List.filter_append ..
theorem fk_mem {k : ByteArray} {l : List Mb} {x : Mb} (h : x ∈ fk k l) : x ∈ l ∧ x.key = k := by
  have := List.mem_filter.1 h
  exact ⟨this.1, of_decide_eq_true this.2⟩
theorem mem_fk {l : List Mb} {x : Mb} (h : x ∈ l) : x ∈ fk x.key l := List.mem_filter.2 ⟨h, decide_eq_true rfl⟩
/-- Two stretches, the later one less than the earlier one throughout, may change places. -/
theorem fk_swap {u v : List Mb} (h : ∀ x ∈ u, ∀ y ∈ v, lk y x = true) (k : ByteArray) : fk k u ++ fk k v = fk k v ++ fk k u := by
  cases hu : fk k u with
  | nil => simp
  | cons x r =>
    cases hv : fk k v with
    | nil => simp
    | cons y s =>
      have hx := fk_mem (show x ∈ fk k u by rw [hu]; simp)
      have hy := fk_mem (show y ∈ fk k v by rw [hv]; simp)
      have := h x hx.1 y hy.1
      rw [lk_key hy.2 hx.2] at this
      cases this
/-- z is the stable merge of u and v. -/
structure Mg (u v z : List Mb) : Prop where
  so : So z
  len : z.length = u.length + v.length
  cls : ∀ k, fk k z = fk k u ++ fk k v
theorem Mg.mem {u v z : List Mb} (h : Mg u v z) {x : Mb} (hx : x ∈ z) : x ∈ u ∨ x ∈ v := by
  have := mem_fk hx
  rw [h.cls, List.mem_append] at this
  exact this.imp (fun h => (fk_mem h).1) fun h => (fk_mem h).1
theorem Mg.left {v : List Mb} (h : So v) : Mg [] v v := ⟨h, by simp, fun k => by simp [fk]⟩
theorem Mg.right {u : List Mb} (h : So u) : Mg u [] u := ⟨h, by simp, fun k => by simp [fk]⟩
theorem Mg.split {u1 u2 v1 v2 z1 z2 : List Mb} (h1 : Mg u1 v1 z1) (h2 : Mg u2 v2 z2) (hu : So (u1 ++ u2)) (hv : So (v1 ++ v2)) (hlt : ∀ x ∈ u2, ∀ y ∈ v1, lk y x = true) (hle : ∀ x ∈ u1, ∀ y ∈ v2, lk y x = false) : Mg (u1 ++ u2) (v1 ++ v2) (z1 ++ z2) := by
  have hu := List.pairwise_append.1 hu
  have hv := List.pairwise_append.1 hv
  refine ⟨List.pairwise_append.2 ⟨h1.so, h2.so, fun p hp q hq => ?_⟩, ?_, fun k => ?_⟩
  · rcases h1.mem hp with hp | hp <;> rcases h2.mem hq with hq | hq
    · exact hu.2.2 p hp q hq
    · exact hle p hp q hq
    · exact lk_asym (hlt q hq p hp)
    · exact hv.2.2 p hp q hq
  · simp only [List.length_append, h1.len, h2.len]; omega
  · rw [fk_app, fk_app, fk_app, h1.cls, h2.cls]
    have := fk_swap hlt k
    simp only [List.append_assoc]
    rw [← List.append_assoc (fk k v1), ← this]
    simp only [List.append_assoc]
theorem So.one (x : Mb) : So [x] := List.pairwise_singleton _ _
theorem list_snoc {α : Type} : ∀ l : List α, l = [] ∨ ∃ a x, l = a ++ [x]
  | [] => .inl rfl
  | x :: l => by
    rcases list_snoc l with rfl | ⟨a, y, rfl⟩
    · exact .inr ⟨[], x, rfl⟩
    · exact .inr ⟨x :: a, y, rfl⟩
/-- A list cut at a place. -/
theorem cut_list {α : Type} (l : List α) (n : Nat) (h : n ≤ l.length) : ∃ a b, l = a ++ b ∧ a.length = n := ⟨l.take n, l.drop n, (List.take_append_drop n l).symm, by simp; omega⟩
/-- There is just one stable ascending order. -/
theorem stable_one : ∀ {l l' : List Mb}, So l → So l' → (∀ k, fk k l = fk k l') → l = l'
  | [], [], _, _, _ => rfl
  | [], y :: t, _, _, h => by
    have := h y.key
    simp [fk] at this
  | x :: t, [], _, _, h => by
    have := h x.key
    simp [fk] at this
  | x :: t, y :: s, h1, h2, h => by
    have hxm : x ∈ y :: s := by
      have := mem_fk (show x ∈ x :: t by simp)
      rw [h] at this
      exact (fk_mem this).1
    have hym : y ∈ x :: t := by
      have := mem_fk (show y ∈ y :: s by simp)
      rw [← h] at this
      exact (fk_mem this).1
    have hxy : lk y x = false := by
      rcases List.mem_cons.1 hym with rfl | hm
      · exact lk_irr _
      · exact List.rel_of_pairwise_cons h1 hm
    have hyx : lk x y = false := by
      rcases List.mem_cons.1 hxm with rfl | hm
      · exact lk_irr _
      · exact List.rel_of_pairwise_cons h2 hm
    have hk := lk_same hxy hyx
    have e := h x.key
    simp only [fk, List.filter_cons, hk, decide_true, if_true] at e
    injection e with e1 e2
    subst e1
    have hs : ∀ k, fk k t = fk k s := fun k => by
      have := h k
      simp only [fk, List.filter_cons] at this
      by_cases hkk : decide (x.key = k) = true
      · rw [if_pos hkk, if_pos hkk] at this
        injection this
      · rw [if_neg hkk, if_neg hkk] at this
        exact this
    rw [stable_one (List.pairwise_cons.1 h1).2 (List.pairwise_cons.1 h2).2 hs]
/-- What the insertion sort of a whole row makes. -/
theorem ins_so (d : Array Mb) : So (insertionSort (Go.Proofs.ltOf mcf) d 0 d.size).toList ∧ ∀ k, fk k (insertionSort (Go.Proofs.ltOf mcf) d 0 d.size).toList = fk k d.toList := by
  have h := insertionSort_holds (lt := Go.Proofs.ltOf mcf) mcf_swo d 0 d.size (Nat.zero_le _) (Nat.le_refl _)
  refine ⟨?_, fun k => sort_filter (lt := Go.Proofs.ltOf mcf) (p := fun m => decide (m.key = k)) (fun x y hl hk => ?_) d 0 d.size (Nat.le_refl _)⟩
  · generalize insertionSort (Go.Proofs.ltOf mcf) d 0 d.size = r at h
    obtain ⟨⟨hs, -, -⟩, h⟩ := h
    refine List.pairwise_iff_getElem.2 fun i j hi hj hij => ?_
    have hj2 : j < d.size := by rw [← hs]; simpa using hj
    have := h i j (Nat.zero_le _) hij hj2
    rw [getElem!_pos r j (by simpa using hj), getElem!_pos r i (by simpa using hi)] at this
    simpa [lk] using this
  · have := lk_key (of_decide_eq_true hk.1) (of_decide_eq_true hk.2)
    rw [lk_def, this] at hl
    cases hl
theorem split_one {α : Type} (z : List α) {i : Nat} (h : i < z.length) : z = z.take i ++ z[i] :: z.drop (i + 1) := by
  conv => lhs; rw [← List.take_append_drop i z, List.drop_eq_getElem_cons h]
/-- An insertion sort of a stretch, in lists. -/
theorem ins_part {d : Array Mb} {X u Y : List Mb} (hd : d.toList = X ++ (u ++ Y)) {a b : Nat} (ha : a = X.length) (hb : b = X.length + u.length) :
    ∃ z, (insertionSort (Go.Proofs.ltOf mcf) d a b).toList = X ++ (z ++ Y) ∧ So z ∧ z.length = u.length ∧ ∀ k, fk k z = fk k u := by
  subst ha
  subst hb
  have hsz : d.size = X.length + u.length + Y.length := by rw [← Array.length_toList, hd]; simp; omega
  have h := insertionSort_holds (lt := Go.Proofs.ltOf mcf) mcf_swo d X.length (X.length + u.length) (by omega) (by omega)
  have hf := fun k => sort_filter (lt := Go.Proofs.ltOf mcf) (p := fun m => decide (m.key = k)) (fun x y hl hk => by
    have := lk_key (of_decide_eq_true hk.1) (of_decide_eq_true hk.2)
    rw [lk_def, this] at hl
    cases hl) d X.length (X.length + u.length) (by omega)
  generalize insertionSort (Go.Proofs.ltOf mcf) d X.length (X.length + u.length) = r at h hf
  obtain ⟨⟨hs, hout, -⟩, hso⟩ := h
  have hrl : r.toList.length = X.length + u.length + Y.length := by rw [Array.length_toList, hs, hsz]
  have hget : ∀ i, i < X.length ∨ X.length + u.length ≤ i → r.toList[i]? = d.toList[i]? := by
    intro i hi
    by_cases hlt : i < d.size
    · have := hout i hi
      rw [getElem!_pos r i (by omega), getElem!_pos d i hlt] at this
      rw [Array.getElem?_toList, Array.getElem?_toList, Array.getElem?_eq_getElem (by omega), Array.getElem?_eq_getElem hlt, this]
    · rw [List.getElem?_eq_none (by rw [hrl]; omega), List.getElem?_eq_none (by rw [Array.length_toList]; omega)]
  obtain ⟨A, R, hr, hA⟩ := cut_list r.toList X.length (by omega)
  obtain ⟨z, B, rfl, hz⟩ := cut_list R u.length (by rw [hr] at hrl; simp at hrl; omega)
  have hAX : A = X := by
    apply List.ext_getElem?
    intro i
    by_cases hi : i < X.length
    · have := hget i (.inl hi)
      rw [hr, hd, List.getElem?_append_left (by omega), List.getElem?_append_left hi] at this
      exact this
    · rw [List.getElem?_eq_none (by omega), List.getElem?_eq_none (by omega)]
  have hBY : B = Y := by
    apply List.ext_getElem?
    intro i
    have := hget (X.length + u.length + i) (.inr (by omega))
    rw [hr, hd, List.getElem?_append_right (by omega), List.getElem?_append_right (by omega), List.getElem?_append_right (by omega), List.getElem?_append_right (by omega), hA, hz, show X.length + u.length + i - X.length - u.length = i by omega] at this
    exact this
  subst hAX
  subst hBY
  refine ⟨z, hr, ?_, hz, fun k => ?_⟩
  · refine List.pairwise_iff_getElem.2 fun i j hi hj hij => ?_
    have hri : ∀ (t : Nat) (ht : t < z.length), r[A.length + t]! = z[t] := fun t ht => at_mid (A := A ++ z.take t) (x := z[t]) (B := z.drop (t + 1) ++ B) (by
      rw [hr]
      have h := split_one z ht
      conv => lhs; rw [h]
      simp only [List.append_assoc, List.cons_append]) (by simp; omega)
    have := hso (A.length + i) (A.length + j) (by omega) (by omega) (by omega)
    rw [hri i hi, hri j hj] at this
    exact this
  · have := hf k
    rw [hr, hd] at this
    simp only [List.filter_append] at this
    exact List.append_cancel_right (List.append_cancel_left this)
end Go.Proofs.YtjafmdngbphacaaGreatDoor
