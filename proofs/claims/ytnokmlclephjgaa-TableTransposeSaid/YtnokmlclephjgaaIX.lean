/- Indexes into a list of values, and the order of the values at them: what a stable sort of indexes sorts. Plain. The stable merge of two stretches of indexes, plain. The stable order of indexes by blocks, plain. -/
import Derived.Test.YtnokmlclephjgaaSortP
import Derived.Test.YtnokmlclephjgaaVOrd
set_option linter.unusedVariables false
set_option linter.unusedSimpArgs false
set_option linter.unusedSectionVars false
namespace Go.Proofs.Ytnokmlclephjgaa.Ix
open Go.RowKit Go.Sort Go.Proofs.Ytnokmlclephjgaa
/-- An index into the keys. -/
def Ik (K : List V) : Type := {i : Nat // i < K.length}
def Ik.key {K : List V} (x : Ik K) : V := K[x.1]'x.2
/-- Its one cell. -/
def Ik.one {K : List V} (x : Ik K) : List Value := [.int .i64 x.1]
def mcI {K : List V} (x y : Ik K) : Int := vcmp x.key y.key
theorem ltI {K : List V} (x y : Ik K) : Go.Proofs.ltOf mcI x y = decide (vcmp x.key y.key < 0) := rfl
theorem vcmp_self (x : V) : vcmp x x = 0 := (vcmp_zero x x).2 rfl
theorem mcI_swo {K : List V} : SWO (Go.Proofs.ltOf (mcI (K := K))) where
  irrefl x := by simp [Go.Proofs.ltOf, mcI, vcmp_self]
  trans x y z h k := by
    have h : vcmp x.key y.key < 0 := of_decide_eq_true h
    have k : vcmp y.key z.key < 0 := of_decide_eq_true k
    exact decide_eq_true ((vcmp_tr x.key y.key z.key).2.1 (by omega) (by omega) (Or.inl h))
  ntrans x y z h k := by
    have h : ¬ vcmp x.key y.key < 0 := of_decide_eq_false h
    have k : ¬ vcmp y.key z.key < 0 := of_decide_eq_false k
    have a1 := vcmp_anti x.key y.key
    have a2 := vcmp_anti y.key z.key
    have a3 := vcmp_anti x.key z.key
    have t := (vcmp_tr z.key y.key x.key).1 (by omega) (by omega)
    exact decide_eq_false (by show ¬ vcmp x.key z.key < 0; omega)
noncomputable instance vDec : DecidableEq V := fun a b => Classical.propDecidable (a = b)
end Go.Proofs.Ytnokmlclephjgaa.Ix
namespace Go.Proofs.Ytnokmlclephjgaa.Ix
open Go.RowKit Go.Sort Go.Proofs.Ytnokmlclephjgaa
variable {K : List V} [Inhabited (Ik K)]
/-- An exchange of two places, in a list. -/
theorem swp_far {α : Type} [Inhabited α] {d : Array α} {A M B : List α} {x y : α} (h : d.toList = A ++ x :: (M ++ y :: B)) {i j : Nat} (hi : i = A.length) (hj : j = A.length + 1 + M.length) : (swp d i j).toList = A ++ y :: (M ++ x :: B) := by
  obtain ⟨l⟩ := d
  simp only at h
  subst h
  subst hi
  subst hj
  have h1 : (A ++ x :: (M ++ y :: B))[A.length]! = x := by simp
  have h2 : (A ++ x :: (M ++ y :: B))[A.length + 1 + M.length]! = y := by
    rw [getElem!_def, List.getElem?_append_right (by omega), show A.length + 1 + M.length - A.length = M.length + 1 by omega, List.getElem?_cons_succ, List.getElem?_append_right (by omega), Nat.sub_self, List.getElem?_cons_zero]
  unfold swp
  rw [Array.toList_setIfInBounds, Array.toList_setIfInBounds]
  simp only [List.getElem!_toArray, h1, h2]
  rw [List.set_append_right _ _ (by omega), Nat.sub_self, List.set_cons_zero, List.set_append_right _ _ (by omega), show A.length + 1 + M.length - A.length = M.length + 1 by omega, List.set_cons_succ, List.set_append_right _ _ (by omega), Nat.sub_self, List.set_cons_zero]
/-- The other way round. -/
theorem swp_far' {α : Type} [Inhabited α] {d : Array α} {A M B : List α} {x y : α} (h : d.toList = A ++ x :: (M ++ y :: B)) {i j : Nat} (hi : i = A.length) (hj : j = A.length + 1 + M.length) : (swp d j i).toList = A ++ y :: (M ++ x :: B) := by
  obtain ⟨l⟩ := d
  simp only at h
  subst h
  subst hi
  subst hj
  have h1 : (A ++ x :: (M ++ y :: B))[A.length]! = x := by simp
  have h2 : (A ++ x :: (M ++ y :: B))[A.length + 1 + M.length]! = y := by
    rw [getElem!_def, List.getElem?_append_right (by omega), show A.length + 1 + M.length - A.length = M.length + 1 by omega, List.getElem?_cons_succ, List.getElem?_append_right (by omega), Nat.sub_self, List.getElem?_cons_zero]
  unfold swp
  rw [Array.toList_setIfInBounds, Array.toList_setIfInBounds]
  simp only [List.getElem!_toArray, h1, h2]
  rw [List.set_append_right _ _ (by omega), show A.length + 1 + M.length - A.length = M.length + 1 by omega, List.set_cons_succ, List.set_append_right _ _ (by omega), Nat.sub_self, List.set_cons_zero, List.set_append_right _ _ (by omega), Nat.sub_self, List.set_cons_zero]
theorem at_mid {α : Type} [Inhabited α] {d : Array α} {A B : List α} {x : α} (h : d.toList = A ++ x :: B) {i : Nat} (hi : i = A.length) : d[i]! = x := by
  obtain ⟨l⟩ := d
  simp only at h
  subst h
  subst hi
  simp
/-- One member's key is less than another's. -/
def lk (x y : (Ik K)) : Bool := Go.Proofs.ltOf mcI x y
theorem lk_def (x y : (Ik K)) : Go.Proofs.ltOf mcI x y = lk x y := rfl
theorem lk_irr (x : (Ik K)) : lk x x = false := mcI_swo.irrefl x
theorem lk_asym {x y : (Ik K)} (h : lk x y = true) : lk y x = false := mcI_swo.asymmA h
theorem lk_nt {x y z : (Ik K)} (h : lk x y = false) (k : lk y z = false) : lk x z = false := mcI_swo.ntrans _ _ _ h k
/-- y < x and x ≤ z give y < z. -/
theorem lk_le {x y z : (Ik K)} (h : lk y x = true) (k : lk z x = false) : lk y z = true := by
  cases hh : lk y z with
  | true => rfl
  | false => have := lk_nt hh k; rw [h] at this; cases this
/-- z ≤ y and y < x give z < x. -/
theorem lk_le' {x y z : (Ik K)} (h : lk y x = true) (k : lk y z = false) : lk z x = true := by
  cases hh : lk z x with
  | true => rfl
  | false => have := lk_nt k hh; rw [h] at this; cases this
theorem lk_key {x y : (Ik K)} {k : V} (hx : x.key = k) (hy : y.key = k) : lk x y = false := by
  unfold lk
  rw [ltI, hx, hy, vcmp_self]
  rfl
theorem lk_same {x y : (Ik K)} (h : lk x y = false) (k : lk y x = false) : x.key = y.key := by
  unfold lk at h k
  rw [ltI] at h k
  have h := of_decide_eq_false h
  have k := of_decide_eq_false k
  have := vcmp_anti x.key y.key
  exact (vcmp_zero x.key y.key).1 (by omega)
/-- Ascending. -/
def So (l : List (Ik K)) : Prop := l.Pairwise fun x y => lk y x = false
/-- The members with a key, in their order. -/
noncomputable def fk (k : V) (l : List (Ik K)) : List (Ik K) := l.filter fun m => decide (m.key = k)
theorem fk_app (k : V) (a b : List (Ik K)) : fk k (a ++ b) = fk k a ++ fk k b := List.filter_append ..
theorem fk_mem {k : V} {l : List (Ik K)} {x : (Ik K)} (h : x ∈ fk k l) : x ∈ l ∧ x.key = k := by
  have := List.mem_filter.1 h
  exact ⟨this.1, of_decide_eq_true this.2⟩
theorem mem_fk {l : List (Ik K)} {x : (Ik K)} (h : x ∈ l) : x ∈ fk x.key l := List.mem_filter.2 ⟨h, decide_eq_true rfl⟩
/-- Two stretches, the later one less than the earlier one throughout, may change places. -/
theorem fk_swap {u v : List (Ik K)} (h : ∀ x ∈ u, ∀ y ∈ v, lk y x = true) (k : V) : fk k u ++ fk k v = fk k v ++ fk k u := by
  cases hu : fk k u with
  | nil => simp
  | cons x r =>
    cases hv : fk k v with
    | nil => simp
    | cons y s =>
      have hx := fk_mem (show x ∈ fk k u by rw [hu]; simp)
      have hy := fk_mem (show y ∈ fk k v by rw [hv]; simp)
      have := h x hx.1 y hy.1
      rw [lk_key hy.2 hx.2] at this
      cases this
/-- z is the stable merge of u and v. -/
structure Mg (u v z : List (Ik K)) : Prop where
  so : So z
  len : z.length = u.length + v.length
  cls : ∀ k, fk k z = fk k u ++ fk k v
theorem Mg.mem {u v z : List (Ik K)} (h : Mg u v z) {x : (Ik K)} (hx : x ∈ z) : x ∈ u ∨ x ∈ v := by
  have := mem_fk hx
  rw [h.cls, List.mem_append] at this
  exact this.imp (fun h => (fk_mem h).1) fun h => (fk_mem h).1
theorem Mg.left {v : List (Ik K)} (h : So v) : Mg [] v v := ⟨h, by simp, fun k => by simp [fk]⟩
theorem Mg.right {u : List (Ik K)} (h : So u) : Mg u [] u := ⟨h, by simp, fun k => by simp [fk]⟩
theorem Mg.split {u1 u2 v1 v2 z1 z2 : List (Ik K)} (h1 : Mg u1 v1 z1) (h2 : Mg u2 v2 z2) (hu : So (u1 ++ u2)) (hv : So (v1 ++ v2)) (hlt : ∀ x ∈ u2, ∀ y ∈ v1, lk y x = true) (hle : ∀ x ∈ u1, ∀ y ∈ v2, lk y x = false) : Mg (u1 ++ u2) (v1 ++ v2) (z1 ++ z2) := by
  have hu := List.pairwise_append.1 hu
  have hv := List.pairwise_append.1 hv
  refine ⟨List.pairwise_append.2 ⟨h1.so, h2.so, fun p hp q hq => ?_⟩, ?_, fun k => ?_⟩
  · rcases h1.mem hp with hp | hp <;> rcases h2.mem hq with hq | hq
    · exact hu.2.2 p hp q hq
    · exact hle p hp q hq
    · exact lk_asym (hlt q hq p hp)
    · exact hv.2.2 p hp q hq
  · simp only [List.length_append, h1.len, h2.len]; omega
  · rw [fk_app, fk_app, fk_app, h1.cls, h2.cls]
    have := fk_swap hlt k
    simp only [List.append_assoc]
    rw [← List.append_assoc (fk k v1), ← this]
    simp only [List.append_assoc]
theorem So.app_left {a b : List (Ik K)} (h : So (a ++ b)) : So a := (List.pairwise_append.1 h).1
theorem So.app_right {a b : List (Ik K)} (h : So (a ++ b)) : So b := (List.pairwise_append.1 h).2.1
theorem So.one (x : (Ik K)) : So [x] := List.pairwise_singleton _ _
/-- What holds of the last one of an ascending list .. -/
theorem So.last_lt {a : List (Ik K)} {x y : (Ik K)} (h : So (a ++ [y])) (hl : lk y x = true) : ∀ z ∈ a ++ [y], lk z x = true := by
  intro z hz
  rcases List.mem_append.1 hz with hz | hz
  · exact lk_le' hl ((List.pairwise_append.1 h).2.2 z hz y (by simp))
  · rw [List.mem_singleton.1 hz]; exact hl
theorem So.last_le {a : List (Ik K)} {x y : (Ik K)} (h : So (a ++ [y])) (hl : lk x y = false) : ∀ z ∈ a ++ [y], lk x z = false := by
  intro z hz
  rcases List.mem_append.1 hz with hz | hz
  · exact lk_nt hl ((List.pairwise_append.1 h).2.2 z hz y (by simp))
  · rw [List.mem_singleton.1 hz]; exact hl
theorem So.head_lt {a : List (Ik K)} {x y : (Ik K)} (h : So (y :: a)) (hl : lk x y = true) : ∀ z ∈ y :: a, lk x z = true := by
  intro z hz
  rcases List.mem_cons.1 hz with rfl | hz
  · exact hl
  · exact lk_le hl (List.rel_of_pairwise_cons h hz)
theorem So.head_le {a : List (Ik K)} {x y : (Ik K)} (h : So (y :: a)) (hl : lk y x = false) : ∀ z ∈ y :: a, lk z x = false := by
  intro z hz
  rcases List.mem_cons.1 hz with rfl | hz
  · exact hl
  · exact lk_nt (List.rel_of_pairwise_cons h hz) hl
theorem list_snoc {α : Type} : ∀ l : List α, l = [] ∨ ∃ a x, l = a ++ [x]
  | [] => .inl rfl
  | x :: l => by
    rcases list_snoc l with rfl | ⟨a, y, rfl⟩
    · exact .inr ⟨[], x, rfl⟩
    · exact .inr ⟨x :: a, y, rfl⟩
/-- A list cut at a place. -/
theorem cut_list {α : Type} (l : List α) (n : Nat) (h : n ≤ l.length) : ∃ a b, l = a ++ b ∧ a.length = n := ⟨l.take n, l.drop n, (List.take_append_drop n l).symm, by simp; omega⟩
/-- One member merged into a list behind it: what the search found. -/
theorem merge_one_left {d : Array (Ik K)} {X Y v : List (Ik K)} {x : (Ik K)} {i : Nat} (hd : d.toList = X ++ x :: (v ++ Y)) (hv : So v) (h1 : X.length + 1 ≤ i) (h2 : i ≤ X.length + 1 + v.length)
    (hlo : i = X.length + 1 ∨ lk d[i - 1]! x = true) (hhi : i = X.length + 1 + v.length ∨ lk d[i]! x = false) :
    ∃ v1 v2, v = v1 ++ v2 ∧ X.length + 1 + v1.length = i ∧ Mg [x] v (v1 ++ x :: v2) := by
  obtain ⟨v1, v2, rfl, hl⟩ := cut_list v (i - (X.length + 1)) (by omega)
  refine ⟨v1, v2, rfl, by omega, ?_⟩
  have ha : ∀ y ∈ v1, lk y x = true := by
    rcases list_snoc v1 with rfl | ⟨a, y, rfl⟩
    · simp
    · rcases hlo with hlo | hlo
      · simp at hl; omega
      · simp at hl
        rw [at_mid (A := X ++ x :: a) (x := y) (B := v2 ++ Y) (by rw [hd]; simp) (by simp; omega)] at hlo
        exact (hv.app_left).last_lt hlo
  have hb : ∀ y ∈ v2, lk y x = false := by
    cases v2 with
    | nil => simp
    | cons y b =>
      rcases hhi with hhi | hhi
      · simp at hhi; omega
      · rw [at_mid (A := X ++ x :: v1) (x := y) (B := b ++ Y) (by rw [hd]; simp) (by simp; omega)] at hhi
        exact (hv.app_right).head_le hhi
  have := Mg.split (u1 := []) (u2 := [x]) (v1 := v1) (v2 := v2) (z1 := v1) (z2 := x :: v2) (Mg.left hv.app_left) ⟨?_, by simp; omega, fun k => by rw [← fk_app]; rfl⟩ (So.one x) hv (fun p hp q hq => by rw [List.mem_singleton.1 hp]; exact ha q hq) (fun p hp => by cases hp)
  · exact this
  · exact List.pairwise_cons.2 ⟨fun q hq => hb q hq, hv.app_right⟩
/-- One member merged into a list ahead of it. -/
theorem merge_one_right {d : Array (Ik K)} {X Y u : List (Ik K)} {x : (Ik K)} {i : Nat} (hd : d.toList = X ++ (u ++ x :: Y)) (hu : So u) (h1 : X.length ≤ i) (h2 : i ≤ X.length + u.length)
    (hlo : i = X.length ∨ lk x d[i - 1]! = false) (hhi : i = X.length + u.length ∨ lk x d[i]! = true) :
    ∃ u1 u2, u = u1 ++ u2 ∧ X.length + u1.length = i ∧ Mg u [x] (u1 ++ x :: u2) := by
  obtain ⟨u1, u2, rfl, hl⟩ := cut_list u (i - X.length) (by omega)
  refine ⟨u1, u2, rfl, by omega, ?_⟩
  have ha : ∀ y ∈ u1, lk x y = false := by
    rcases list_snoc u1 with rfl | ⟨a, y, rfl⟩
    · simp
    · rcases hlo with hlo | hlo
      · simp at hl; omega
      · simp at hl
        rw [at_mid (A := X ++ a) (x := y) (B := u2 ++ x :: Y) (by rw [hd]; simp) (by simp; omega)] at hlo
        exact (hu.app_left).last_le hlo
  have hb : ∀ y ∈ u2, lk x y = true := by
    cases u2 with
    | nil => simp
    | cons y b =>
      rcases hhi with hhi | hhi
      · simp at hhi; omega
      · rw [at_mid (A := X ++ u1) (x := y) (B := b ++ x :: Y) (by rw [hd]; simp) (by simp; omega)] at hhi
        exact (hu.app_right).head_lt hhi
  have h0 : So (u1 ++ [x]) := List.pairwise_append.2 ⟨hu.app_left, So.one x, fun p hp q hq => by rw [List.mem_singleton.1 hq]; exact ha p hp⟩
  have := Mg.split (u1 := u1) (u2 := u2) (v1 := [x]) (v2 := []) (z1 := u1 ++ [x]) (z2 := u2) ⟨h0, by simp, fun k => by rw [← fk_app]⟩ (Mg.right hu.app_right) hu (by simpa using So.one x) (fun p hp q hq => by rw [List.mem_singleton.1 hq]; exact hb p hp) (fun p hp q hq => by cases hq)
  simpa using this
/-- The middle case: what the symmetric search found. -/
theorem merge_sym {d : Array (Ik K)} {X Y u v : List (Ik K)} {m b mid s lo hi : Nat} (hd : d.toList = X ++ (u ++ (v ++ Y))) (hu : So u) (hv : So v) (hm : m = X.length + u.length) (hb : b = m + v.length) (hlen : 2 ≤ u.length) (hlen2 : 2 ≤ v.length) (hmid : mid = (X.length + b) / 2)
    (hlohi : (m > mid ∧ lo = mid + m - b ∧ hi = mid) ∨ (m ≤ mid ∧ lo = X.length ∧ hi = m)) (h1 : lo ≤ s) (h2 : s ≤ hi)
    (hlo : s = lo ∨ lk d[mid + m - 1 - (s - 1)]! d[s - 1]! = false) (hhi : s = hi ∨ lk d[mid + m - 1 - s]! d[s]! = true) :
    ∃ u1 u2 v1 v2, u = u1 ++ u2 ∧ v = v1 ++ v2 ∧ X.length + u1.length = s ∧ m + v1.length = mid + m - s ∧ (∀ x ∈ u2, ∀ y ∈ v1, lk y x = true) ∧ (∀ x ∈ u1, ∀ y ∈ v2, lk y x = false) := by
  have ha : X.length ≤ s := by omega
  have hsm : s ≤ m := by omega
  have he1 : m ≤ mid + m - s := by omega
  have he2 : mid + m - s ≤ b := by omega
  obtain ⟨u1, u2, rfl, hl1⟩ := cut_list u (s - X.length) (by omega)
  obtain ⟨v1, v2, rfl, hl2⟩ := cut_list v (mid - s) (by omega)
  refine ⟨u1, u2, v1, v2, rfl, rfl, by omega, by omega, ?_, ?_⟩
  · cases u2 with
    | nil => simp
    | cons x r =>
      rcases list_snoc v1 with rfl | ⟨c, y, rfl⟩
      · simp
      · simp only [List.length_append, List.length_cons, List.length_nil] at hl2 hm hb
        rcases hhi with hhi | hhi
        · omega
        · rw [at_mid (A := X ++ (u1 ++ (x :: r ++ c))) (x := y) (B := v2 ++ Y) (by rw [hd]; simp) (by simp; omega), at_mid (A := X ++ u1) (x := x) (B := r ++ ((c ++ [y] ++ v2) ++ Y)) (by rw [hd]; simp) (by simp; omega)] at hhi
          intro p hp q hq
          have h3 := (hv.app_left).last_lt hhi q hq
          exact (hu.app_right).head_lt h3 p hp
  · rcases list_snoc u1 with rfl | ⟨c, x, rfl⟩
    · simp
    · cases v2 with
      | nil => simp
      | cons y r =>
        simp only [List.length_append, List.length_cons, List.length_nil] at hl1 hm hb
        rcases hlo with hlo | hlo
        · omega
        · rw [at_mid (A := X ++ (c ++ [x] ++ u2 ++ v1)) (x := y) (B := r ++ Y) (by rw [hd]; simp) (by simp; omega), at_mid (A := X ++ c) (x := x) (B := u2 ++ ((v1 ++ y :: r) ++ Y)) (by rw [hd]; simp) (by simp; omega)] at hlo
          intro p hp q hq
          have h3 := (hu.app_left).last_le hlo p hp
          exact (hv.app_right).head_le h3 q hq
/-- There is just one stable ascending order. -/
theorem stable_one : ∀ {l l' : List (Ik K)}, So l → So l' → (∀ k, fk k l = fk k l') → l = l'
  | [], [], _, _, _ => rfl
  | [], y :: t, _, _, h => by
    have := h y.key
    simp [fk] at this
  | x :: t, [], _, _, h => by
    have := h x.key
    simp [fk] at this
  | x :: t, y :: s, h1, h2, h => by
    have hxm : x ∈ y :: s := by
      have := mem_fk (show x ∈ x :: t by simp)
      rw [h] at this
      exact (fk_mem this).1
    have hym : y ∈ x :: t := by
      have := mem_fk (show y ∈ y :: s by simp)
      rw [← h] at this
      exact (fk_mem this).1
    have hxy : lk y x = false := by
      rcases List.mem_cons.1 hym with rfl | hm
      · exact lk_irr _
      · exact List.rel_of_pairwise_cons h1 hm
    have hyx : lk x y = false := by
      rcases List.mem_cons.1 hxm with rfl | hm
      · exact lk_irr _
      · exact List.rel_of_pairwise_cons h2 hm
    have hk := lk_same hxy hyx
    have e := h x.key
    simp only [fk, List.filter_cons, hk, decide_true, if_true] at e
    injection e with e1 e2
    subst e1
    have hs : ∀ k, fk k t = fk k s := fun k => by
      have := h k
      simp only [fk, List.filter_cons] at this
      by_cases hkk : decide (x.key = k) = true
      · rw [if_pos hkk, if_pos hkk] at this
        injection this
      · rw [if_neg hkk, if_neg hkk] at this
        exact this
    rw [stable_one (List.pairwise_cons.1 h1).2 (List.pairwise_cons.1 h2).2 hs]
/-- What the insertion sort of a whole row makes. -/
theorem ins_so (d : Array (Ik K)) : So (insertionSort (Go.Proofs.ltOf mcI) d 0 d.size).toList ∧ ∀ k, fk k (insertionSort (Go.Proofs.ltOf mcI) d 0 d.size).toList = fk k d.toList := by
  have h := insertionSort_holds (lt := Go.Proofs.ltOf mcI) mcI_swo d 0 d.size (Nat.zero_le _) (Nat.le_refl _)
  refine ⟨?_, fun k => sort_filter (lt := Go.Proofs.ltOf mcI) (p := fun m => decide (m.key = k)) (fun x y hl hk => ?_) d 0 d.size (Nat.le_refl _)⟩
  · generalize insertionSort (Go.Proofs.ltOf mcI) d 0 d.size = r at h
    obtain ⟨⟨hs, -, -⟩, h⟩ := h
    refine List.pairwise_iff_getElem.2 fun i j hi hj hij => ?_
    have hj2 : j < d.size := by rw [← hs]; simpa using hj
    have := h i j (Nat.zero_le _) hij hj2
    rw [getElem!_pos r j (by simpa using hj), getElem!_pos r i (by simpa using hi)] at this
    simpa [lk] using this
  · have := lk_key (of_decide_eq_true hk.1) (of_decide_eq_true hk.2)
    rw [lk_def, this] at hl
    cases hl
theorem split_one {α : Type} (z : List α) {i : Nat} (h : i < z.length) : z = z.take i ++ z[i] :: z.drop (i + 1) := by
  conv => lhs; rw [← List.take_append_drop i z, List.drop_eq_getElem_cons h]
/-- An insertion sort of a stretch, in lists. -/
theorem ins_part {d : Array (Ik K)} {X u Y : List (Ik K)} (hd : d.toList = X ++ (u ++ Y)) {a b : Nat} (ha : a = X.length) (hb : b = X.length + u.length) :
    ∃ z, (insertionSort (Go.Proofs.ltOf mcI) d a b).toList = X ++ (z ++ Y) ∧ So z ∧ z.length = u.length ∧ ∀ k, fk k z = fk k u := by
  subst ha
  subst hb
  have hsz : d.size = X.length + u.length + Y.length := by rw [← Array.length_toList, hd]; simp; omega
  have h := insertionSort_holds (lt := Go.Proofs.ltOf mcI) mcI_swo d X.length (X.length + u.length) (by omega) (by omega)
  have hf := fun k => sort_filter (lt := Go.Proofs.ltOf mcI) (p := fun m => decide (m.key = k)) (fun x y hl hk => by
    have := lk_key (of_decide_eq_true hk.1) (of_decide_eq_true hk.2)
    rw [lk_def, this] at hl
    cases hl) d X.length (X.length + u.length) (by omega)
  generalize insertionSort (Go.Proofs.ltOf mcI) d X.length (X.length + u.length) = r at h hf
  obtain ⟨⟨hs, hout, -⟩, hso⟩ := h
  have hrl : r.toList.length = X.length + u.length + Y.length := by rw [Array.length_toList, hs, hsz]
  have hget : ∀ i, i < X.length ∨ X.length + u.length ≤ i → r.toList[i]? = d.toList[i]? := by
    intro i hi
    by_cases hlt : i < d.size
    · have := hout i hi
      rw [getElem!_pos r i (by omega), getElem!_pos d i hlt] at this
      rw [Array.getElem?_toList, Array.getElem?_toList, Array.getElem?_eq_getElem (by omega), Array.getElem?_eq_getElem hlt, this]
    · rw [List.getElem?_eq_none (by rw [hrl]; omega), List.getElem?_eq_none (by rw [Array.length_toList]; omega)]
  obtain ⟨A, R, hr, hA⟩ := cut_list r.toList X.length (by omega)
  obtain ⟨z, B, rfl, hz⟩ := cut_list R u.length (by rw [hr] at hrl; simp at hrl; omega)
  have hAX : A = X := by
    apply List.ext_getElem?
    intro i
    by_cases hi : i < X.length
    · have := hget i (.inl hi)
      rw [hr, hd, List.getElem?_append_left (by omega), List.getElem?_append_left hi] at this
      exact this
    · rw [List.getElem?_eq_none (by omega), List.getElem?_eq_none (by omega)]
  have hBY : B = Y := by
    apply List.ext_getElem?
    intro i
    have := hget (X.length + u.length + i) (.inr (by omega))
    rw [hr, hd, List.getElem?_append_right (by omega), List.getElem?_append_right (by omega), List.getElem?_append_right (by omega), List.getElem?_append_right (by omega), hA, hz, show X.length + u.length + i - X.length - u.length = i by omega] at this
    exact this
  subst hAX
  subst hBY
  refine ⟨z, hr, ?_, hz, fun k => ?_⟩
  · refine List.pairwise_iff_getElem.2 fun i j hi hj hij => ?_
    have hri : ∀ (t : Nat) (ht : t < z.length), r[A.length + t]! = z[t] := fun t ht => at_mid (A := A ++ z.take t) (x := z[t]) (B := z.drop (t + 1) ++ B) (by
      rw [hr]
      have h := split_one z ht
      conv => lhs; rw [h]
      simp only [List.append_assoc, List.cons_append]) (by simp; omega)
    have := hso (A.length + i) (A.length + j) (by omega) (by omega) (by omega)
    rw [hri i hi, hri j hj] at this
    exact this
  · have := hf k
    rw [hr, hd] at this
    simp only [List.filter_append] at this
    exact List.append_cancel_right (List.append_cancel_left this)
end Go.Proofs.Ytnokmlclephjgaa.Ix
namespace Go.Proofs.Ytnokmlclephjgaa.Ix
open Go.RowKit Go.Sort Go.Proofs.Ytnokmlclephjgaa
variable {K : List V} [Inhabited (Ik K)]
/-- Blocks of B ascending members, the last one perhaps shorter. -/
inductive Bk (B : Nat) : List (Ik K) → Prop
  | last {l : List (Ik K)} : l.length ≤ B → So l → Bk B l
  | cons {a r : List (Ik K)} : a.length = B → So a → Bk B r → Bk B (a ++ r)
/-- Whole blocks of B ascending members. -/
inductive FB (B : Nat) : List (Ik K) → Prop
  | nil : FB B []
  | snoc {p z : List (Ik K)} : FB B p → z.length = B → So z → FB B (p ++ z)
theorem FB.bk {B : Nat} {p : List (Ik K)} (h : FB B p) : ∀ {r : List (Ik K)}, Bk B r → Bk B (p ++ r) := by
  induction h with
  | nil => exact fun h => h
  | snoc h1 h2 h3 ih =>
    intro r hr
    rw [List.append_assoc]
    exact ih (Bk.cons h2 h3 hr)
theorem so_nil : So ([] : List (Ik K)) := List.Pairwise.nil
theorem Bk.small {B : Nat} {l : List (Ik K)} (h : Bk B l) (hl : l.length ≤ B) : So l := by
  cases h with
  | last _ h => exact h
  | @cons a r h1 h2 _ =>
    simp at hl
    obtain rfl : r = [] := List.eq_nil_of_length_eq_zero (by omega)
    simpa using h2
theorem Bk.one {B : Nat} {l : List (Ik K)} (h : Bk B l) (hl : B < l.length) : ∃ a r, l = a ++ r ∧ a.length = B ∧ So a ∧ Bk B r := by
  cases h with
  | last h _ => omega
  | @cons a r h1 h2 h3 => exact ⟨a, r, rfl, h1, h2, h3⟩
theorem Bk.two {B : Nat} {l : List (Ik K)} (h : Bk B l) (hB : 1 ≤ B) (hl : 2 * B ≤ l.length) : ∃ u v Y, l = u ++ (v ++ Y) ∧ u.length = B ∧ v.length = B ∧ So u ∧ So v ∧ Bk B Y := by
  obtain ⟨u, r, rfl, h1, h2, h3⟩ := h.one (by omega)
  simp at hl
  cases h3 with
  | last h4 h5 => exact ⟨u, r, [], by simp, h1, by omega, h2, h5, Bk.last (by simp) so_nil⟩
  | @cons v Y h4 h5 h6 => exact ⟨u, v, Y, rfl, h1, h4, h2, h5, h6⟩
theorem Bk.part {B : Nat} {l : List (Ik K)} (h : Bk B l) (hl : B < l.length) (hl2 : l.length < 2 * B) : ∃ u v, l = u ++ v ∧ u.length = B ∧ So u ∧ So v := by
  obtain ⟨u, r, rfl, h1, h2, h3⟩ := h.one hl
  simp at hl2
  exact ⟨u, r, rfl, h1, h2, h3.small (by omega)⟩
/-- The same members at each key, in one order. -/
def SameK (l l' : List (Ik K)) : Prop := ∀ k, fk k l' = fk k l
theorem SameK.refl (l : List (Ik K)) : SameK l l := fun _ => rfl
theorem SameK.mid {l X u z Y : List (Ik K)} (h : SameK l (X ++ (u ++ Y))) (hz : ∀ k, fk k z = fk k u) : SameK l (X ++ (z ++ Y)) := fun k => by
  rw [← h k]
  simp only [fk_app, hz]
theorem Mg.same {l X u v z Y : List (Ik K)} (h : SameK l (X ++ (u ++ (v ++ Y)))) (hz : Mg u v z) : SameK l (X ++ (z ++ Y)) := fun k => by
  rw [← h k]
  simp only [fk_app, hz.cls, List.append_assoc]
/-- The state of the first pass. -/
structure P1 (l : List (Ik K)) (a : Nat) (d : Array (Ik K)) : Prop where
  ex : ∃ p r, d.toList = p ++ r ∧ p.length = a ∧ FB 20 p
  same : SameK l d.toList
theorem P1.start (d : Array (Ik K)) : P1 d.toList 0 d := ⟨⟨[], d.toList, rfl, rfl, FB.nil⟩, SameK.refl _⟩
theorem P1.step {l : List (Ik K)} {a : Nat} {d : Array (Ik K)} (h : P1 l a d) (ha : a + 20 ≤ d.size) : P1 l (a + 20) (insertionSort (Go.Proofs.ltOf mcI) d a (a + 20)) := by
  obtain ⟨⟨p, r, h1, h2, h3⟩, h4⟩ := h
  have hl : d.size = p.length + r.length := by rw [← Array.length_toList, h1]; simp
  obtain ⟨u, Y, rfl, hu⟩ := cut_list r 20 (by omega)
  obtain ⟨z, z1, z2, z3, z4⟩ := ins_part (d := d) (X := p) (u := u) (Y := Y) h1 h2.symm (show a + 20 = p.length + u.length by omega)
  refine ⟨⟨p ++ z, Y, by rw [z1]; simp, by simp; omega, FB.snoc h3 (by omega) z2⟩, ?_⟩
  rw [z1]
  rw [h1] at h4
  exact h4.mid z4
/-- The state between two passes. -/
structure P2 (l : List (Ik K)) (B : Nat) (d : Array (Ik K)) : Prop where
  bk : Bk B d.toList
  same : SameK l d.toList
theorem P1.done {l : List (Ik K)} {a n : Nat} {d : Array (Ik K)} (h : P1 l a d) (ha : ¬ a + 20 ≤ d.size) (han : a ≤ d.size) (hn : n = d.size) : P2 l 20 (insertionSort (Go.Proofs.ltOf mcI) d a n) := by
  subst hn
  obtain ⟨⟨p, r, h1, h2, h3⟩, h4⟩ := h
  have hl : d.size = p.length + r.length := by rw [← Array.length_toList, h1]; simp
  obtain ⟨z, z1, z2, z3, z4⟩ := ins_part (d := d) (X := p) (u := r) (Y := []) (by rw [h1]; simp) h2.symm hl
  refine ⟨?_, ?_⟩
  · rw [z1, List.append_nil]
    exact h3.bk (Bk.last (by omega) z2)
  · rw [z1]
    rw [h1, ← List.append_nil r] at h4
    exact h4.mid z4
/-- The state within a pass. -/
structure P3 (l : List (Ik K)) (B a : Nat) (d : Array (Ik K)) : Prop where
  ex : ∃ p r, d.toList = p ++ r ∧ p.length = a ∧ FB (2 * B) p ∧ Bk B r
  same : SameK l d.toList
theorem P2.start {l : List (Ik K)} {B : Nat} {d : Array (Ik K)} (h : P2 l B d) : P3 l B 0 d := ⟨⟨[], d.toList, rfl, rfl, FB.nil, h.bk⟩, h.same⟩
/-- Two blocks to merge .. -/
theorem P3.two {l : List (Ik K)} {B a : Nat} {d : Array (Ik K)} (h : P3 l B a d) (hB : 1 ≤ B) (ha : a + 2 * B ≤ d.size) : ∃ X u v Y, d.toList = X ++ (u ++ (v ++ Y)) ∧ So u ∧ So v ∧ X.length = a ∧ u.length = B ∧ v.length = B ∧
    ∀ (d' : Array (Ik K)) (z : List (Ik K)), d'.toList = X ++ (z ++ Y) → Mg u v z → P3 l B (a + 2 * B) d' := by
  obtain ⟨⟨p, r, h1, h2, h3, h5⟩, h4⟩ := h
  have hl : d.size = p.length + r.length := by rw [← Array.length_toList, h1]; simp
  obtain ⟨u, v, Y, rfl, k1, k2, k3, k4, k5⟩ := h5.two hB (by omega)
  refine ⟨p, u, v, Y, h1, k3, k4, h2, k1, k2, fun d' z hd hz => ⟨⟨p ++ z, Y, by rw [hd]; simp, by simp [hz.len]; omega, FB.snoc h3 (by rw [hz.len]; omega) hz.so, k5⟩, ?_⟩⟩
  rw [hd]
  rw [h1] at h4
  exact hz.same h4
/-- .. or one and a part .. -/
theorem P3.part {l : List (Ik K)} {B a : Nat} {d : Array (Ik K)} (h : P3 l B a d) (ha : ¬ a + 2 * B ≤ d.size) (ha2 : a + B < d.size) : ∃ X u v, d.toList = X ++ (u ++ (v ++ [])) ∧ So u ∧ So v ∧ X.length = a ∧ u.length = B ∧ 1 ≤ v.length ∧ X.length + u.length + v.length = d.size ∧
    ∀ (d' : Array (Ik K)) (z : List (Ik K)), d'.toList = X ++ (z ++ []) → Mg u v z → P2 l (B * 2) d' := by
  obtain ⟨⟨p, r, h1, h2, h3, h5⟩, h4⟩ := h
  have hl : d.size = p.length + r.length := by rw [← Array.length_toList, h1]; simp
  obtain ⟨u, v, rfl, k1, k2, k3⟩ := h5.part (by omega) (by omega)
  simp only [List.length_append] at hl
  refine ⟨p, u, v, by rw [h1]; simp, k2, k3, h2, k1, by omega, by omega, fun d' z hd hz => ⟨?_, ?_⟩⟩
  · rw [hd, List.append_nil, Nat.mul_comm]
    exact h3.bk (Bk.last (by rw [hz.len]; omega) hz.so)
  · rw [hd]
    rw [h1, ← List.append_nil v] at h4
    exact hz.same h4
/-- .. or nothing. -/
theorem P3.done {l : List (Ik K)} {B a : Nat} {d : Array (Ik K)} (h : P3 l B a d) (ha2 : ¬ a + B < d.size) : P2 l (B * 2) d := by
  obtain ⟨⟨p, r, h1, h2, h3, h5⟩, h4⟩ := h
  have hl : d.size = p.length + r.length := by rw [← Array.length_toList, h1]; simp
  refine ⟨?_, h4⟩
  rw [h1, Nat.mul_comm]
  exact h3.bk (Bk.last (by omega) (h5.small (by omega)))
/-- The end: it is what the insertion sort makes. -/
theorem P2.fin {B : Nat} {d d' : Array (Ik K)} (h : P2 d.toList B d') (hB : d'.size ≤ B) : d' = insertionSort (Go.Proofs.ltOf mcI) d 0 d.size := by
  have h1 := h.bk.small (by simpa using hB)
  obtain ⟨i1, i2⟩ := ins_so d
  have := stable_one h1 i1 (fun k => (h.same k).trans (i2 k).symm)
  exact Array.toList_inj.1 this
end Go.Proofs.Ytnokmlclephjgaa.Ix
