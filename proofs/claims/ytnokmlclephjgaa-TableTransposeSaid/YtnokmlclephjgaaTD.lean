/- A region that draws its order and holds two chains of operations: an invariant that tells how far each has come serves all orders, each operation is walked once. Nothing of the program is named here. Two appends of one element each in a region that draws its order: a lane for each (before its element is laid, laid, appended). Nothing of the program is named here. -/
import Derived.Deep.RegionHeld3
import Derived.Test.YtnokmlclephjgaaBox
import Derived.Laws.AppendOwn
import Derived.Laws.OwnMore
set_option linter.unusedVariables false
set_option linter.unusedSimpArgs false
namespace Go.Proofs.Ytnokmlclephjgaa
/-- What has come up when i of the first chain and j of the second have. -/
def chL (base : Array Bool) (A B : List Nat) (i j : Nat) : Array Bool := (A.take i ++ B.take j).foldl (fun l k => l.setIfInBounds k true) base
def chOk (md : Region.Mode) (ops : Array Oper) (base : Array Bool) (A B : List Nat) (i j : Nat) : Bool :=
  (Region.ready md ops (chL base A B i j)).all (fun k => (A[i]? == some k && (chL base A B i j).setIfInBounds k true == chL base A B (i + 1) j) || (B[j]? == some k && (chL base A B i j).setIfInBounds k true == chL base A B i (j + 1))) &&
  (!(Region.ready md ops (chL base A B i j)).isEmpty || (i == A.length && j == B.length))
/-- One closed fact of a region: nothing but the next of either chain may come up, and something may till both have ended. -/
def chAll (md : Region.Mode) (ops : Array Oper) (base : Array Bool) (A B : List Nat) : Bool :=
  (List.range (A.length + 1)).all fun i => (List.range (B.length + 1)).all fun j => chOk md ops base A B i j
theorem chAll_at {md : Region.Mode} {ops : Array Oper} {base : Array Bool} {A B : List Nat} (h : chAll md ops base A B = true) {i j : Nat} (hi : i ≤ A.length) (hj : j ≤ B.length) : chOk md ops base A B i j = true := by
  unfold chAll at h
  rw [List.all_eq_true] at h
  have h1 := h i (List.mem_range.2 (by omega))
  rw [List.all_eq_true] at h1
  exact h1 j (List.mem_range.2 (by omega))
theorem wpAnyH_chains {P : Program} {md : Region.Mode} {ops : Array Oper} {Q : Exit → Act → World → Prop} {S : World → Prop} {base : Array Bool} (A B : List Nat) (J : Nat → Nat → Act → World → Prop)
    (hc : chAll md ops base A B = true)
    (hA : ∀ i j k a w, A[i]? = some k → i < A.length → j ≤ B.length → J i j a w → wpOp P ops Q k (fun a' w' => S w' ∧ J (i + 1) j a' w') a w)
    (hB : ∀ i j k a w, B[j]? = some k → i ≤ A.length → j < B.length → J i j a w → wpOp P ops Q k (fun a' w' => S w' ∧ J i (j + 1) a' w') a w)
    (hQ : ∀ a w, J A.length B.length a w → Q .normal a w) :
    ∀ (fuel i j : Nat) (a : Act) (w : World), i ≤ A.length → j ≤ B.length → (A.length - i) + (B.length - j) ≤ fuel → J i j a w → wpAnyH P md ops Q S fuel (chL base A B i j) a w := by
  intro fuel
  induction fuel with
  | zero =>
    intro i j a w hi hj hf hJ
    have e1 : i = A.length := by omega
    have e2 : j = B.length := by omega
    subst e1 e2
    have h := chAll_at hc (Nat.le_refl _) (Nat.le_refl _)
    unfold chOk at h
    rw [Bool.and_eq_true, List.all_eq_true] at h
    refine ⟨List.eq_nil_iff_forall_not_mem.2 fun k hk => ?_, hQ a w hJ⟩
    have h2 := h.1 k hk
    simp at h2
  | succ fuel ih =>
    intro i j a w hi hj hf hJ
    have h := chAll_at hc hi hj
    unfold chOk at h
    rw [Bool.and_eq_true, List.all_eq_true] at h
    refine ⟨fun h0 => ?_, fun k hk => ?_⟩
    · rw [h0] at h
      simp at h
      obtain ⟨rfl, rfl⟩ := h
      exact hQ a w hJ
    · have h2 := h.1 k hk
      rw [Bool.or_eq_true, Bool.and_eq_true, Bool.and_eq_true, beq_iff_eq, beq_iff_eq, beq_iff_eq, beq_iff_eq] at h2
      rcases h2 with ⟨hk1, hk2⟩ | ⟨hk1, hk2⟩
      · have hlt : i < A.length := (List.getElem?_eq_some_iff.1 hk1).1
        rw [hk2]
        exact wpOp_mono (fun a' w' h3 => ⟨h3.1, ih (i + 1) j a' w' (by omega) hj (by omega) h3.2⟩) (hA i j k a w hk1 hlt hj hJ)
      · have hlt : j < B.length := (List.getElem?_eq_some_iff.1 hk1).1
        rw [hk2]
        exact wpOp_mono (fun a' w' h3 => ⟨h3.1, ih i (j + 1) a' w' hi (by omega) (by omega) h3.2⟩) (hB i j k a w hk1 hi hlt hJ)
/-- At the region's point where the chains begin. -/
theorem wpAnyH_both {P : Program} {md : Region.Mode} {ops : Array Oper} {Q : Exit → Act → World → Prop} {S : World → Prop} {base : Array Bool} (A B : List Nat) (J : Nat → Nat → Act → World → Prop) {fuel : Nat} {a : Act} {w : World}
    (hc : chAll md ops base A B = true) (hf : (Nat.ble (A.length + B.length) fuel) = true) (h0 : J 0 0 a w)
    (hA : ∀ i j k a w, A[i]? = some k → i < A.length → j ≤ B.length → J i j a w → wpOp P ops Q k (fun a' w' => S w' ∧ J (i + 1) j a' w') a w)
    (hB : ∀ i j k a w, B[j]? = some k → i ≤ A.length → j < B.length → J i j a w → wpOp P ops Q k (fun a' w' => S w' ∧ J i (j + 1) a' w') a w)
    (hQ : ∀ a w, J A.length B.length a w → Q .normal a w) : wpAnyH P md ops Q S fuel base a w :=
  wpAnyH_chains (S := S) A B J hc hA hB hQ fuel 0 0 a w (Nat.zero_le _) (Nat.zero_le _) (by have := Nat.le_of_ble_eq_true hf; omega) h0
end Go.Proofs.Ytnokmlclephjgaa
namespace Go.Proofs.Ytnokmlclephjgaa
open Go.RowKit
structure Lane (te : TypeId) (base size : Nat) (p : Nat) (V tb tv : Value) (n : Nat) (xs new : List Value) (W : World) : Prop where
  own : p < 2 → W.ownsRow base te size V n xs
  box : p = 1 → ∃ g, tb = .slice (some ⟨g, 0, none⟩) 1 1 ∧ Box W g te new.toArray
  fin : 2 ≤ p → W.ownsRow base te size tv (n + 1) (xs ++ new)
/-- The blocks that a lane uses. -/
def LaneU (p : Nat) (V tb tv : Value) (b : Nat) : Prop := (p < 2 ∧ V.ownBlock = some b) ∨ (p = 1 ∧ tb = .slice (some ⟨b, 0, none⟩) 1 1) ∨ (2 ≤ p ∧ tv.ownBlock = some b)
theorem own_still {w w' : World} {base size n : Nat} {e : TypeId} {v : Value} {xs : List Value} (h : w.ownsRow base e size v n xs) (hk : ∀ b, v.ownBlock = some b → w'.heap[b]? = w.heap[b]?) : w'.ownsRow base e size v n xs := by
  refine ⟨h.1, ?_⟩
  rcases h.2 with h1 | ⟨g, cap, cur, rfl, h1, h2, h3⟩
  · exact .inl h1
  · exact .inr ⟨g, cap, cur, rfl, h1, (hk g rfl).trans h2, h3⟩
section
variable {te : TypeId} {base size p q n m : Nat} {V tb tv V2 tb2 tv2 : Value} {xs new xs2 new2 : List Value} {W W' : World}
theorem Lane.lt (h : Lane te base size p V tb tv n xs new W) {b : Nat} (hu : LaneU p V tb tv b) : b < W.heap.size := by
  rcases hu with ⟨h1, h2⟩ | ⟨h1, h2⟩ | ⟨h1, h2⟩
  · exact ((h.own h1).lt b h2).2
  · obtain ⟨g, e, hb⟩ := h.box h1
    rw [h2] at e
    injection e with e
    injection e with e
    injection e with e
    subst e
    exact hb.lt
  · exact ((h.fin h1).lt b h2).2
theorem Lane.keep (h : Lane te base size p V tb tv n xs new W) (hk : ∀ b, LaneU p V tb tv b → W'.heap[b]? = W.heap[b]?) : Lane te base size p V tb tv n xs new W' := by
  refine ⟨fun h1 => own_still (h.own h1) fun b hb => hk b (.inl ⟨h1, hb⟩), fun h1 => ?_, fun h1 => own_still (h.fin h1) fun b hb => hk b (.inr (.inr ⟨h1, hb⟩))⟩
  obtain ⟨g, e, hb⟩ := h.box h1
  exact ⟨g, e, (hk g (.inr (.inl ⟨h1, e⟩))).trans hb⟩
theorem Lane.built (h : Lane te base size 0 V tb tv n xs new W) (tb' tv' : Value) (htb : tb' = .slice (some ⟨W.heap.size, 0, none⟩) 1 1) : Lane te base size 1 V tb' tv' n xs new (W.alloc (.cells new.toArray te)) := by
  refine ⟨fun _ => own_still (h.own (by decide)) fun b hb => Below.heap_alloc _ _ b ((h.own (by decide)).lt b hb).2, fun _ => ⟨_, htb, Box.laid _ _ _⟩, fun h1 => absurd h1 (by decide)⟩
/-- Both lanes, apart. -/
structure Lanes (te : TypeId) (base size : Nat) (p q : Nat) (V tb tv : Value) (n : Nat) (xs new : List Value) (V2 tb2 tv2 : Value) (m : Nat) (xs2 new2 : List Value) (W : World) : Prop where
  a : Lane te base size p V tb tv n xs new W
  b : Lane te base size q V2 tb2 tv2 m xs2 new2 W
  dis : ∀ k, LaneU p V tb tv k → ¬ LaneU q V2 tb2 tv2 k
theorem Lanes.swap (h : Lanes te base size p q V tb tv n xs new V2 tb2 tv2 m xs2 new2 W) : Lanes te base size q p V2 tb2 tv2 m xs2 new2 V tb tv n xs new W := ⟨h.b, h.a, fun k h1 h2 => h.dis k h2 h1⟩
theorem Lanes.below (h : Lanes te base size p q V tb tv n xs new V2 tb2 tv2 m xs2 new2 W) (hb : Below W.heap.size W W') : Lanes te base size p q V tb tv n xs new V2 tb2 tv2 m xs2 new2 W' :=
  ⟨h.a.keep fun k hk => hb.block k (h.a.lt hk), h.b.keep fun k hk => hb.block k (h.b.lt hk), h.dis⟩
theorem Lanes.build (h : Lanes te base size 0 q V tb tv n xs new V2 tb2 tv2 m xs2 new2 W) (tb' tv' : Value) (htb : tb' = .slice (some ⟨W.heap.size, 0, none⟩) 1 1) :
    Lanes te base size 1 q V tb' tv' n xs new V2 tb2 tv2 m xs2 new2 (W.alloc (.cells new.toArray te)) := by
  refine ⟨h.a.built tb' tv' htb, h.b.keep fun k hk => Below.heap_alloc _ _ k (h.b.lt hk), fun k h1 h2 => ?_⟩
  have hlt := h.b.lt h2
  rcases h1 with ⟨_, h3⟩ | ⟨_, h3⟩ | ⟨h3, _⟩
  · exact h.dis k (.inl ⟨by decide, h3⟩) h2
  · rw [htb] at h3
    injection h3 with h3
    injection h3 with h3
    injection h3 with h3
    omega
  · exact absurd h3 (by decide)
theorem Lanes.app (h : Lanes te base size 1 q V tb tv n xs new V2 tb2 tv2 m xs2 new2 W) {g cap : Nat} (ho : W'.ownsRow base te size (.slice (some ⟨g, 0, none⟩) (n + 1) cap) (n + 1) (xs ++ new)) (hg : W.grownBy W' V.ownBlock) (hor : V.ownBlock = some g ∨ g = W.heap.size) (tv' : Value) (htv : tv' = .slice (some ⟨g, 0, none⟩) (n + 1) cap) :
    Lanes te base size 2 q V tb tv' n xs new V2 tb2 tv2 m xs2 new2 W' := by
  subst htv
  refine ⟨⟨fun h1 => absurd h1 (by decide), fun h1 => absurd h1 (by decide), fun _ => ho⟩, h.b.keep fun k hk => hg.block k (h.b.lt hk) fun e => h.dis k (.inl ⟨by decide, e.symm⟩) hk, fun k h1 h2 => ?_⟩
  have hlt := h.b.lt h2
  rcases h1 with ⟨h3, _⟩ | ⟨h3, _⟩ | ⟨_, h3⟩
  · exact absurd h3 (by decide)
  · exact absurd h3 (by decide)
  · have hk : g = k := by injection h3
    subst hk
    rcases hor with h4 | h4
    · exact h.dis g (.inl ⟨by decide, h4⟩) h2
    · omega
theorem Lanes.start {V V2 : Value} (ha : W.ownsRow base te size V n xs) (hb : W.ownsRow base te size V2 m xs2) (hd : ∀ k, V.ownBlock = some k → V2.ownBlock ≠ some k) (tb tv tb2 tv2 : Value) (new new2 : List Value) :
    Lanes te base size 0 0 V tb tv n xs new V2 tb2 tv2 m xs2 new2 W :=
  ⟨⟨fun _ => ha, fun h1 => absurd h1 (by decide), fun h1 => absurd h1 (by decide)⟩, ⟨fun _ => hb, fun h1 => absurd h1 (by decide), fun h1 => absurd h1 (by decide)⟩, fun k h1 h2 => by
    rcases h1 with ⟨_, h3⟩ | ⟨h3, _⟩ | ⟨h3, _⟩
    · rcases h2 with ⟨_, h4⟩ | ⟨h4, _⟩ | ⟨h4, _⟩
      · exact hd k h3 h4
      · exact absurd h4 (by decide)
      · exact absurd h4 (by decide)
    · exact absurd h3 (by decide)
    · exact absurd h3 (by decide)⟩
/-- Behind the region. -/
theorem Lanes.out (h : Lanes te base size 2 2 V tb tv n xs new V2 tb2 tv2 m xs2 new2 W) : W.ownsRow base te size tv (n + 1) (xs ++ new) ∧ W.ownsRow base te size tv2 (m + 1) (xs2 ++ new2) ∧ ∀ k, tv.ownBlock = some k → tv2.ownBlock ≠ some k :=
  ⟨h.a.fin (Nat.le_refl _), h.b.fin (Nat.le_refl _), fun k h1 h2 => h.dis k (.inr (.inr ⟨Nat.le_refl _, h1⟩)) (.inr (.inr ⟨Nat.le_refl _, h2⟩))⟩
/-- What the append of a lane asks: its row, the header of its element, the element's cells. -/
theorem Lane.ask (h : Lane te base size 1 V tb tv n xs new W) : W.ownsRow base te size V n xs ∧ ∃ g, tb = .slice (some ⟨g, 0, none⟩) 1 1 ∧ ∀ j u, new[j]? = some u → W.cell? ((⟨g, 0, none⟩ : Addr).add j) = some u := by
  obtain ⟨g, e, hb⟩ := h.box rfl
  refine ⟨h.own (by decide), g, e, fun j u hj => ?_⟩
  have h3 : ((⟨g, 0, none⟩ : Addr).add j) = ⟨g, j, none⟩ := by
    unfold Addr.add
    by_cases h : j = 0 <;> simp [h]
  rw [h3]
  exact hb.cell (by simpa using hj)
theorem grown_belowL {row : Option Nat} {w : World} (hg : W.grownBy W' row) (hb : Below w.heap.size w W) (hr : ∀ k, row = some k → w.heap.size ≤ k) : Below w.heap.size w W' :=
  ⟨hg.os.trans hb.os, hg.tape.trans hb.tape, hg.output.trans hb.output, Nat.le_trans hb.size hg.size, fun k hk => (hg.block k (Nat.lt_of_lt_of_le hk hb.size) (fun e => by have := hr k e.symm; omega)).trans (hb.block k hk)⟩
end
end Go.Proofs.Ytnokmlclephjgaa
