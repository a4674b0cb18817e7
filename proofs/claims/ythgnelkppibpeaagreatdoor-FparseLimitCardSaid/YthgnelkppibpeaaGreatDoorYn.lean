/- The parser of filters ends: with forty steps for each token, every rule gives something, and the next token never lies before. Nothing of the program is named here. -/
import Derived.Test.YthgnelkppibpeaaGreatDoorYm
set_option linter.unusedVariables false
set_option linter.unusedSimpArgs false
set_option linter.unusedSectionVars false
namespace Go.Proofs.YthgnelkppibpeaaGreatDoor
open Go.RowKit
/-- The list ends with a token of kind 0, and such tokens have no text. -/
structure EndL (L : List Fk) : Prop where
  pos : 0 < L.length
  last : (tk L (L.length - 1)).k = 0
  none : ∀ k, (tk L k).k = 0 → (tk L k).s = ⟨#[]⟩
section
variable {L : List Fk} (hE : EndL L)
include hE
theorem EndL.next {k : Nat} (hk : k < L.length) (h : (tk L k).k ≠ 0) : k + 1 < L.length := by
  by_cases h2 : k = L.length - 1
  · subst h2; exact absurd hE.last h
  · have := hE.pos; omega
theorem sees_next {x : ByteArray} {σ : PS} (hk : σ.k < L.length) (h : sees L x σ = true) : σ.k + 1 < L.length := by
  refine hE.next hk fun h0 => ?_
  unfold sees isW at h
  rw [h0] at h
  simp at h
theorem any_next {xs : List ByteArray} {σ : PS} (hk : σ.k < L.length) (h : anyP L xs σ = true) : σ.k + 1 < L.length := by
  refine hE.next hk fun h0 => ?_
  unfold anyP isW at h
  rw [h0] at h
  simp at h
theorem up_read {σ : PS} (hk : σ.k < L.length) : σ.k ≤ (readP L σ).k ∧ (readP L σ).k < L.length := by
  unfold readP
  split
  · exact ⟨Nat.le_refl _, hk⟩
  · exact ⟨Nat.le_succ _, hE.next hk ‹_›⟩
theorem up_fail {σ : PS} (t : Fk) (hk : σ.k < L.length) : σ.k ≤ (failP L t σ).k ∧ (failP L t σ).k < L.length := by
  unfold failP
  split
  · have := hE.pos; exact ⟨by show _ ≤ L.length - 1; omega, by show L.length - 1 < _; omega⟩
  · exact ⟨Nat.le_refl _, hk⟩
theorem up_need {σ : PS} (x : ByteArray) (hk : σ.k < L.length) : σ.k ≤ (needP L x σ).k ∧ (needP L x σ).k < L.length := by
  unfold needP
  split
  · exact ⟨Nat.le_succ _, sees_next hE hk ‹_›⟩
  · exact up_fail hE _ hk
theorem up_kind {σ : PS} (K : Nat) (hk : σ.k < L.length) : σ.k ≤ (kindS L K σ).k ∧ (kindS L K σ).k < L.length := by
  unfold kindS
  have h1 := up_read hE hk
  split
  · exact h1
  · have h2 := up_fail hE (tk L σ.k) h1.2
    exact ⟨by omega, h2.2⟩
end
/-- Something is found, and the next token lies at c or behind it. -/
def Tm {α : Type} (L : List Fk) (c : Nat) (x : Option (α × PS)) : Prop := ∃ a σ, x = some (a, σ) ∧ c ≤ σ.k ∧ σ.k < L.length
theorem Tm.mk {α : Type} {L : List Fk} {c : Nat} {a : α} {σ : PS} (h : c ≤ σ.k) (h2 : σ.k < L.length) : Tm L c (some (a, σ)) := ⟨a, σ, rfl, h, h2⟩
theorem Tm.mono {α : Type} {L : List Fk} {c d : Nat} {x : Option (α × PS)} (h : Tm L c x) (hd : d ≤ c) : Tm L d x := by
  obtain ⟨a, σ, h1, h2, h3⟩ := h
  exact ⟨a, σ, h1, by omega, h3⟩
theorem Tm.bnd {α β : Type} {L : List Fk} {c d : Nat} {x : Option (α × PS)} {f : α → PS → Option (β × PS)} (h : Tm L d x) (hf : ∀ a σ, d ≤ σ.k → σ.k < L.length → Tm L c (f a σ)) : Tm L c (bnd x f) := by
  obtain ⟨a, σ, rfl, h2, h3⟩ := h
  exact hf a σ h2 h3
theorem Tm.ite {α : Type} {L : List Fk} {d : Nat} {c : Prop} [Decidable c] {x y : Option (α × PS)} (h1 : c → Tm L d x) (h2 : ¬ c → Tm L d y) : Tm L d (if c then x else y) := by
  by_cases h : c
  · rw [if_pos h]; exact h1 h
  · rw [if_neg h]; exact h2 h
section
variable {L : List Fk} (hE : EndL L)
include hE
theorem tm_listL {α : Type} {m : PS → Option (α × PS)} {K : Nat} (hm : ∀ σ, K ≤ σ.k → σ.k < L.length → Tm L σ.k (m σ)) : ∀ (n : Nat) (l : List α) (σ : PS), K ≤ σ.k → σ.k < L.length → L.length - 1 - σ.k < n → Tm L σ.k (listL L m n l σ)
  | 0, l, σ, h, h2, h3 => by omega
  | n + 1, l, σ, h, h2, h3 => by
    rw [listL]
    dsimp only
    split
    · have := sees_next hE h2 ‹_›
      refine (Tm.bnd (hm (adv σ) (by show K ≤ σ.k + 1; omega) this) fun a σ1 h4 h5 => ?_)
      have h4' : σ.k + 1 ≤ σ1.k := h4
      exact (tm_listL hm n _ σ1 (by omega) h5 (by omega)).mono (by omega)
    · have := up_need hE ⟨#[41]⟩ h2
      exact Tm.mk this.1 this.2
theorem tm_listM {α : Type} {m : PS → Option (α × PS)} {K : Nat} (hm : ∀ σ, K ≤ σ.k → σ.k < L.length → Tm L σ.k (m σ)) {n : Nat} {σ : PS} (h : K ≤ σ.k) (h2 : σ.k < L.length) (h3 : L.length - 1 - σ.k < n) : Tm L σ.k (listM L m n σ) := by
  unfold listM
  refine Tm.bnd (hm σ h h2) fun a σ1 h4 h5 => ?_
  exact (tm_listL hE hm n _ σ1 (by omega) h5 (by omega)).mono h4
theorem tm_chainL {m : PM} {K : Nat} (op : Int) (sg : List ByteArray) (hm : ∀ σ, K ≤ σ.k → σ.k < L.length → Tm L σ.k (m σ)) : ∀ (n : Nat) (f : Ft) (σ : PS), K ≤ σ.k → σ.k < L.length → L.length - 1 - σ.k < n → Tm L σ.k (chainL L m op sg n f σ)
  | 0, l, σ, h, h2, h3 => by omega
  | n + 1, l, σ, h, h2, h3 => by
    rw [chainL]
    dsimp only
    split
    · have := any_next hE h2 ‹_›
      refine (Tm.bnd (hm (adv σ) (by show K ≤ σ.k + 1; omega) this) fun a σ1 h4 h5 => ?_)
      have h4' : σ.k + 1 ≤ σ1.k := h4
      exact (tm_chainL op sg hm n _ σ1 (by omega) h5 (by omega)).mono (by omega)
    · exact Tm.mk (Nat.le_refl _) h2
theorem tm_chainM {m : PM} {K : Nat} (op : Int) (sg : List ByteArray) (hm : ∀ σ, K ≤ σ.k → σ.k < L.length → Tm L σ.k (m σ)) {n : Nat} {σ : PS} (h : K ≤ σ.k) (h2 : σ.k < L.length) (h3 : L.length - 1 - σ.k < n) : Tm L σ.k (chainM L m op sg n σ) := by
  unfold chainM
  refine Tm.bnd (hm σ h h2) fun a σ1 h4 h5 => ?_
  exact (tm_chainL hE op sg hm n _ σ1 (by omega) h5 (by omega)).mono h4
theorem tm_pairM {l r : PM} {K : Nat} (op : Int) (sg : List ByteArray) (hl : ∀ σ, K ≤ σ.k → σ.k < L.length → Tm L σ.k (l σ)) (hr : ∀ σ, K + 1 ≤ σ.k → σ.k < L.length → Tm L σ.k (r σ)) {σ : PS} (h : K ≤ σ.k) (h2 : σ.k < L.length) : Tm L σ.k (pairM L l r op sg σ) := by
  unfold pairM
  refine Tm.bnd (hl σ h h2) fun a σ1 h4 h5 => ?_
  split
  · have := any_next hE h5 ‹_›
    refine (Tm.bnd (hr (adv σ1) (by show K + 1 ≤ σ1.k + 1; omega) this) fun u σ2 h6 h7 => ?_)
    have h6' : σ1.k + 1 ≤ σ2.k := h6
    exact Tm.mk (by omega) h7
  · exact Tm.mk h4 h5
theorem tm_param {σ : PS} (h2 : σ.k < L.length) : Tm L σ.k (paramM L σ) := by
  have h1 := up_read hE h2
  unfold paramM
  split
  · exact Tm.mk h1.1 h1.2
  · split
    · exact Tm.mk h1.1 h1.2
    · have h3 := up_fail hE (tk L σ.k) h1.2
      exact Tm.mk (by omega) h3.2
variable {call : Ru → PM} {n K : Nat} (H : ∀ r σ, K ≤ σ.k → σ.k < L.length → Tm L σ.k (call r σ)) (hn : L.length - 1 - K < n)
include H
theorem tm_before (x : ByteArray) {σ : PS} (h : K ≤ σ.k) (h2 : σ.k < L.length) : Tm L σ.k (beforeM L call x σ) := by
  unfold beforeM
  refine Tm.bnd (H _ σ h h2) fun a σ1 h4 h5 => ?_
  have := up_need hE x h5
  exact Tm.mk (by omega) this.2
theorem tm_scope (op : Int) (subs : List Ft) {σ : PS} (h : K ≤ σ.k) (h2 : σ.k < L.length) : Tm L σ.k (scopeM L call op subs σ) := by
  unfold scopeM
  have h3 := up_kind hE 3 h2
  have h4 := up_need hE ⟨#[124]⟩ h3.2
  refine Tm.bnd (H _ _ (by omega) h4.2) fun a σ1 h5 h6 => ?_
  exact Tm.mk (by omega) h6
theorem tm_bracket (f : Ft) {σ : PS} (h : K ≤ σ.k) (h2 : σ.k < L.length) : Tm L σ.k (bracketM L call f σ) := by
  unfold bracketM
  split
  · exact Tm.mk (Nat.le_succ _) (sees_next hE h2 ‹_›)
  · split
    · have := sees_next hE h2 ‹_›
      refine Tm.bnd (tm_before hE H _ (σ := adv σ) (by show K ≤ σ.k + 1; omega) this) fun a σ1 h5 h6 => ?_
      have h5' : σ.k + 1 ≤ σ1.k := h5
      exact Tm.mk (by omega) h6
    · refine Tm.bnd (H _ σ h h2) fun a σ1 h5 h6 => ?_
      split
      · have h7 := sees_next hE h6 ‹_›
        split
        · have h8 := sees_next hE (σ := adv σ1) h7 ‹_›
          exact Tm.mk (by show σ.k ≤ σ1.k + 1 + 1; omega) h8
        · refine Tm.bnd (tm_before hE H _ (σ := adv σ1) (by show K ≤ σ1.k + 1; omega) h7) fun a σ2 h8 h9 => ?_
          have h8' : σ1.k + 1 ≤ σ2.k := h8
          exact Tm.mk (by omega) h9
      · have := up_need hE ⟨#[93]⟩ h6
        exact Tm.mk (by omega) this.2
theorem tm_point {σ : PS} (h2 : σ.k < L.length) : Tm L σ.k (pointM L σ) := by
  unfold pointM
  have h1 := up_read hE h2
  split
  · exact Tm.mk h1.1 h1.2
  · exact Tm.mk (Nat.le_refl _) h2
theorem tm_array {σ : PS} (h : K ≤ σ.k) (h2 : σ.k < L.length) : Tm L σ.k (arrayM L call σ) := by
  unfold arrayM
  split
  · exact Tm.mk (Nat.le_succ _) (sees_next hE h2 ‹_›)
  · refine Tm.bnd (tm_before hE H _ h h2) fun a σ1 h5 h6 => Tm.mk h5 h6
theorem tm_entry {σ : PS} (h : K ≤ σ.k) (h2 : σ.k < L.length) : Tm L σ.k (entryM L call σ) := by
  have h1 := up_read hE h2
  unfold entryM
  split
  · have h3 := sees_next hE h2 ‹_›
    refine Tm.bnd (tm_before hE H _ (σ := adv σ) (by show K ≤ σ.k + 1; omega) h3) fun a σ1 h5 h6 => ?_
    have h5' : σ.k + 1 ≤ σ1.k := h5
    have h7 := up_need hE ⟨#[58]⟩ h6
    refine Tm.bnd (H _ _ (by omega) h7.2) fun a σ2 h8 h9 => Tm.mk (by omega) h9
  · split
    · exact Tm.mk h1.1 h1.2
    · split
      · split
        · have h3 := sees_next hE h1.2 ‹_›
          refine Tm.bnd (H _ (adv (readP L σ)) (by show K ≤ (readP L σ).k + 1; omega) h3) fun a σ2 h8 h9 => ?_
          have h8' : (readP L σ).k + 1 ≤ σ2.k := h8
          exact Tm.mk (by omega) h9
        · exact Tm.mk h1.1 h1.2
      · have h3 := up_fail hE (tk L σ.k) h1.2
        exact Tm.mk (by omega) h3.2
theorem tm_objL : ∀ (m : Nat) (l : List Ft) (σ : PS), K ≤ σ.k → σ.k < L.length → L.length - 1 - σ.k < m → Tm L σ.k (objL L call m l σ)
  | 0, l, σ, h, h2, h3 => by omega
  | m + 1, l, σ, h, h2, h3 => by
    rw [objL]
    dsimp only
    refine Tm.bnd (tm_entry hE H h h2) fun p σ1 h5 h6 => ?_
    split
    · have h7 := sees_next hE h6 ‹_›
      exact (tm_objL m _ (adv σ1) (by show K ≤ σ1.k + 1; omega) h7 (by show L.length - 1 - (σ1.k + 1) < m; omega)).mono (by show σ.k ≤ σ1.k + 1; omega)
    · have := up_need hE ⟨#[125]⟩ h6
      exact Tm.mk (by omega) this.2
theorem tm_other {σ : PS} (h : K ≤ σ.k) (h2 : σ.k < L.length) : Tm L σ.k (otherM L call σ) := by
  unfold otherM
  split
  · have h3 := sees_next hE h2 ‹_›
    exact (H _ (adv σ) (by show K ≤ σ.k + 1; omega) h3).mono (Nat.le_succ _)
  · split
    · have h3 := sees_next hE h2 ‹_›
      exact (tm_before hE H _ (σ := adv σ) (by show K ≤ σ.k + 1; omega) h3).mono (Nat.le_succ _)
    · have := up_need hE ⟨#[101, 110, 100]⟩ h2
      exact Tm.mk this.1 this.2
theorem tm_try {σ : PS} (h : K ≤ σ.k) (h2 : σ.k < L.length) : Tm L σ.k (tryM L call σ) := by
  unfold tryM
  refine Tm.bnd (H _ σ h h2) fun a σ1 h5 h6 => ?_
  split
  · have h3 := sees_next hE h6 ‹_›
    refine Tm.bnd (H _ (adv σ1) (by show K ≤ σ1.k + 1; omega) h3) fun a σ2 h8 h9 => ?_
    have h8' : σ1.k + 1 ≤ σ2.k := h8
    exact Tm.mk (by omega) h9
  · exact Tm.mk h5 h6
theorem tm_source {σ : PS} (h : K ≤ σ.k) (h2 : σ.k < L.length) : Tm L σ.k (sourceM L call σ) := by
  unfold sourceM
  refine Tm.bnd (H _ σ h h2) fun a σ1 h5 h6 => ?_
  have h7 := up_need hE ⟨#[97, 115]⟩ h6
  have h8 := up_kind hE 3 h7.2
  have h9 := up_need hE ⟨#[40]⟩ h8.2
  exact Tm.mk (by omega) h9.2
theorem tm_reduce {σ : PS} (h : K ≤ σ.k) (h2 : σ.k < L.length) : Tm L σ.k (reduceM L call σ) := by
  unfold reduceM
  refine Tm.bnd (tm_source hE H h h2) fun a σ1 h5 h6 => ?_
  refine Tm.bnd (tm_before hE H _ (by omega) h6) fun a σ2 h7 h8 => ?_
  refine Tm.bnd (tm_before hE H _ (by omega) h8) fun a σ3 h9 h10 => ?_
  exact Tm.mk (by omega) h10
theorem tm_foreach {σ : PS} (h : K ≤ σ.k) (h2 : σ.k < L.length) : Tm L σ.k (foreachM L call σ) := by
  unfold foreachM
  refine Tm.bnd (tm_source hE H h h2) fun a σ1 h5 h6 => ?_
  refine Tm.bnd (tm_before hE H _ (by omega) h6) fun a σ2 h7 h8 => ?_
  refine Tm.bnd (H _ _ (by omega) h8) fun a σ3 h9 h10 => ?_
  split
  · have h3 := sees_next hE h10 ‹_›
    refine Tm.bnd (H _ (adv σ3) (by show K ≤ σ3.k + 1; omega) h3) fun a σ4 h11 h12 => ?_
    have h11' : σ3.k + 1 ≤ σ4.k := h11
    have h13 := up_need hE ⟨#[41]⟩ h12
    exact Tm.mk (by omega) h13.2
  · have h13 := up_need hE ⟨#[41]⟩ h10
    exact Tm.mk (by omega) h13.2
theorem tm_suffix (f : Ft) {σ : PS} (h : K ≤ σ.k + 1) (h2 : σ.k < L.length) (hs : sufB L σ = true) : Tm L (σ.k + 1) (suffixM L call f σ) := by
  unfold suffixM
  split
  · have h3 := sees_next hE h2 ‹_›
    have h4 := up_kind hE (σ := adv σ) 6 h3
    exact Tm.mk h4.1 h4.2
  · split
    · have h3 := sees_next hE h2 ‹_›
      exact Tm.mk (Nat.le_refl _) h3
    · split
      · have h3 := sees_next hE h2 ‹_›
        exact tm_bracket hE H f (σ := adv σ) h h3
      · have h4 : (tk L σ.k).k = 4 := by
          unfold sufB at hs
          simp only [Bool.or_eq_true, decide_eq_true_eq] at hs
          rcases hs with h | h | h | h
          · exact h
          · contradiction
          · contradiction
          · contradiction
        have h5 := hE.next h2 (by omega)
        refine Tm.mk (σ := kindS L 4 σ) ?_ (up_kind hE 4 h2).2
        unfold kindS readP adv
        rw [if_pos h4, if_neg (by omega)]
        exact Nat.le_refl _
theorem tm_postL : ∀ (m : Nat) (f : Ft) (σ : PS), K ≤ σ.k + 1 → σ.k < L.length → L.length - 1 - σ.k < m → Tm L σ.k (postL L call m f σ)
  | 0, l, σ, h, h2, h3 => by omega
  | m + 1, f, σ, h, h2, h3 => by
    rw [postL]
    dsimp only
    split
    · refine Tm.bnd (tm_suffix hE H f h h2 ‹_›) fun u σ1 h5 h6 => ?_
      exact (tm_postL m u σ1 (by omega) h6 (by omega)).mono (by omega)
    · exact Tm.mk (Nat.le_refl _) h2
include hn
theorem tm_def {σ : PS} (h : K ≤ σ.k) (h2 : σ.k < L.length) : Tm L σ.k (defM L call n σ) := by
  unfold defM
  have h3 := up_kind hE 1 h2
  have h4 : Tm L (kindS L 1 σ).k (paramsM L n (kindS L 1 σ)) := by
    unfold paramsM
    split
    · have h5 := sees_next hE h3.2 ‹_›
      exact (tm_listM hE (K := 0) (m := paramM L) (fun σ _ h => tm_param hE h) (σ := adv (kindS L 1 σ)) (Nat.zero_le _) h5 (by show L.length - 1 - ((kindS L 1 σ).k + 1) < n; omega)).mono (Nat.le_succ _)
    · exact Tm.mk (Nat.le_refl _) h3.2
  refine Tm.bnd h4 fun ps σ1 h5 h6 => ?_
  have h7 : (longP ps (tk L σ.k).o σ1).k = σ1.k := by unfold longP; split <;> rfl
  have h8 := up_need hE (σ := longP ps (tk L σ.k).o σ1) ⟨#[58]⟩ (by omega)
  refine Tm.bnd (H _ _ (by omega) h8.2) fun f σ2 h9 h10 => ?_
  have h11 := up_need hE (σ := σ2) ⟨#[59]⟩ h10
  refine Tm.bnd (H _ _ (by omega) h11.2) fun f σ3 h12 h13 => ?_
  exact Tm.mk (by omega) h13
theorem tm_object {σ : PS} (h : K ≤ σ.k) (h2 : σ.k < L.length) : Tm L σ.k (objectM L call n σ) := by
  unfold objectM
  split
  · exact Tm.mk (Nat.le_succ _) (sees_next hE h2 ‹_›)
  · exact tm_objL hE H n _ σ h h2 (by omega)
theorem tm_call (s : ByteArray) {σ : PS} (h : K ≤ σ.k) (h2 : σ.k < L.length) : Tm L σ.k (callM L call n s σ) := by
  unfold callM
  split
  · have h3 := sees_next hE h2 ‹_›
    refine Tm.bnd (tm_listM hE (K := K) (fun σ h1 h => H _ σ h1 h) (σ := adv σ) (by show K ≤ σ.k + 1; omega) h3 (by show L.length - 1 - (σ.k + 1) < n; omega)) fun l σ1 h4 h5 => ?_
    have h4' : σ.k + 1 ≤ σ1.k := h4
    exact Tm.mk (by omega) h5
  · split
    · exact Tm.mk (Nat.le_refl _) h2
    · exact Tm.mk (Nat.le_refl _) h2
/-- What is written: t was read at σ0, which is σ if t is the end. -/
theorem tm_written (t : Fk) (ht : t.k = 0 → t.s = ⟨#[]⟩) {c : Nat} {σ : PS} (hc : c ≤ σ.k) (h : t.k ≠ 0 → K ≤ σ.k) (h2 : σ.k < L.length) : Tm L c (writtenM L call n t σ) := by
  by_cases h0 : t.k = 0
  · have h3 := ht h0
    have h4 := up_fail hE t h2
    have e : writtenM L call n t σ = some (zf, failP L t σ) := by
      unfold writtenM
      rw [h3]
      repeat rw [if_neg (by decide)]
    rw [e]
    exact Tm.mk (by omega) h4.2
  · have h := h h0
    refine Tm.mono ?_ hc
    unfold writtenM
    refine Tm.ite (fun _ => ?_) (fun _ => ?_)
    · exact tm_point hE H h2
    refine Tm.ite (fun _ => ?_) (fun _ => ?_)
    · exact Tm.mk (Nat.le_refl _) h2
    refine Tm.ite (fun _ => ?_) (fun _ => ?_)
    · exact Tm.mk (Nat.le_refl _) h2
    refine Tm.ite (fun _ => ?_) (fun _ => ?_)
    · exact Tm.mk (Nat.le_refl _) h2
    refine Tm.ite (fun _ => ?_) (fun _ => ?_)
    · exact Tm.mk (Nat.le_refl _) h2
    refine Tm.ite (fun _ => ?_) (fun _ => ?_)
    · exact tm_before hE H _ h h2
    refine Tm.ite (fun _ => ?_) (fun _ => ?_)
    · exact tm_array hE H h h2
    refine Tm.ite (fun _ => ?_) (fun _ => ?_)
    · exact tm_object hE H hn h h2
    refine Tm.ite (fun _ => ?_) (fun _ => ?_)
    · exact H _ σ h h2
    refine Tm.ite (fun _ => ?_) (fun _ => ?_)
    · exact tm_try hE H h h2
    refine Tm.ite (fun _ => ?_) (fun _ => ?_)
    · exact tm_reduce hE H h h2
    refine Tm.ite (fun _ => ?_) (fun _ => ?_)
    · exact tm_foreach hE H h h2
    refine Tm.ite (fun _ => ?_) (fun _ => ?_)
    · have h4 := up_kind hE 3 h2
      exact Tm.mk h4.1 h4.2
    · have h4 := up_fail hE t h2
      exact Tm.mk h4.1 h4.2
end
def lev : Ru → Nat
  | .filter => 14 | .comma => 13 | .update => 12 | .alt => 11 | .or_ => 10 | .and_ => 9 | .cmp => 8 | .sum => 7 | .product => 6 | .unary => 5 | .operand => 4 | .post => 3 | .primary => 2 | .condition => 15
theorem lev_le (r : Ru) : lev r ≤ 15 := by cases r <;> decide
theorem tm_run {L : List Fk} (hE : EndL L) : ∀ (n : Nat) (r : Ru) (σ : PS), σ.k < L.length → 40 * (L.length - 1 - σ.k) + lev r < n → Tm L σ.k (run L n r σ)
  | 0, r, σ, h, h2 => by omega
  | n + 1, r, σ, h, h2 => by
    have IH := tm_run hE n
    have H : ∀ r' σ', σ.k + 1 ≤ σ'.k → σ'.k < L.length → Tm L σ'.k (run L n r' σ') := fun r' σ' h3 h4 => IH r' σ' h4 (by have := lev_le r'; omega)
    have hn : L.length - 1 - (σ.k + 1) < n ∨ L.length - 1 - σ.k = 0 := by omega
    have hlow : ∀ r', lev r' < lev r → ∀ σ', σ.k ≤ σ'.k → σ'.k < L.length → Tm L σ'.k (run L n r' σ') := fun r' h5 σ' h3 h4 => IH r' σ' h4 (by omega)
    have hn1 : L.length - 1 - σ.k < n := by
      cases r <;> simp only [lev] at h2 <;> omega
    have hn2 : L.length - 1 - (σ.k + 1) < n := by omega
    rw [run]
    cases r with
    | filter => exact tm_pairM hE _ _ (K := σ.k) (hlow _ (by decide)) (H _) (Nat.le_refl _) h
    | comma => exact tm_chainM hE _ _ (K := σ.k) (hlow _ (by decide)) (Nat.le_refl _) h hn1
    | update => exact tm_pairM hE _ _ (K := σ.k) (hlow _ (by decide)) (H _) (Nat.le_refl _) h
    | alt => exact tm_pairM hE _ _ (K := σ.k) (hlow _ (by decide)) (H _) (Nat.le_refl _) h
    | or_ => exact tm_chainM hE _ _ (K := σ.k) (hlow _ (by decide)) (Nat.le_refl _) h hn1
    | and_ => exact tm_chainM hE _ _ (K := σ.k) (hlow _ (by decide)) (Nat.le_refl _) h hn1
    | cmp => exact tm_pairM hE _ _ (K := σ.k) (hlow _ (by decide)) (H _) (Nat.le_refl _) h
    | sum => exact tm_chainM hE _ _ (K := σ.k) (hlow _ (by decide)) (Nat.le_refl _) h hn1
    | product => exact tm_chainM hE _ _ (K := σ.k) (hlow _ (by decide)) (Nat.le_refl _) h hn1
    | unary =>
      show Tm L σ.k (unaryM L (run L n) σ)
      unfold unaryM
      split
      · have h3 := sees_next hE h ‹_›
        refine Tm.bnd (H _ (adv σ) (Nat.le_refl _) h3) fun a σ1 h5 h6 => ?_
        have h5' : σ.k + 1 ≤ σ1.k := h5
        exact Tm.mk (by omega) h6
      · exact hlow _ (by decide) _ (Nat.le_refl _) h
    | operand =>
      show Tm L σ.k (operM L (run L n) n σ)
      unfold operM
      split
      · have h3 := sees_next hE h ‹_›
        exact (tm_scope hE H _ _ (σ := adv σ) (Nat.le_refl _) h3).mono (Nat.le_succ _)
      · split
        · have h3 := sees_next hE h ‹_›
          exact (tm_def hE H hn2 (σ := adv σ) (Nat.le_refl _) h3).mono (Nat.le_succ _)
        · refine Tm.bnd (hlow _ (by decide) σ (Nat.le_refl _) h) fun a σ1 h5 h6 => ?_
          split
          · have h3 := sees_next hE h6 ‹_›
            exact (tm_scope hE H _ _ (σ := adv σ1) (by show σ.k + 1 ≤ σ1.k + 1; omega) h3).mono (by show σ.k ≤ σ1.k + 1; omega)
          · exact Tm.mk h5 h6
    | post =>
      show Tm L σ.k (bnd (run L n .primary σ) fun f σ1 => postL L (run L n) n f σ1)
      refine Tm.bnd (hlow _ (by decide) σ (Nat.le_refl _) h) fun a σ1 h5 h6 => ?_
      exact (tm_postL hE H n a σ1 (by omega) h6 (by omega)).mono h5
    | primary =>
      show Tm L σ.k (primM L (run L n) n σ)
      have h1 := up_read hE h
      unfold primM
      split
      · exact Tm.mk h1.1 h1.2
      split
      · exact Tm.mk h1.1 h1.2
      split
      · exact Tm.mk h1.1 h1.2
      split
      · exact Tm.mk h1.1 h1.2
      split
      · have h3 : σ.k + 1 ≤ (readP L σ).k := by unfold readP; rw [if_neg (by omega)]; exact Nat.le_refl _
        exact (tm_call hE H hn2 _ h3 h1.2).mono h1.1
      · refine tm_written hE H hn2 _ (hE.none _) h1.1 (fun h0 => ?_) h1.2
        unfold readP; rw [if_neg h0]; exact Nat.le_refl _
    | condition =>
      show Tm L σ.k (condM L (run L n) σ)
      unfold condM
      have hf := hlow .filter (by decide)
      have hb : Tm L σ.k (beforeM L (run L n) ⟨#[116, 104, 101, 110]⟩ σ) := by
        unfold beforeM
        refine Tm.bnd (hf σ (Nat.le_refl _) h) fun a σ1 h4 h5 => ?_
        have := up_need hE ⟨#[116, 104, 101, 110]⟩ h5
        exact Tm.mk (by omega) this.2
      refine Tm.bnd hb fun q σ1 h3 h4 => ?_
      refine Tm.bnd (hf σ1 h3 h4) fun a σ2 h5 h6 => ?_
      have ho : Tm L σ2.k (otherM L (run L n) σ2) := by
        unfold otherM
        split
        · have h7 := sees_next hE h6 ‹_›
          exact (H _ (adv σ2) (by show σ.k + 1 ≤ σ2.k + 1; omega) h7).mono (Nat.le_succ _)
        · split
          · have h7 := sees_next hE h6 ‹_›
            exact (tm_before hE H _ (σ := adv σ2) (by show σ.k + 1 ≤ σ2.k + 1; omega) h7).mono (Nat.le_succ _)
          · have := up_need hE ⟨#[101, 110, 100]⟩ h6
            exact Tm.mk this.1 this.2
      refine Tm.bnd ho fun b σ3 h7 h8 => ?_
      exact Tm.mk (by omega) h8
end Go.Proofs.YthgnelkppibpeaaGreatDoor
