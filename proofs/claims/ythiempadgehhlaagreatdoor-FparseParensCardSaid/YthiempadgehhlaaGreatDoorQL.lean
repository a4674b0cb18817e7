/- Two runs of the parser of filters in step: on lists of tokens that are the same up to a point, where the second has its end or a closing parenthesis. Nothing of the program is named here. Two runs of the parser of filters in step: the second where it has met its end; the steps of both. Nothing of the program is named here. Two runs of the parser of filters in step: what both find. Nothing of the program is named here. Two runs of the parser of filters in step: every rule. Nothing of the program is named here. Of a filter's beginnings: what the parser finds. Nothing of the program is named here. A token reads the same where the same bytes stand and the text ends behind them (or a line feed stands there): plain. Nothing of the program is named here. The tokens of a filter's beginning. Nothing of the program is named here. -/
import Derived.Test.YthiempadgehhlaaGreatDoorQD
import Derived.Test.YthiempadgehhlaaGreatDoorYo
import Derived.Test.YthiempadgehhlaaGreatDoorQC
set_option linter.unusedVariables false
set_option linter.unusedSectionVars false
set_option linter.unusedSimpArgs false
namespace Go.Proofs.YthiempadgehhlaaGreatDoor
open Go.RowKit
/-- An error was found, or too many parameters. -/
def Bad (σ : PS) : Prop := σ.e ≠ 0 ∨ σ.long = true
/-- Of all that is found. -/
def All {α : Type} (P : PS → Prop) (x : Option (α × PS)) : Prop := ∀ a σ, x = some (a, σ) → P σ
theorem All.mk {α : Type} {P : PS → Prop} {a : α} {σ : PS} (h : P σ) : All P (some (a, σ)) := by
  intro b s e
  injection e with e
  injection e with e1 e2
  subst e2
  exact h
theorem All.none {α : Type} {P : PS → Prop} : All P (none : Option (α × PS)) := by
  intro b s e
  cases e
theorem All.ite {α : Type} {P : PS → Prop} {c : Prop} [Decidable c] {x y : Option (α × PS)} (h1 : c → All P x) (h2 : ¬ c → All P y) : All P (if c then x else y) := by
  by_cases h : c
  · rw [if_pos h]; exact h1 h
  · rw [if_neg h]; exact h2 h
theorem All.bnd {α β : Type} {P : PS → Prop} {x : Option (α × PS)} {f : α → PS → Option (β × PS)} (h : All P x) (hf : ∀ a σ, P σ → All P (f a σ)) : All P (bnd x f) := by
  intro b s e
  obtain ⟨a, σ, h1, h2⟩ := bnd_some e
  exact hf a σ (h a σ h1) b s h2
section
variable {L : List Fk}
theorem bad_adv {σ : PS} (h : Bad σ) : Bad (adv σ) := h
theorem bad_read {σ : PS} (h : Bad σ) : Bad (readP L σ) := by
  unfold readP
  split <;> exact h
theorem bad_fail {t : Fk} {σ : PS} (h : Bad σ) : Bad (failP L t σ) := by
  unfold failP
  split
  · rcases h with h | h
    · exact absurd ‹_› h
    · exact Or.inr h
  · exact h
theorem fail_bad (t : Fk) (σ : PS) : Bad (failP L t σ) := by
  unfold failP
  split
  · refine Or.inl ?_
    dsimp only
    split <;> decide
  · exact Or.inl ‹_›
theorem bad_need {x : ByteArray} {σ : PS} (h : Bad σ) : Bad (needP L x σ) := by
  unfold needP
  split
  · exact h
  · exact bad_fail h
theorem bad_kind {K : Nat} {σ : PS} (h : Bad σ) : Bad (kindS L K σ) := by
  unfold kindS
  split
  · exact bad_read h
  · exact bad_fail (bad_read h)
theorem bad_long {ps : List ByteArray} {o : Nat} {σ : PS} (h : Bad σ) : Bad (longP ps o σ) := by
  unfold longP
  split
  · exact Or.inr rfl
  · exact h
end
section
variable (L : List Fk)
theorem ba_listL {α : Type} {m : PS → Option (α × PS)} (hm : ∀ σ, Bad σ → All Bad (m σ)) : ∀ (n : Nat) (l : List α) (σ : PS), Bad σ → All Bad (listL L m n l σ)
  | 0, l, σ, h => All.none
  | n + 1, l, σ, h => by
    rw [listL]
    dsimp only
    split
    · exact All.bnd (hm _ (bad_adv h)) fun a σ1 h1 => ba_listL hm n _ σ1 h1
    · exact All.mk (bad_need h)
theorem ba_listM {α : Type} {m : PS → Option (α × PS)} (hm : ∀ σ, Bad σ → All Bad (m σ)) (n : Nat) (σ : PS) (h : Bad σ) : All Bad (listM L m n σ) := All.bnd (hm σ h) fun a σ1 h1 => ba_listL L hm n _ σ1 h1
theorem ba_chainL {m : PM} (op : Int) (sg : List ByteArray) (hm : ∀ σ, Bad σ → All Bad (m σ)) : ∀ (n : Nat) (f : Ft) (σ : PS), Bad σ → All Bad (chainL L m op sg n f σ)
  | 0, l, σ, h => All.none
  | n + 1, l, σ, h => by
    rw [chainL]
    dsimp only
    split
    · exact All.bnd (hm _ (bad_adv h)) fun a σ1 h1 => ba_chainL op sg hm n _ σ1 h1
    · exact All.mk h
theorem ba_chainM {m : PM} (op : Int) (sg : List ByteArray) (hm : ∀ σ, Bad σ → All Bad (m σ)) (n : Nat) (σ : PS) (h : Bad σ) : All Bad (chainM L m op sg n σ) := All.bnd (hm σ h) fun a σ1 h1 => ba_chainL L op sg hm n _ σ1 h1
theorem ba_pairM {l r : PM} (op : Int) (sg : List ByteArray) (hl : ∀ σ, Bad σ → All Bad (l σ)) (hr : ∀ σ, Bad σ → All Bad (r σ)) (σ : PS) (h : Bad σ) : All Bad (pairM L l r op sg σ) := by
  unfold pairM
  refine All.bnd (hl σ h) fun a σ1 h1 => ?_
  split
  · exact All.bnd (hr _ (bad_adv h1)) fun u σ2 h2 => All.mk h2
  · exact All.mk h1
theorem ba_param (σ : PS) (h : Bad σ) : All Bad (paramM L σ) := by
  unfold paramM
  split
  · exact All.mk (bad_read h)
  · split
    · exact All.mk (bad_read h)
    · exact All.mk (fail_bad _ _)
variable {call : Ru → PM} (n : Nat) (H : ∀ r σ, Bad σ → All Bad (call r σ))
include H
theorem ba_before (x : ByteArray) (σ : PS) (h : Bad σ) : All Bad (beforeM L call x σ) := by
  unfold beforeM
  repeat' (first | with_reducible assumption | (refine All.mk ?_; (repeat' (first | assumption | apply bad_need | apply bad_kind | apply bad_long | apply bad_fail | apply bad_read | apply bad_adv)); done) | (refine H _ _ ?_; (repeat' (first | assumption | apply bad_need | apply bad_kind | apply bad_long | apply bad_fail | apply bad_read | apply bad_adv)); done) | (refine All.bnd ?_ (fun a σ hb => ?_)) | split)
theorem ba_scope (op : Int) (subs : List Ft) (σ : PS) (h : Bad σ) : All Bad (scopeM L call op subs σ) := by
  unfold scopeM
  repeat' (first | with_reducible assumption | (refine All.mk ?_; (repeat' (first | assumption | apply bad_need | apply bad_kind | apply bad_long | apply bad_fail | apply bad_read | apply bad_adv)); done) | (refine H _ _ ?_; (repeat' (first | assumption | apply bad_need | apply bad_kind | apply bad_long | apply bad_fail | apply bad_read | apply bad_adv)); done) | (refine All.bnd ?_ (fun a σ hb => ?_)) | split)
theorem ba_params (σ : PS) (h : Bad σ) : All Bad (paramsM L n σ) := by
  unfold paramsM
  split
  · exact ba_listM L (ba_param L) n _ (bad_adv h)
  · exact All.mk h
theorem ba_def (σ : PS) (h : Bad σ) : All Bad (defM L call n σ) := by
  unfold defM
  refine All.bnd (ba_params L n H _ (bad_kind h)) fun ps σ1 h1 => ?_
  repeat' (first | with_reducible assumption | (refine All.mk ?_; (repeat' (first | assumption | apply bad_need | apply bad_kind | apply bad_long | apply bad_fail | apply bad_read | apply bad_adv)); done) | (refine H _ _ ?_; (repeat' (first | assumption | apply bad_need | apply bad_kind | apply bad_long | apply bad_fail | apply bad_read | apply bad_adv)); done) | (refine All.bnd ?_ (fun a σ hb => ?_)) | split)
theorem ba_bracket (f : Ft) (σ : PS) (h : Bad σ) : All Bad (bracketM L call f σ) := by
  have hb := ba_before L H
  unfold bracketM
  split
  · exact All.mk h
  · split
    · exact All.bnd (hb _ _ (bad_adv h)) fun u σ1 h1 => All.mk h1
    · refine All.bnd (H _ _ h) fun u σ1 h1 => ?_
      split
      · split
        · exact All.mk h1
        · exact All.bnd (hb _ _ (bad_adv h1)) fun u σ1 h1 => All.mk h1
      · exact All.mk (bad_need h1)
theorem ba_suffix (f : Ft) (σ : PS) (h : Bad σ) : All Bad (suffixM L call f σ) := by
  unfold suffixM
  split
  · exact All.mk (bad_kind (bad_adv h))
  · split
    · exact All.mk h
    · split
      · exact ba_bracket L H f _ (bad_adv h)
      · exact All.mk (bad_kind h)
theorem ba_post : ∀ (m : Nat) (f : Ft) (σ : PS), Bad σ → All Bad (postL L call m f σ)
  | 0, f, σ, h => All.none
  | m + 1, f, σ, h => by
    rw [postL]
    dsimp only
    split
    · exact All.bnd (ba_suffix L H f σ h) fun u σ1 h1 => ba_post m u σ1 h1
    · exact All.mk h
theorem ba_array (σ : PS) (h : Bad σ) : All Bad (arrayM L call σ) := by
  unfold arrayM
  split
  · exact All.mk h
  · exact All.bnd (ba_before L H _ _ h) fun u σ1 h1 => All.mk h1
theorem ba_entry (σ : PS) (h : Bad σ) : All Bad (entryM L call σ) := by
  unfold entryM
  split
  · refine All.bnd (ba_before L H _ _ (bad_adv h)) fun u σ1 h1 => ?_
    repeat' (first | with_reducible assumption | (refine All.mk ?_; (repeat' (first | assumption | apply bad_need | apply bad_kind | apply bad_long | apply bad_fail | apply bad_read | apply bad_adv)); done) | (refine H _ _ ?_; (repeat' (first | assumption | apply bad_need | apply bad_kind | apply bad_long | apply bad_fail | apply bad_read | apply bad_adv)); done) | (refine All.bnd ?_ (fun a σ hb => ?_)) | split)
  · split
    · exact All.mk (bad_read h)
    · split
      · split
        · repeat' (first | with_reducible assumption | (refine All.mk ?_; (repeat' (first | assumption | apply bad_need | apply bad_kind | apply bad_long | apply bad_fail | apply bad_read | apply bad_adv)); done) | (refine H _ _ ?_; (repeat' (first | assumption | apply bad_need | apply bad_kind | apply bad_long | apply bad_fail | apply bad_read | apply bad_adv)); done) | (refine All.bnd ?_ (fun a σ hb => ?_)) | split)
        · exact All.mk (bad_read h)
      · exact All.mk (fail_bad _ _)
theorem ba_objL : ∀ (m : Nat) (l : List Ft) (σ : PS), Bad σ → All Bad (objL L call m l σ)
  | 0, l, σ, h => All.none
  | m + 1, l, σ, h => by
    rw [objL]
    refine All.bnd (ba_entry L H σ h) fun p σ1 h1 => ?_
    split
    · exact ba_objL m _ _ (bad_adv h1)
    · exact All.mk (bad_need h1)
theorem ba_object (σ : PS) (h : Bad σ) : All Bad (objectM L call n σ) := by
  unfold objectM
  split
  · exact All.mk h
  · exact ba_objL L H n [] σ h
theorem ba_other (σ : PS) (h : Bad σ) : All Bad (otherM L call σ) := by
  unfold otherM
  split
  · exact H _ _ (bad_adv h)
  · split
    · exact ba_before L H _ _ (bad_adv h)
    · exact All.mk (bad_need h)
theorem ba_cond (σ : PS) (h : Bad σ) : All Bad (condM L call σ) := by
  unfold condM
  refine All.bnd (ba_before L H _ _ h) fun q σ1 h1 => All.bnd (H _ _ h1) fun a σ2 h2 => All.bnd (ba_other L H _ h2) fun b σ3 h3 => All.mk h3
theorem ba_try (σ : PS) (h : Bad σ) : All Bad (tryM L call σ) := by
  unfold tryM
  repeat' (first | with_reducible assumption | (refine All.mk ?_; (repeat' (first | assumption | apply bad_need | apply bad_kind | apply bad_long | apply bad_fail | apply bad_read | apply bad_adv)); done) | (refine H _ _ ?_; (repeat' (first | assumption | apply bad_need | apply bad_kind | apply bad_long | apply bad_fail | apply bad_read | apply bad_adv)); done) | (refine All.bnd ?_ (fun a σ hb => ?_)) | split)
theorem ba_source (σ : PS) (h : Bad σ) : All Bad (sourceM L call σ) := by
  unfold sourceM
  repeat' (first | with_reducible assumption | (refine All.mk ?_; (repeat' (first | assumption | apply bad_need | apply bad_kind | apply bad_long | apply bad_fail | apply bad_read | apply bad_adv)); done) | (refine H _ _ ?_; (repeat' (first | assumption | apply bad_need | apply bad_kind | apply bad_long | apply bad_fail | apply bad_read | apply bad_adv)); done) | (refine All.bnd ?_ (fun a σ hb => ?_)) | split)
theorem ba_reduce (σ : PS) (h : Bad σ) : All Bad (reduceM L call σ) := by
  unfold reduceM
  exact All.bnd (ba_source L H _ h) fun q σ1 h1 => All.bnd (ba_before L H _ _ h1) fun a σ2 h2 => All.bnd (ba_before L H _ _ h2) fun b σ3 h3 => All.mk h3
theorem ba_foreach (σ : PS) (h : Bad σ) : All Bad (foreachM L call σ) := by
  unfold foreachM
  refine All.bnd (ba_source L H _ h) fun q σ1 h1 => All.bnd (ba_before L H _ _ h1) fun a σ2 h2 => All.bnd (H _ _ h2) fun b σ3 h3 => ?_
  repeat' (first | with_reducible assumption | (refine All.mk ?_; (repeat' (first | assumption | apply bad_need | apply bad_kind | apply bad_long | apply bad_fail | apply bad_read | apply bad_adv)); done) | (refine H _ _ ?_; (repeat' (first | assumption | apply bad_need | apply bad_kind | apply bad_long | apply bad_fail | apply bad_read | apply bad_adv)); done) | (refine All.bnd ?_ (fun a σ hb => ?_)) | split)
theorem ba_call (s : ByteArray) (σ : PS) (h : Bad σ) : All Bad (callM L call n s σ) := by
  unfold callM
  split
  · exact All.bnd (ba_listM L (H .filter) n _ (bad_adv h)) fun l σ1 h1 => All.mk h1
  · split <;> exact All.mk h
theorem ba_written (t : Fk) (σ : PS) (h : Bad σ) : All Bad (writtenM L call n t σ) := by
  unfold writtenM
  have g1 : All Bad (pointM L σ) := by
    unfold pointM
    split
    · exact All.mk (bad_read h)
    · exact All.mk h
  have g2 := ba_before L H ⟨#[41]⟩ σ h
  have g3 := ba_array L H σ h
  have g4 := ba_object L n H σ h
  have g5 := H .condition σ h
  have g6 := ba_try L H σ h
  have g7 := ba_reduce L H σ h
  have g8 := ba_foreach L H σ h
  repeat' (first | with_reducible assumption | (exact All.mk h) | (exact All.mk (bad_fail h)) | (exact All.mk (bad_kind h)) | refine All.ite (fun _ => ?_) (fun _ => ?_))
theorem ba_prim (σ : PS) (h : Bad σ) : All Bad (primM L call n σ) := by
  unfold primM
  have hr : Bad (readP L σ) := bad_read h
  have g1 := ba_call L n H (tk L σ.k).s _ hr
  have g2 := ba_written L n H (tk L σ.k) _ hr
  repeat' (first | assumption | (refine All.mk ?_; (repeat' (first | assumption | apply bad_need | apply bad_kind | apply bad_long | apply bad_fail | apply bad_read | apply bad_adv)); done) | split)
theorem ba_oper (σ : PS) (h : Bad σ) : All Bad (operM L call n σ) := by
  unfold operM
  split
  · exact ba_scope L H _ _ _ (bad_adv h)
  · split
    · exact ba_def L n H _ (bad_adv h)
    · refine All.bnd (H _ _ h) fun f σ1 h1 => ?_
      split
      · exact ba_scope L H _ _ _ (bad_adv h1)
      · exact All.mk h1
theorem ba_body (r : Ru) (σ : PS) (h : Bad σ) : All Bad (bodyM L call n r σ) := by
  cases r
  · exact ba_pairM L _ _ (H _) (H _) σ h
  · exact ba_chainM L _ _ (H _) n σ h
  · exact ba_pairM L _ _ (H _) (H _) σ h
  · exact ba_pairM L _ _ (H _) (H _) σ h
  · exact ba_chainM L _ _ (H _) n σ h
  · exact ba_chainM L _ _ (H _) n σ h
  · exact ba_pairM L _ _ (H _) (H _) σ h
  · exact ba_chainM L _ _ (H _) n σ h
  · exact ba_chainM L _ _ (H _) n σ h
  · show All Bad (unaryM L call σ)
    unfold unaryM
    repeat' (first | with_reducible assumption | (refine All.mk ?_; (repeat' (first | assumption | apply bad_need | apply bad_kind | apply bad_long | apply bad_fail | apply bad_read | apply bad_adv)); done) | (refine H _ _ ?_; (repeat' (first | assumption | apply bad_need | apply bad_kind | apply bad_long | apply bad_fail | apply bad_read | apply bad_adv)); done) | (refine All.bnd ?_ (fun a σ hb => ?_)) | split)
  · exact ba_oper L n H σ h
  · exact All.bnd (H _ _ h) fun f σ1 h1 => ba_post L H n f σ1 h1
  · exact ba_prim L n H σ h
  · exact ba_cond L H σ h
end
/-- An error stays. -/
theorem ba_run (L : List Fk) : ∀ (n : Nat) (r : Ru) (σ : PS), Bad σ → All Bad (run L n r σ)
  | 0, r, σ, h => All.none
  | n + 1, r, σ, h => ba_body L n (ba_run L n) r σ h
end Go.Proofs.YthiempadgehhlaaGreatDoor
namespace Go.Proofs.YthiempadgehhlaaGreatDoor
open Go.RowKit
/-- Two lists that are the same up to a point; there the second has a closing parenthesis or bracket (the first its end), or its end. -/
structure Two (L L' : List Fk) (K d : Nat) (par : Bool) (cl : ByteArray) : Prop where
  same : ∀ j, j < K → (tk L' (j + d)).k = (tk L j).k ∧ (tk L' (j + d)).s = (tk L j).s ∧ (tk L' (j + d)).i = (tk L j).i ∧ (tk L j).k ≠ 0
  paren : par = true → (tk L K).k = 0 ∧ (tk L K).s = ⟨#[]⟩ ∧ (tk L' (K + d)).k = 7 ∧ (tk L' (K + d)).s = cl
  cls : cl = ⟨#[41]⟩ ∨ cl = ⟨#[93]⟩
  cut : par = false → (tk L' (K + d)).k = 0 ∧ (tk L' (K + d)).s = ⟨#[]⟩ ∧ L'.length - 1 = K + d
/-- The second has met its end. -/
def Dn (L' : List Fk) (K d : Nat) (par : Bool) (σ : PS) : Prop := par = false ∧ σ.k = K + d ∧ σ.long = false ∧ (σ.e = 0 ∨ σ.e = 5 ∧ σ.o = (tk L' (K + d)).o)
/-- Both in step, and no error. -/
def Sy (K d : Nat) (par : Bool) (σ σ' : PS) : Prop := σ.e = 0 ∧ σ.long = false ∧ σ'.e = 0 ∧ σ'.long = false ∧ σ'.k = σ.k + d ∧ (σ.k < K ∨ par = true ∧ σ.k = K)
def Re (L' : List Fk) (K d : Nat) (par : Bool) (σ σ' : PS) : Prop := Bad σ ∨ Dn L' K d par σ' ∨ Sy K d par σ σ'
theorem All.no {α : Type} {P : PS → Prop} {c : Prop} [Decidable c] {x y : Option (α × PS)} (hc : ¬ c) (h : All P y) : All P (if c then x else y) := by
  rw [if_neg hc]; exact h
section
variable {L L' : List Fk} {K d : Nat} {par : Bool} {cl : ByteArray} (T : Two L L' K d par cl)
include T
theorem dn_k {σ : PS} (h : Dn L' K d par σ) : (tk L' σ.k).k = 0 := by rw [h.2.1]; exact (T.cut h.1).1
theorem dn_s {σ : PS} (h : Dn L' K d par σ) : (tk L' σ.k).s = ⟨#[]⟩ := by rw [h.2.1]; exact (T.cut h.1).2.1
theorem dn_o {σ : PS} (h : Dn L' K d par σ) : (tk L' σ.k).o = (tk L' (K + d)).o := by rw [h.2.1]
theorem dn_sees {σ : PS} (h : Dn L' K d par σ) (x : ByteArray) : ¬ sees L' x σ = true := by
  unfold sees isW
  rw [dn_k T h]
  simp
theorem dn_any {σ : PS} (h : Dn L' K d par σ) (xs : List ByteArray) : ¬ anyP L' xs σ = true := by
  unfold anyP isW
  rw [dn_k T h]
  simp
theorem dn_suf {σ : PS} (h : Dn L' K d par σ) : ¬ sufB L' σ = true := by
  have h1 := dn_sees T h ⟨#[46]⟩
  have h2 := dn_sees T h ⟨#[91]⟩
  have h3 := dn_sees T h ⟨#[63]⟩
  unfold sufB
  rw [dn_k T h]
  simp only [Bool.not_eq_true] at h1 h2 h3
  rw [h1, h2, h3]
  simp
theorem dn_read_eq {σ : PS} (h : Dn L' K d par σ) : readP L' σ = σ := by
  unfold readP
  rw [if_pos (dn_k T h)]
theorem dn_fail {t : Fk} {σ : PS} (h : Dn L' K d par σ) (ht : t.k = 0) (ho : t.o = (tk L' (K + d)).o) : Dn L' K d par (failP L' t σ) := by
  unfold failP
  rw [if_pos ht]
  by_cases he : σ.e = 0
  · rw [if_pos he]
    exact ⟨h.1, (T.cut h.1).2.2, h.2.2.1, Or.inr ⟨rfl, ho⟩⟩
  · rw [if_neg he]
    exact h
theorem dn_failk {σ : PS} (h : Dn L' K d par σ) : Dn L' K d par (failP L' (tk L' σ.k) σ) := dn_fail T h (dn_k T h) (dn_o T h)
theorem dn_need (x : ByteArray) {σ : PS} (h : Dn L' K d par σ) : Dn L' K d par (needP L' x σ) := by
  unfold needP
  rw [if_neg (dn_sees T h x)]
  exact dn_failk T h
theorem dn_kind (K0 : Nat) {σ : PS} (h : Dn L' K d par σ) : Dn L' K d par (kindS L' K0 σ) := by
  unfold kindS
  rw [dn_read_eq T h]
  split
  · exact h
  · exact dn_failk T h
theorem dn_listL {α : Type} {m : PS → Option (α × PS)} : ∀ (n : Nat) (l : List α) (σ : PS), Dn L' K d par σ → All (Dn L' K d par) (listL L' m n l σ)
  | 0, l, σ, h => All.none
  | n + 1, l, σ, h => by
    rw [listL]
    exact All.no (dn_sees T h _) (All.mk (dn_need T _ h))
theorem dn_listM {α : Type} {m : PS → Option (α × PS)} (hm : ∀ σ, Dn L' K d par σ → All (Dn L' K d par) (m σ)) (n : Nat) (σ : PS) (h : Dn L' K d par σ) : All (Dn L' K d par) (listM L' m n σ) := All.bnd (hm σ h) fun a σ1 h1 => dn_listL T n _ σ1 h1
theorem dn_chainL {m : PM} (op : Int) (sg : List ByteArray) : ∀ (n : Nat) (f : Ft) (σ : PS), Dn L' K d par σ → All (Dn L' K d par) (chainL L' m op sg n f σ)
  | 0, l, σ, h => All.none
  | n + 1, l, σ, h => by
    rw [chainL]
    exact All.no (dn_any T h _) (All.mk h)
theorem dn_chainM {m : PM} (op : Int) (sg : List ByteArray) (hm : ∀ σ, Dn L' K d par σ → All (Dn L' K d par) (m σ)) (n : Nat) (σ : PS) (h : Dn L' K d par σ) : All (Dn L' K d par) (chainM L' m op sg n σ) := All.bnd (hm σ h) fun a σ1 h1 => dn_chainL T op sg n _ σ1 h1
theorem dn_pairM {l r : PM} (op : Int) (sg : List ByteArray) (hl : ∀ σ, Dn L' K d par σ → All (Dn L' K d par) (l σ)) (σ : PS) (h : Dn L' K d par σ) : All (Dn L' K d par) (pairM L' l r op sg σ) :=
  All.bnd (hl σ h) fun a σ1 h1 => All.no (dn_any T h1 _) (All.mk h1)
theorem dn_param (σ : PS) (h : Dn L' K d par σ) : All (Dn L' K d par) (paramM L' σ) := by
  have h0 := dn_k T h
  unfold paramM
  rw [dn_read_eq T h]
  exact All.no (by omega) (All.no (by omega) (All.mk (dn_failk T h)))
theorem dn_params (n : Nat) {σ : PS} (h : Dn L' K d par σ) : paramsM L' n σ = some ([], σ) := by
  unfold paramsM
  rw [if_neg (dn_sees T h _)]
theorem dn_long {ps : List ByteArray} {o : Nat} {σ : PS} (h : Dn L' K d par σ) (hp : ps.length ≤ 8) : Dn L' K d par (longP ps o σ) := by
  unfold longP
  rw [if_neg (by omega)]
  exact h
variable {call : Ru → PM} (n : Nat) (H : ∀ r σ, Dn L' K d par σ → All (Dn L' K d par) (call r σ))
include H
theorem dn_before (x : ByteArray) (σ : PS) (h : Dn L' K d par σ) : All (Dn L' K d par) (beforeM L' call x σ) := All.bnd (H _ _ h) fun a σ1 h1 => All.mk (dn_need T _ h1)
theorem dn_scope (op : Int) (subs : List Ft) (σ : PS) (h : Dn L' K d par σ) : All (Dn L' K d par) (scopeM L' call op subs σ) := All.bnd (H _ _ (dn_need T _ (dn_kind T _ h))) fun a σ1 h1 => All.mk h1
/-- A definition behind its parameters. -/
theorem dn_def2 (s : ByteArray) (ps : List ByteArray) (o : Nat) (σ : PS) (h : Dn L' K d par σ) (hp : ps.length ≤ 8) : All (Dn L' K d par) (bnd (call .filter (needP L' (⟨#[58]⟩ : ByteArray) (longP ps o σ))) fun f σ2 =>
    bnd (call .filter (needP L' (⟨#[59]⟩ : ByteArray) σ2)) fun u σ3 => some (Ft.mk 26 s vz ps [f, u], σ3)) :=
  All.bnd (H _ _ (dn_need T _ (dn_long T h hp))) fun f σ2 h2 => All.bnd (H _ _ (dn_need T _ h2)) fun u σ3 h3 => All.mk h3
theorem dn_def (σ : PS) (h : Dn L' K d par σ) : All (Dn L' K d par) (defM L' call n σ) := by
  unfold defM
  rw [dn_params T n (dn_kind T 1 h)]
  exact dn_def2 T H _ [] _ _ (dn_kind T 1 h) (by simp)
theorem dn_bracket (f : Ft) (σ : PS) (h : Dn L' K d par σ) : All (Dn L' K d par) (bracketM L' call f σ) :=
  All.no (dn_sees T h _) (All.no (dn_sees T h _) (All.bnd (H _ _ h) fun u σ1 h1 => All.no (dn_sees T h1 _) (All.mk (dn_need T _ h1))))
theorem dn_suffix (f : Ft) (σ : PS) (h : Dn L' K d par σ) : All (Dn L' K d par) (suffixM L' call f σ) :=
  All.no (dn_sees T h _) (All.no (dn_sees T h _) (All.no (dn_sees T h _) (All.mk (dn_kind T _ h))))
theorem dn_post : ∀ (m : Nat) (f : Ft) (σ : PS), Dn L' K d par σ → All (Dn L' K d par) (postL L' call m f σ)
  | 0, f, σ, h => All.none
  | m + 1, f, σ, h => by
    rw [postL]
    exact All.no (dn_suf T h) (All.mk h)
theorem dn_array (σ : PS) (h : Dn L' K d par σ) : All (Dn L' K d par) (arrayM L' call σ) := All.no (dn_sees T h _) (All.bnd (dn_before T H _ _ h) fun u σ1 h1 => All.mk h1)
theorem dn_entry (σ : PS) (h : Dn L' K d par σ) : All (Dn L' K d par) (entryM L' call σ) := by
  have h0 := dn_k T h
  unfold entryM
  rw [dn_read_eq T h]
  exact All.no (dn_sees T h _) (All.no (by omega) (All.no (by omega) (All.mk (dn_failk T h))))
theorem dn_objL : ∀ (m : Nat) (l : List Ft) (σ : PS), Dn L' K d par σ → All (Dn L' K d par) (objL L' call m l σ)
  | 0, l, σ, h => All.none
  | m + 1, l, σ, h => by
    rw [objL]
    exact All.bnd (dn_entry T H σ h) fun p σ1 h1 => All.no (dn_sees T h1 _) (All.mk (dn_need T _ h1))
theorem dn_object (σ : PS) (h : Dn L' K d par σ) : All (Dn L' K d par) (objectM L' call n σ) := All.no (dn_sees T h _) (dn_objL T H n [] σ h)
theorem dn_other (σ : PS) (h : Dn L' K d par σ) : All (Dn L' K d par) (otherM L' call σ) := All.no (dn_sees T h _) (All.no (dn_sees T h _) (All.mk (dn_need T _ h)))
theorem dn_cond (σ : PS) (h : Dn L' K d par σ) : All (Dn L' K d par) (condM L' call σ) := All.bnd (dn_before T H _ _ h) fun q σ1 h1 => All.bnd (H _ _ h1) fun a σ2 h2 => All.bnd (dn_other T H _ h2) fun b σ3 h3 => All.mk h3
theorem dn_try (σ : PS) (h : Dn L' K d par σ) : All (Dn L' K d par) (tryM L' call σ) := All.bnd (H _ _ h) fun f σ1 h1 => All.no (dn_sees T h1 _) (All.mk h1)
theorem dn_source (σ : PS) (h : Dn L' K d par σ) : All (Dn L' K d par) (sourceM L' call σ) := All.bnd (H _ _ h) fun f σ1 h1 => All.mk (dn_need T _ (dn_kind T _ (dn_need T _ h1)))
theorem dn_reduce (σ : PS) (h : Dn L' K d par σ) : All (Dn L' K d par) (reduceM L' call σ) := All.bnd (dn_source T H _ h) fun q σ1 h1 => All.bnd (dn_before T H _ _ h1) fun a σ2 h2 => All.bnd (dn_before T H _ _ h2) fun b σ3 h3 => All.mk h3
theorem dn_foreach (σ : PS) (h : Dn L' K d par σ) : All (Dn L' K d par) (foreachM L' call σ) := All.bnd (dn_source T H _ h) fun q σ1 h1 => All.bnd (dn_before T H _ _ h1) fun a σ2 h2 => All.bnd (H _ _ h2) fun b σ3 h3 => All.no (dn_sees T h3 _) (All.mk (dn_need T _ h3))
theorem dn_call (s : ByteArray) (σ : PS) (h : Dn L' K d par σ) : All (Dn L' K d par) (callM L' call n s σ) := All.no (dn_sees T h _) (All.ite (fun _ => All.mk h) (fun _ => All.mk h))
theorem dn_written (t : Fk) (σ : PS) (h : Dn L' K d par σ) (ht : t.k = 0) (ho : t.o = (tk L' (K + d)).o) (hs : t.s = ⟨#[]⟩) : All (Dn L' K d par) (writtenM L' call n t σ) := by
  unfold writtenM
  rw [hs]
  repeat' (refine All.no (by decide) ?_)
  exact All.mk (dn_fail T h ht ho)
theorem dn_prim (σ : PS) (h : Dn L' K d par σ) : All (Dn L' K d par) (primM L' call n σ) := by
  have h0 := dn_k T h
  unfold primM
  rw [dn_read_eq T h]
  exact All.no (by omega) (All.no (by omega) (All.no (by omega) (All.no (by omega) (All.no (by omega) (dn_written T n H _ _ h h0 (dn_o T h) (dn_s T h))))))
theorem dn_oper (σ : PS) (h : Dn L' K d par σ) : All (Dn L' K d par) (operM L' call n σ) := All.no (dn_sees T h _) (All.no (dn_sees T h _) (All.bnd (H _ _ h) fun f σ1 h1 => All.no (dn_sees T h1 _) (All.mk h1)))
theorem dn_body (r : Ru) (σ : PS) (h : Dn L' K d par σ) : All (Dn L' K d par) (bodyM L' call n r σ) := by
  cases r
  · exact dn_pairM T _ _ (H _) σ h
  · exact dn_chainM T _ _ (H _) n σ h
  · exact dn_pairM T _ _ (H _) σ h
  · exact dn_pairM T _ _ (H _) σ h
  · exact dn_chainM T _ _ (H _) n σ h
  · exact dn_chainM T _ _ (H _) n σ h
  · exact dn_pairM T _ _ (H _) σ h
  · exact dn_chainM T _ _ (H _) n σ h
  · exact dn_chainM T _ _ (H _) n σ h
  · exact All.no (dn_sees T h _) (H _ _ h)
  · exact dn_oper T n H σ h
  · exact All.bnd (H _ _ h) fun f σ1 h1 => dn_post T H n f σ1 h1
  · exact dn_prim T n H σ h
  · exact dn_cond T H σ h
end
/-- At its end the second stays there. -/
theorem dn_run {L L' : List Fk} {K d : Nat} {par : Bool} {cl : ByteArray} (T : Two L L' K d par cl) : ∀ (n : Nat) (r : Ru) (σ : PS), Dn L' K d par σ → All (Dn L' K d par) (run L' n r σ)
  | 0, r, σ, h => All.none
  | n + 1, r, σ, h => dn_body T n (dn_run T n) r σ h
end Go.Proofs.YthiempadgehhlaaGreatDoor
namespace Go.Proofs.YthiempadgehhlaaGreatDoor
open Go.RowKit
/-- Both find something: an error in the first, the end of the second, or the same. -/
def Sm {α : Type} (L' : List Fk) (K d : Nat) (par : Bool) (x x' : Option (α × PS)) : Prop := ∀ a σ a' σ', x = some (a, σ) → x' = some (a', σ') → Bad σ ∨ Dn L' K d par σ' ∨ (Sy K d par σ σ' ∧ a = a')
section
variable {α β : Type} {L' : List Fk} {K d : Nat} {par : Bool}
theorem Sm.nil1 {x' : Option (α × PS)} : Sm L' K d par none x' := by
  intro a σ a' σ' e; cases e
theorem Sm.nil2 {x : Option (α × PS)} : Sm L' K d par x none := by
  intro a σ a' σ' e e2; cases e2
theorem Sm.bad {x x' : Option (α × PS)} (h : All Bad x) : Sm L' K d par x x' := fun a σ a' σ' e _ => Or.inl (h a σ e)
theorem Sm.dn {x x' : Option (α × PS)} (h : All (Dn L' K d par) x') : Sm L' K d par x x' := fun a σ a' σ' _ e => Or.inr (Or.inl (h a' σ' e))
theorem Sm.mk {a a' : α} {σ σ' : PS} (h : Re L' K d par σ σ') (he : a = a') : Sm L' K d par (some (a, σ)) (some (a', σ')) := by
  intro b τ b' τ' e e2
  injection e with e
  injection e with e3 e4
  injection e2 with e2
  injection e2 with e5 e6
  subst e3; subst e4; subst e5; subst e6
  rcases h with h | h | h
  · exact Or.inl h
  · exact Or.inr (Or.inl h)
  · exact Or.inr (Or.inr ⟨h, he⟩)
theorem Sm.ok {a : α} {σ σ' : PS} (h : Re L' K d par σ σ') : Sm L' K d par (some (a, σ)) (some (a, σ')) := Sm.mk h rfl
theorem Sm.bnd {x x' : Option (α × PS)} {f f' : α → PS → Option (β × PS)} (h : Sm L' K d par x x') (hb : ∀ a σ, Bad σ → All Bad (f a σ)) (hd : ∀ a σ, Dn L' K d par σ → All (Dn L' K d par) (f' a σ)) (hs : ∀ a σ σ', Sy K d par σ σ' → Sm L' K d par (f a σ) (f' a σ')) : Sm L' K d par (bnd x f) (bnd x' f') := by
  intro b τ b' τ' e e2
  obtain ⟨a, σ, h1, h2⟩ := bnd_some e
  obtain ⟨a', σ', h3, h4⟩ := bnd_some e2
  rcases h a σ a' σ' h1 h3 with h5 | h5 | ⟨h5, rfl⟩
  · exact Or.inl (hb a σ h5 b τ h2)
  · exact Or.inr (Or.inl (hd a' σ' h5 b' τ' h4))
  · exact hs a σ σ' h5 b τ b' τ' h2 h4
theorem Sm.re {m m' : PS → Option (α × PS)} {σ σ' : PS} (h : Re L' K d par σ σ') (hb : ∀ σ, Bad σ → All Bad (m σ)) (hd : ∀ σ, Dn L' K d par σ → All (Dn L' K d par) (m' σ)) (hs : ∀ σ σ', Sy K d par σ σ' → Sm L' K d par (m σ) (m' σ')) : Sm L' K d par (m σ) (m' σ') := by
  rcases h with h | h | h
  · exact Sm.bad (hb σ h)
  · exact Sm.dn (hd σ' h)
  · exact hs σ σ' h
theorem Sm.ite {c c' : Prop} [Decidable c] [Decidable c'] {x y x' y' : Option (α × PS)} (hc : c ↔ c') (h1 : c → Sm L' K d par x x') (h2 : ¬ c → Sm L' K d par y y') : Sm L' K d par (if c then x else y) (if c' then x' else y') := by
  by_cases h : c
  · rw [if_pos h, if_pos (hc.1 h)]; exact h1 h
  · rw [if_neg h, if_neg (fun h' => h (hc.2 h'))]; exact h2 h
end
section
variable {L L' : List Fk} {K d : Nat} {par : Bool} {cl : ByteArray} (T : Two L L' K d par cl)
include T
theorem sy_tok {σ σ' : PS} (h : Sy K d par σ σ') (hk : σ.k < K) : (tk L' σ'.k).k = (tk L σ.k).k ∧ (tk L' σ'.k).s = (tk L σ.k).s ∧ (tk L' σ'.k).i = (tk L σ.k).i ∧ (tk L σ.k).k ≠ 0 := by
  rw [h.2.2.2.2.1]
  exact T.same σ.k hk
theorem sy_end {σ σ' : PS} (h : Sy K d par σ σ') (hk : ¬ σ.k < K) : (tk L σ.k).k = 0 ∧ (tk L σ.k).s = ⟨#[]⟩ ∧ (tk L' σ'.k).k = 7 ∧ (tk L' σ'.k).s = cl := by
  rw [h.2.2.2.2.1]
  rcases h.2.2.2.2.2 with h1 | ⟨h1, h2⟩
  · exact absurd h1 hk
  · rw [h2]
    exact T.paren h1
theorem sees_lt {x : ByteArray} {σ σ' : PS} (h : Sy K d par σ σ') (hs : sees L x σ = true) : σ.k < K := by
  by_cases hk : σ.k < K
  · exact hk
  · unfold sees isW at hs
    rw [(sy_end T h hk).1] at hs
    simp at hs
theorem any_lt {xs : List ByteArray} {σ σ' : PS} (h : Sy K d par σ σ') (hs : anyP L xs σ = true) : σ.k < K := by
  by_cases hk : σ.k < K
  · exact hk
  · unfold anyP isW at hs
    rw [(sy_end T h hk).1] at hs
    simp at hs
theorem sees_eq {x : ByteArray} {σ σ' : PS} (h : Sy K d par σ σ') (hk : σ.k < K) : sees L x σ = sees L' x σ' := by
  obtain ⟨h1, h2, -⟩ := sy_tok T h hk
  unfold sees isW
  rw [h1, h2]
theorem sy_sees {x : ByteArray} {σ σ' : PS} (h : Sy K d par σ σ') (hx : ¬ (⟨#[41]⟩ : ByteArray) = x ∧ ¬ (⟨#[93]⟩ : ByteArray) = x) : sees L x σ = true ↔ sees L' x σ' = true := by
  by_cases hk : σ.k < K
  · rw [sees_eq T h hk]
  · obtain ⟨h1, -, h3, h4⟩ := sy_end T h hk
    have hx2 : ¬ cl = x := by
      rcases T.cls with h5 | h5
      · rw [h5]; exact hx.1
      · rw [h5]; exact hx.2
    unfold sees isW
    rw [h1, h3, h4]
    simp [hx2]
theorem sy_any {xs : List ByteArray} {σ σ' : PS} (h : Sy K d par σ σ') (hx : memB ⟨#[41]⟩ xs = false ∧ memB ⟨#[93]⟩ xs = false) : anyP L xs σ = true ↔ anyP L' xs σ' = true := by
  by_cases hk : σ.k < K
  · obtain ⟨h1, h2, -⟩ := sy_tok T h hk
    unfold anyP isW
    rw [h1, h2]
  · obtain ⟨h1, -, h3, h4⟩ := sy_end T h hk
    have hx2 : memB cl xs = false := by
      rcases T.cls with h5 | h5
      · rw [h5]; exact hx.1
      · rw [h5]; exact hx.2
    unfold anyP isW
    rw [h1, h3, h4, hx2]
    simp
theorem adv_re {σ σ' : PS} (h : Sy K d par σ σ') (hk : σ.k < K) : Re L' K d par (adv σ) (adv σ') := by
  obtain ⟨h1, h2, h3, h4, h5, h6⟩ := h
  by_cases hk2 : σ.k + 1 < K
  · exact Or.inr (Or.inr ⟨h1, h2, h3, h4, by show σ'.k + 1 = σ.k + 1 + d; omega, Or.inl hk2⟩)
  · cases par with
    | true => exact Or.inr (Or.inr ⟨h1, h2, h3, h4, by show σ'.k + 1 = σ.k + 1 + d; omega, Or.inr ⟨rfl, by show σ.k + 1 = K; omega⟩⟩)
    | false => exact Or.inr (Or.inl ⟨rfl, by show σ'.k + 1 = K + d; omega, h4, Or.inl h3⟩)
theorem sy_lt_iff {σ σ' : PS} (h : Sy K d par σ σ') : σ.k < K ↔ (tk L σ.k).k ≠ 0 := by
  constructor
  · intro hk
    exact (sy_tok T h hk).2.2.2
  · intro h0
    by_cases hk : σ.k < K
    · exact hk
    · exact absurd (sy_end T h hk).1 h0
theorem read_re {σ σ' : PS} (h : Sy K d par σ σ') (hk : σ.k < K) : Re L' K d par (readP L σ) (readP L' σ') := by
  obtain ⟨h1, -, -, h0⟩ := sy_tok T h hk
  unfold readP
  rw [if_neg h0, if_neg (by rw [h1]; exact h0)]
  exact adv_re T h hk
theorem need_sy (x : ByteArray) {σ σ' : PS} (h : Sy K d par σ σ') : Re L' K d par (needP L x σ) (needP L' x σ') := by
  unfold needP
  by_cases hs : sees L x σ = true
  · have hk := sees_lt T h hs
    rw [if_pos hs, if_pos (by rw [← sees_eq T h hk]; exact hs)]
    exact adv_re T h hk
  · rw [if_neg hs]
    exact Or.inl (fail_bad _ _)
theorem need_re (x : ByteArray) {σ σ' : PS} (h : Re L' K d par σ σ') : Re L' K d par (needP L x σ) (needP L' x σ') := by
  rcases h with h | h | h
  · exact Or.inl (bad_need h)
  · exact Or.inr (Or.inl (dn_need T x h))
  · exact need_sy T x h
theorem sy_kind {K0 : Nat} (h0 : K0 ≠ 0) {σ σ' : PS} (h : Sy K d par σ σ') : Bad (kindS L K0 σ) ∨ (σ.k < K ∧ Re L' K d par (kindS L K0 σ) (kindS L' K0 σ')) := by
  by_cases hc : (tk L σ.k).k = K0
  · have hk : σ.k < K := (sy_lt_iff T h).2 (by omega)
    refine Or.inr ⟨hk, ?_⟩
    unfold kindS
    rw [if_pos hc, if_pos (by rw [(sy_tok T h hk).1]; exact hc)]
    exact read_re T h hk
  · refine Or.inl ?_
    unfold kindS
    rw [if_neg hc]
    exact fail_bad _ _
theorem kind_re {K0 : Nat} (h0 : K0 ≠ 0) {σ σ' : PS} (h : Re L' K d par σ σ') : Re L' K d par (kindS L K0 σ) (kindS L' K0 σ') := by
  rcases h with h | h | h
  · exact Or.inl (bad_kind h)
  · exact Or.inr (Or.inl (dn_kind T K0 h))
  · rcases sy_kind T h0 h with h1 | h1
    · exact Or.inl h1
    · exact h1.2
theorem sm_listL {α : Type} {m m' : PS → Option (α × PS)} (hb : ∀ σ, Bad σ → All Bad (m σ)) (hd : ∀ σ, Dn L' K d par σ → All (Dn L' K d par) (m' σ)) (hs : ∀ σ σ', Sy K d par σ σ' → Sm L' K d par (m σ) (m' σ')) :
    ∀ (n n' : Nat) (l : List α) (σ σ' : PS), Sy K d par σ σ' → Sm L' K d par (listL L m n l σ) (listL L' m' n' l σ')
  | 0, _, l, σ, σ', h => Sm.nil1
  | n + 1, 0, l, σ, σ', h => Sm.nil2
  | n + 1, n' + 1, l, σ, σ', h => by
    rw [listL, listL]
    refine Sm.ite (sy_sees T h (by decide)) (fun hc => ?_) (fun hc => Sm.ok (need_sy T _ h))
    exact Sm.bnd (Sm.re (adv_re T h (sees_lt T h hc)) hb hd hs) (fun a σ h => ba_listL L hb n _ σ h) (fun a σ' h => dn_listL T n' _ σ' h) (fun a σ σ' h => sm_listL hb hd hs n n' _ σ σ' h)
theorem sm_listM {α : Type} {m m' : PS → Option (α × PS)} (hb : ∀ σ, Bad σ → All Bad (m σ)) (hd : ∀ σ, Dn L' K d par σ → All (Dn L' K d par) (m' σ)) (hs : ∀ σ σ', Sy K d par σ σ' → Sm L' K d par (m σ) (m' σ'))
    (n n' : Nat) {σ σ' : PS} (h : Re L' K d par σ σ') : Sm L' K d par (listM L m n σ) (listM L' m' n' σ') :=
  Sm.bnd (Sm.re h hb hd hs) (fun a σ h => ba_listL L hb n _ σ h) (fun a σ' h => dn_listL T n' _ σ' h) (fun a σ σ' h => sm_listL T hb hd hs n n' _ σ σ' h)
theorem sm_chainL {m m' : PM} (op : Int) (sg : List ByteArray) (hx : memB ⟨#[41]⟩ sg = false ∧ memB ⟨#[93]⟩ sg = false) (hb : ∀ σ, Bad σ → All Bad (m σ)) (hd : ∀ σ, Dn L' K d par σ → All (Dn L' K d par) (m' σ)) (hs : ∀ σ σ', Sy K d par σ σ' → Sm L' K d par (m σ) (m' σ')) :
    ∀ (n n' : Nat) (f : Ft) (σ σ' : PS), Sy K d par σ σ' → Sm L' K d par (chainL L m op sg n f σ) (chainL L' m' op sg n' f σ')
  | 0, _, l, σ, σ', h => Sm.nil1
  | n + 1, 0, l, σ, σ', h => Sm.nil2
  | n + 1, n' + 1, l, σ, σ', h => by
    rw [chainL, chainL]
    refine Sm.ite (sy_any T h hx) (fun hc => ?_) (fun hc => Sm.ok (Or.inr (Or.inr h)))
    have hk := any_lt T h hc
    rw [(sy_tok T h hk).2.1]
    exact Sm.bnd (Sm.re (adv_re T h hk) hb hd hs) (fun a σ h => ba_chainL L op sg hb n _ σ h) (fun a σ' h => dn_chainL T op sg n' _ σ' h) (fun a σ σ' h => sm_chainL op sg hx hb hd hs n n' _ σ σ' h)
theorem sm_chainM {m m' : PM} (op : Int) (sg : List ByteArray) (hx : memB ⟨#[41]⟩ sg = false ∧ memB ⟨#[93]⟩ sg = false) (hb : ∀ σ, Bad σ → All Bad (m σ)) (hd : ∀ σ, Dn L' K d par σ → All (Dn L' K d par) (m' σ)) (hs : ∀ σ σ', Sy K d par σ σ' → Sm L' K d par (m σ) (m' σ'))
    (n n' : Nat) (σ σ' : PS) (h : Sy K d par σ σ') : Sm L' K d par (chainM L m op sg n σ) (chainM L' m' op sg n' σ') :=
  Sm.bnd (hs σ σ' h) (fun a σ h => ba_chainL L op sg hb n _ σ h) (fun a σ' h => dn_chainL T op sg n' _ σ' h) (fun a σ σ' h => sm_chainL T op sg hx hb hd hs n n' _ σ σ' h)
theorem sm_pairM {l l' r r' : PM} (op : Int) (sg : List ByteArray) (hx : memB ⟨#[41]⟩ sg = false ∧ memB ⟨#[93]⟩ sg = false) (hl : ∀ σ σ', Sy K d par σ σ' → Sm L' K d par (l σ) (l' σ')) (hb : ∀ σ, Bad σ → All Bad (r σ)) (hd : ∀ σ, Dn L' K d par σ → All (Dn L' K d par) (r' σ)) (hs : ∀ σ σ', Sy K d par σ σ' → Sm L' K d par (r σ) (r' σ'))
    (σ σ' : PS) (h : Sy K d par σ σ') : Sm L' K d par (pairM L l r op sg σ) (pairM L' l' r' op sg σ') := by
  refine Sm.bnd (hl σ σ' h) (fun a σ h => All.ite (fun _ => All.bnd (hb _ h) fun u σ2 h2 => All.mk h2) (fun _ => All.mk h)) (fun a σ' h => All.no (dn_any T h _) (All.mk h)) (fun a σ σ' h => ?_)
  refine Sm.ite (sy_any T h hx) (fun hc => ?_) (fun hc => Sm.ok (Or.inr (Or.inr h)))
  have hk := any_lt T h hc
  rw [(sy_tok T h hk).2.1]
  exact Sm.bnd (Sm.re (adv_re T h hk) hb hd hs) (fun a σ h => All.mk h) (fun a σ' h => All.mk h) (fun a σ σ' h => Sm.ok (Or.inr (Or.inr h)))
end
end Go.Proofs.YthiempadgehhlaaGreatDoor
namespace Go.Proofs.YthiempadgehhlaaGreatDoor
open Go.RowKit
theorem listL_e {α : Type} {L : List Fk} {m : PS → Option (α × PS)} (n : Nat) (l : List α) (σ : PS) : listL L m (n + 1) l σ = if sees L (⟨#[59]⟩ : ByteArray) σ = true then bnd (m (adv σ)) fun a σ1 => listL L m n (l ++ [a]) σ1 else some (l, needP L (⟨#[41]⟩ : ByteArray) σ) := rfl
section
variable {L : List Fk} (hN : ∀ k, (tk L k).k = 0 → (tk L k).s = ⟨#[]⟩)
theorem end_sees {σ : PS} (h : (tk L σ.k).k = 0) (x : ByteArray) : ¬ sees L x σ = true := by
  unfold sees isW
  rw [h]
  simp
include hN
/-- At its end no rule finds a filter. -/
theorem ze_run : ∀ (n : Nat) (r : Ru) (σ : PS), (tk L σ.k).k = 0 → All Bad (run L n r σ)
  | 0, r, σ, h => All.none
  | n + 1, r, σ, h => by
    have ih := ze_run n
    have hb := ba_run L n
    have pr : ∀ (x y : Ru) (op : Int) (sg : List ByteArray), All Bad (pairM L (run L n x) (run L n y) op sg σ) := fun x y op sg => All.bnd (ih x σ h) fun a σ1 h1 => All.ite (fun _ => All.bnd (hb _ _ (bad_adv h1)) fun u σ2 h2 => All.mk h2) (fun _ => All.mk h1)
    have ch : ∀ (x : Ru) (op : Int) (sg : List ByteArray), All Bad (chainM L (run L n x) op sg n σ) := fun x op sg => All.bnd (ih x σ h) fun a σ1 h1 => ba_chainL L op sg (hb x) n a σ1 h1
    cases r
    · exact pr _ _ _ _
    · exact ch _ _ _
    · exact pr _ _ _ _
    · exact pr _ _ _ _
    · exact ch _ _ _
    · exact ch _ _ _
    · exact pr _ _ _ _
    · exact ch _ _ _
    · exact ch _ _ _
    · exact All.no (end_sees h _) (ih _ σ h)
    · exact All.no (end_sees h _) (All.no (end_sees h _) (All.bnd (ih _ σ h) fun f σ1 h1 => All.ite (fun _ => ba_scope L hb _ _ _ (bad_adv h1)) (fun _ => All.mk h1)))
    · exact All.bnd (ih _ σ h) fun f σ1 h1 => ba_post L hb n f σ1 h1
    · refine All.no (by omega) (All.no (by omega) (All.no (by omega) (All.no (by omega) (All.no (by omega) ?_))))
      unfold writtenM
      rw [hN _ h]
      repeat' (refine All.no (by decide) ?_)
      exact All.mk (fail_bad _ _)
    · exact All.bnd (All.bnd (ih _ σ h) fun a σ1 h1 => All.mk (bad_need h1)) fun q σ1 h1 => All.bnd (hb _ _ h1) fun a σ2 h2 => All.bnd (ba_other L hb _ h2) fun b σ3 h3 => All.mk h3
end
theorem listL_up {α : Type} {L : List Fk} {m : PS → Option (α × PS)} : ∀ (n : Nat) (l : List α) (σ : PS) (a : List α) (τ : PS), listL L m n l σ = some (a, τ) → l.length ≤ a.length
  | 0, l, σ, a, τ, h => by cases h
  | n + 1, l, σ, a, τ, h => by
    rw [listL_e] at h
    by_cases hc : sees L (⟨#[59]⟩ : ByteArray) σ = true
    · rw [if_pos hc] at h
      obtain ⟨b, σ1, h1, h2⟩ := bnd_some h
      have := listL_up n _ _ _ _ h2
      simp at this
      omega
    · rw [if_neg hc] at h
      injection h with h
      injection h with h1 h2
      rw [h1]
      exact Nat.le_refl _
section
variable {L L' : List Fk} {K d : Nat} {par : Bool} {cl : ByteArray} (T : Two L L' K d par cl)
include T
theorem len_listL {α : Type} {m m' : PS → Option (α × PS)} (hb : ∀ σ, Bad σ → All Bad (m σ)) (hd : ∀ σ, Dn L' K d par σ → All (Dn L' K d par) (m' σ)) (hs : ∀ σ σ', Sy K d par σ σ' → Sm L' K d par (m σ) (m' σ')) :
    ∀ (n n' : Nat) (l l' : List α) (σ σ' : PS) (a a' : List α) (τ τ' : PS), Re L' K d par σ σ' → l'.length ≤ l.length → listL L m n l σ = some (a, τ) → listL L' m' n' l' σ' = some (a', τ') → Bad τ ∨ a'.length ≤ a.length
  | 0, _, l, l', σ, σ', a, a', τ, τ', h, hl, h1, h2 => by cases h1
  | n + 1, 0, l, l', σ, σ', a, a', τ, τ', h, hl, h1, h2 => by cases h2
  | n + 1, n' + 1, l, l', σ, σ', a, a', τ, τ', h, hl, h1, h2 => by
    rcases h with h | h | h
    · exact Or.inl (ba_listL L hb (n + 1) l σ h a τ h1)
    · have := listL_up _ _ _ _ _ h1
      rw [listL_e, if_neg (dn_sees T h _)] at h2
      injection h2 with h2
      injection h2 with h3 h4
      rw [← h3]
      exact Or.inr (by omega)
    · by_cases hc : sees L (⟨#[59]⟩ : ByteArray) σ = true
      · have hc' := (sy_sees T h (by decide)).1 hc
        rw [listL_e, if_pos hc] at h1
        rw [listL_e, if_pos hc'] at h2
        obtain ⟨b, σ1, h3, h4⟩ := bnd_some h1
        obtain ⟨b', σ1', h5, h6⟩ := bnd_some h2
        have hr : Re L' K d par σ1 σ1' := by
          rcases Sm.re (adv_re T h (sees_lt T h hc)) hb hd hs b σ1 b' σ1' h3 h5 with h7 | h7 | h7
          · exact Or.inl h7
          · exact Or.inr (Or.inl h7)
          · exact Or.inr (Or.inr h7.1)
        exact len_listL hb hd hs n n' _ _ σ1 σ1' a a' τ τ' hr (by simp; omega) h4 h6
      · have hc' : ¬ sees L' (⟨#[59]⟩ : ByteArray) σ' = true := fun h7 => hc ((sy_sees T h (by decide)).2 h7)
        rw [listL_e, if_neg hc] at h1
        rw [listL_e, if_neg hc'] at h2
        injection h1 with h1
        injection h1 with h3 h4
        injection h2 with h2
        injection h2 with h5 h6
        rw [← h3, ← h5]
        exact Or.inr hl
/-- The text of a token, and it is read. -/
theorem sm_tok {β : Type} (g : ByteArray → β) {K0 : Nat} (h0 : K0 ≠ 0) {σ σ' : PS} (h : Re L' K d par σ σ') : Sm L' K d par (some (g (tk L σ.k).s, kindS L K0 σ)) (some (g (tk L' σ'.k).s, kindS L' K0 σ')) := by
  rcases h with h | h | h
  · exact Sm.bad (All.mk (bad_kind h))
  · exact Sm.dn (All.mk (dn_kind T _ h))
  · rcases sy_kind T h0 h with h1 | ⟨hk, h1⟩
    · exact Sm.bad (All.mk h1)
    · exact Sm.mk h1 (by rw [(sy_tok T h hk).2.1])
/-- Where a closing bracket ends something: at the first's end the rest must find nothing. -/
theorem sm_close {α : Type} {σ σ' : PS} (h : Sy K d par σ σ') {x y x' y' : Option (α × PS)} (hx : sees L (⟨#[93]⟩ : ByteArray) σ = true → σ.k < K → Sm L' K d par x x') (hy : Sm L' K d par y y') (he : (tk L σ.k).k = 0 → All Bad y) :
    Sm L' K d par (if sees L (⟨#[93]⟩ : ByteArray) σ = true then x else y) (if sees L' (⟨#[93]⟩ : ByteArray) σ' = true then x' else y') := by
  by_cases hk : σ.k < K
  · rw [← sees_eq T h hk]
    exact Sm.ite Iff.rfl (fun hc => hx hc hk) (fun _ => hy)
  · have h0 := (sy_end T h hk).1
    exact Sm.bad (All.no (end_sees h0 _) (he h0))
theorem sm_param (σ σ' : PS) (h : Sy K d par σ σ') : Sm L' K d par (paramM L σ) (paramM L' σ') := by
  unfold paramM
  by_cases hk : σ.k < K
  · obtain ⟨h1, h2, -, -⟩ := sy_tok T h hk
    rw [h1, h2]
    exact Sm.ite Iff.rfl (fun _ => Sm.ok (read_re T h hk)) (fun _ => Sm.ite Iff.rfl (fun _ => Sm.ok (read_re T h hk)) (fun _ => Sm.bad (All.mk (fail_bad _ _))))
  · have h0 := (sy_end T h hk).1
    exact Sm.bad (All.no (by omega) (All.no (by omega) (All.mk (fail_bad _ _))))
theorem sy_suf {σ σ' : PS} (h : Sy K d par σ σ') : sufB L σ = true ↔ sufB L' σ' = true := by
  by_cases hk : σ.k < K
  · unfold sufB
    rw [sees_eq T h hk, sees_eq T h hk, sees_eq T h hk, (sy_tok T h hk).1]
  · obtain ⟨h1, h2, h3, h4⟩ := sy_end T h hk
    unfold sufB sees isW
    rw [h1, h3, h4]
    rw [h2]
    rcases T.cls with h5 | h5 <;> rw [h5] <;> decide
theorem suf_lt {σ σ' : PS} (h : Sy K d par σ σ') (hs : sufB L σ = true) : σ.k < K := by
  by_cases hk : σ.k < K
  · exact hk
  · have h1 := (sy_end T h hk).1
    unfold sufB sees isW at hs
    rw [h1] at hs
    simp at hs
variable {call call' : Ru → PM} (n n' : Nat) (HB : ∀ r σ, Bad σ → All Bad (call r σ)) (HD : ∀ r σ, Dn L' K d par σ → All (Dn L' K d par) (call' r σ)) (HS : ∀ r σ σ', Sy K d par σ σ' → Sm L' K d par (call r σ) (call' r σ')) (HE : ∀ r σ, (tk L σ.k).k = 0 → All Bad (call r σ))
include HB HD HS HE
theorem hr (r : Ru) {σ σ' : PS} (h : Re L' K d par σ σ') : Sm L' K d par (call r σ) (call' r σ') := Sm.re h (HB r) (HD r) (HS r)
theorem sm_before (x : ByteArray) {σ σ' : PS} (h : Re L' K d par σ σ') : Sm L' K d par (beforeM L call x σ) (beforeM L' call' x σ') :=
  Sm.bnd (hr T HB HD HS HE _ h) (fun a σ h => All.mk (bad_need h)) (fun a σ' h => All.mk (dn_need T _ h)) (fun a σ σ' h => Sm.ok (need_sy T _ h))
theorem sm_scope (op : Int) (subs : List Ft) {σ σ' : PS} (h : Re L' K d par σ σ') : Sm L' K d par (scopeM L call op subs σ) (scopeM L' call' op subs σ') := by
  refine Sm.re h (ba_scope L HB op subs) (dn_scope T HD op subs) (fun σ σ' h => ?_)
  unfold scopeM
  rcases sy_kind T (K0 := 3) (by decide) h with h1 | ⟨hk, h1⟩
  · exact Sm.bad (All.bnd (HB _ _ (bad_need h1)) fun f σ1 h2 => All.mk h2)
  · rw [(sy_tok T h hk).2.1]
    exact Sm.bnd (hr T HB HD HS HE _ (need_re T _ h1)) (fun _ _ h => All.mk h) (fun _ _ h => All.mk h) (fun _ _ _ h => Sm.ok (Or.inr (Or.inr h)))
theorem sm_def {σ σ' : PS} (h : Re L' K d par σ σ') : Sm L' K d par (defM L call n σ) (defM L' call' n' σ') := by
  refine Sm.re h (ba_def L n HB) (dn_def T n' HD) (fun σ σ' h => ?_)
  unfold defM
  have hbad : ∀ (s : ByteArray) (o : Nat) (ps : List ByteArray) (τ : PS), Bad τ → All Bad (bnd (call .filter (needP L (⟨#[58]⟩ : ByteArray) (longP ps o τ))) fun f σ2 => bnd (call .filter (needP L (⟨#[59]⟩ : ByteArray) σ2)) fun u σ3 => some (Ft.mk 26 s vz ps [f, u], σ3)) := fun s o ps τ h => All.bnd (HB _ _ (bad_need (bad_long h))) fun f σ2 h2 => All.bnd (HB _ _ (bad_need h2)) fun u σ3 h3 => All.mk h3
  have hrest : ∀ (s : ByteArray) (o o' : Nat) (ps : List ByteArray) (τ τ' : PS), Re L' K d par (longP ps o τ) (longP ps o' τ') → Sm L' K d par (bnd (call .filter (needP L (⟨#[58]⟩ : ByteArray) (longP ps o τ))) fun f σ2 => bnd (call .filter (needP L (⟨#[59]⟩ : ByteArray) σ2)) fun u σ3 => some (Ft.mk 26 s vz ps [f, u], σ3))
      (bnd (call' .filter (needP L' (⟨#[58]⟩ : ByteArray) (longP ps o' τ'))) fun f σ2 => bnd (call' .filter (needP L' (⟨#[59]⟩ : ByteArray) σ2)) fun u σ3 => some (Ft.mk 26 s vz ps [f, u], σ3)) := fun s o o' ps τ τ' h =>
    Sm.bnd (hr T HB HD HS HE _ (need_re T _ h)) (fun f σ2 h2 => All.bnd (HB _ _ (bad_need h2)) fun u σ3 h3 => All.mk h3) (fun f σ2 h2 => All.bnd (HD _ _ (dn_need T _ h2)) fun u σ3 h3 => All.mk h3)
      (fun f σ2 σ2' h2 => Sm.bnd (hr T HB HD HS HE _ (need_sy T _ h2)) (fun _ _ h => All.mk h) (fun _ _ h => All.mk h) (fun _ _ _ h => Sm.ok (Or.inr (Or.inr h))))
  rcases sy_kind T (K0 := 1) (by decide) h with h1 | ⟨hk, h1⟩
  · exact Sm.bad (All.bnd (ba_params L n HB _ h1) fun ps τ h2 => hbad _ _ ps τ h2)
  · rw [(sy_tok T h hk).2.1]
    generalize (tk L σ.k).o = oo
    generalize (tk L' σ'.k).o = oo'
    generalize (tk L σ.k).s = ss
    rcases h1 with h1 | h1 | h1
    · exact Sm.bad (All.bnd (ba_params L n HB _ h1) fun ps τ h2 => hbad _ _ ps τ h2)
    · rw [dn_params T n' h1]
      exact Sm.dn (dn_def2 T HD _ [] _ _ h1 (by simp))
    · intro a ρ a' ρ' e1 e2
      obtain ⟨ps, τ, h2, h3⟩ := bnd_some e1
      obtain ⟨ps', τ', h4, h5⟩ := bnd_some e2
      clear e1 e2
      unfold paramsM at h2 h4
      by_cases hc : sees L (⟨#[40]⟩ : ByteArray) (kindS L 1 σ) = true
      · rw [if_pos hc] at h2
        rw [if_pos ((sy_sees T h1 (by decide)).1 hc)] at h4
        have hA := adv_re T h1 (sees_lt T h1 hc)
        have hM := sm_listM T (ba_param L) (dn_param T) (sm_param T) n n' hA ps τ ps' τ' h2 h4
        have hLen : Bad τ ∨ ps'.length ≤ ps.length := by
          obtain ⟨b, σ1, h6, h7⟩ := bnd_some h2
          obtain ⟨b', σ1', h8, h9⟩ := bnd_some h4
          refine len_listL T (ba_param L) (dn_param T) (sm_param T) n n' [b] [b'] σ1 σ1' ps ps' τ τ' ?_ (by simp) h7 h9
          rcases Sm.re hA (ba_param L) (dn_param T) (sm_param T) b σ1 b' σ1' h6 h8 with h10 | h10 | h10
          · exact Or.inl h10
          · exact Or.inr (Or.inl h10)
          · exact Or.inr (Or.inr h10.1)
        rcases hLen with hLen | hLen
        · exact Or.inl (hbad _ _ _ _ hLen _ _ h3)
        · by_cases h8 : 8 < ps.length
          · refine Or.inl (All.bnd (HB _ _ (bad_need ?_)) (fun f σ2 h2 => All.bnd (HB _ _ (bad_need h2)) fun u σ3 h3 => All.mk h3) a ρ h3)
            unfold longP
            split
            · exact Or.inr rfl
            · refine Or.inr ?_
              by_cases hl : τ.long = true
              · exact hl
              · exact absurd (⟨h8, by simpa using hl⟩ : 8 < ps.length ∧ τ.long = false) ‹_›
          · rcases hM with hM | hM | ⟨hM, rfl⟩
            · exact Or.inl (hbad _ _ _ _ hM _ _ h3)
            · exact Or.inr (Or.inl (dn_def2 T HD _ ps' _ _ hM (by omega) _ _ h5))
            · refine hrest _ _ _ _ _ _ ?_ _ _ _ _ h3 h5
              unfold longP
              rw [if_neg (by omega), if_neg (by omega)]
              exact Or.inr (Or.inr hM)
      · rw [if_neg hc] at h2
        rw [if_neg (fun h7 => hc ((sy_sees T h1 (by decide)).2 h7))] at h4
        injection h2 with h2
        injection h2 with h6 h7
        injection h4 with h4
        injection h4 with h8 h9
        subst h6; subst h7; subst h8; subst h9
        refine hrest _ _ _ _ _ _ ?_ _ _ _ _ h3 h5
        unfold longP
        rw [if_neg (by simp), if_neg (by simp)]
        exact Or.inr (Or.inr h1)
theorem sm_bracket (f : Ft) {σ σ' : PS} (h : Re L' K d par σ σ') : Sm L' K d par (bracketM L call f σ) (bracketM L' call' f σ') := by
  refine Sm.re h (ba_bracket L HB f) (dn_bracket T HD f) (fun σ σ' h => ?_)
  unfold bracketM
  refine sm_close T h (fun _ hk => Sm.ok (adv_re T h hk)) ?_ (fun h0 => All.no (end_sees h0 _) (All.bnd (HE _ _ h0) fun u σ1 h1 => All.ite (fun _ => All.ite (fun _ => All.mk h1) (fun _ => All.bnd (ba_before L HB _ _ (bad_adv h1)) fun u σ1 h1 => All.mk h1)) (fun _ => All.mk (bad_need h1))))
  refine Sm.ite (sy_sees T h (by decide)) (fun hc => ?_) (fun _ => ?_)
  · exact Sm.bnd (sm_before T HB HD HS HE _ (adv_re T h (sees_lt T h hc))) (fun _ _ h => All.mk h) (fun _ _ h => All.mk h) (fun _ _ _ h => Sm.ok (Or.inr (Or.inr h)))
  · refine Sm.bnd (HS _ _ _ h) (fun u σ1 h1 => ?_) (fun u σ1 h1 => All.no (dn_sees T h1 _) (All.mk (dn_need T _ h1))) (fun u σ1 σ1' h1 => ?_)
    · exact All.ite (fun _ => All.ite (fun _ => All.mk h1) (fun _ => All.bnd (ba_before L HB _ _ (bad_adv h1)) fun u σ1 h1 => All.mk h1)) (fun _ => All.mk (bad_need h1))
    · refine Sm.ite (sy_sees T h1 (by decide)) (fun hc => ?_) (fun _ => Sm.ok (need_sy T _ h1))
      refine Sm.re (m := fun τ => if sees L (⟨#[93]⟩ : ByteArray) τ = true then some (nodeF 5 [f, u, nullF], adv τ) else bnd (beforeM L call (⟨#[93]⟩ : ByteArray) τ) fun v σ2 => some (nodeF 5 [f, u, v], σ2)) (m' := fun τ => if sees L' (⟨#[93]⟩ : ByteArray) τ = true then some (nodeF 5 [f, u, nullF], adv τ) else bnd (beforeM L' call' (⟨#[93]⟩ : ByteArray) τ) fun v σ2 => some (nodeF 5 [f, u, v], σ2)) (adv_re T h1 (sees_lt T h1 hc)) (fun τ h2 => ?_) (fun τ h2 => ?_) (fun τ τ' h2 => ?_)
      · exact All.ite (fun _ => All.mk h2) (fun _ => All.bnd (ba_before L HB _ _ h2) fun u σ1 h1 => All.mk h1)
      · exact All.no (dn_sees T h2 _) (All.bnd (dn_before T HD _ _ h2) fun u σ1 h1 => All.mk h1)
      · exact sm_close T h2 (fun _ hk => Sm.ok (adv_re T h2 hk)) (Sm.bnd (sm_before T HB HD HS HE _ (Or.inr (Or.inr h2))) (fun _ _ h => All.mk h) (fun _ _ h => All.mk h) (fun _ _ _ h => Sm.ok (Or.inr (Or.inr h)))) (fun h0 => All.bnd (All.bnd (HE _ _ h0) fun a σ1 h1 => All.mk (bad_need h1)) fun u σ1 h1 => All.mk h1)
theorem sm_suffix (f : Ft) {σ σ' : PS} (h : Sy K d par σ σ') : Sm L' K d par (suffixM L call f σ) (suffixM L' call' f σ') := by
  unfold suffixM
  refine Sm.ite (sy_sees T h (by decide)) (fun hc => sm_tok T (fieldF f) (by decide) (adv_re T h (sees_lt T h hc))) (fun _ => ?_)
  refine Sm.ite (sy_sees T h (by decide)) (fun hc => Sm.ok (adv_re T h (sees_lt T h hc))) (fun _ => ?_)
  exact Sm.ite (sy_sees T h (by decide)) (fun hc => sm_bracket T HB HD HS HE f (adv_re T h (sees_lt T h hc))) (fun _ => sm_tok T (fieldF f) (by decide) (Or.inr (Or.inr h)))
theorem sm_post : ∀ (m m' : Nat) (f : Ft) (σ σ' : PS), Sy K d par σ σ' → Sm L' K d par (postL L call m f σ) (postL L' call' m' f σ')
  | 0, _, f, σ, σ', h => Sm.nil1
  | m + 1, 0, f, σ, σ', h => Sm.nil2
  | m + 1, m' + 1, f, σ, σ', h => by
    rw [postL, postL]
    refine Sm.ite (sy_suf T h) (fun hc => ?_) (fun _ => Sm.ok (Or.inr (Or.inr h)))
    exact Sm.bnd (sm_suffix T HB HD HS HE f h) (fun u σ h => ba_post L HB m u σ h) (fun u σ h => dn_post T HD m' u σ h) (fun u σ σ' h => sm_post m m' u σ σ' h)
theorem sm_array {σ σ' : PS} (h : Re L' K d par σ σ') : Sm L' K d par (arrayM L call σ) (arrayM L' call' σ') := by
  refine Sm.re h (ba_array L HB) (dn_array T HD) (fun σ σ' h => ?_)
  exact sm_close T h (fun _ hk => Sm.ok (adv_re T h hk)) (Sm.bnd (sm_before T HB HD HS HE _ (Or.inr (Or.inr h))) (fun _ _ h => All.mk h) (fun _ _ h => All.mk h) (fun _ _ _ h => Sm.ok (Or.inr (Or.inr h)))) (fun h0 => All.bnd (All.bnd (HE _ _ h0) fun a σ1 h1 => All.mk (bad_need h1)) fun u σ1 h1 => All.mk h1)
theorem sm_entry {σ σ' : PS} (h : Re L' K d par σ σ') : Sm L' K d par (entryM L call σ) (entryM L' call' σ') := by
  refine Sm.re h (ba_entry L HB) (dn_entry T HD) (fun σ σ' h => ?_)
  unfold entryM
  refine Sm.ite (sy_sees T h (by decide)) (fun hc => ?_) (fun _ => ?_)
  · exact Sm.bnd (sm_before T HB HD HS HE _ (adv_re T h (sees_lt T h hc))) (fun _ _ h => All.bnd (HB _ _ (bad_need h)) fun _ _ h => All.mk h) (fun _ _ h => All.bnd (HD _ _ (dn_need T _ h)) fun _ _ h => All.mk h)
      (fun _ _ _ h => Sm.bnd (hr T HB HD HS HE _ (need_sy T _ h)) (fun _ _ h => All.mk h) (fun _ _ h => All.mk h) (fun _ _ _ h => Sm.ok (Or.inr (Or.inr h))))
  · by_cases hk : σ.k < K
    · obtain ⟨h1, h2, -, -⟩ := sy_tok T h hk
      rw [h1, h2]
      have hR := read_re T h hk
      refine Sm.ite Iff.rfl (fun _ => Sm.ok hR) (fun _ => Sm.ite Iff.rfl (fun _ => ?_) (fun _ => Sm.bad (All.mk (fail_bad _ _))))
      generalize (tk L σ.k).s = s
      refine Sm.re (m := fun τ => if sees L (⟨#[58]⟩ : ByteArray) τ = true then bnd (call .alt (adv τ)) fun u σ1 => some ((textF s, u), σ1) else some ((textF s, fieldF identF s), τ)) (m' := fun τ => if sees L' (⟨#[58]⟩ : ByteArray) τ = true then bnd (call' .alt (adv τ)) fun u σ1 => some ((textF s, u), σ1) else some ((textF s, fieldF identF s), τ)) hR (fun τ h2 => ?_) (fun τ h2 => ?_) (fun τ τ' h2 => ?_)
      · exact All.ite (fun _ => All.bnd (HB _ _ (bad_adv h2)) fun _ _ h => All.mk h) (fun _ => All.mk h2)
      · exact All.no (dn_sees T h2 _) (All.mk h2)
      · exact Sm.ite (sy_sees T h2 (by decide)) (fun hc => Sm.bnd (hr T HB HD HS HE _ (adv_re T h2 (sees_lt T h2 hc))) (fun _ _ h => All.mk h) (fun _ _ h => All.mk h) (fun _ _ _ h => Sm.ok (Or.inr (Or.inr h)))) (fun _ => Sm.ok (Or.inr (Or.inr h2)))
    · have h0 := (sy_end T h hk).1
      exact Sm.bad (All.no (by omega) (All.no (by omega) (All.mk (fail_bad _ _))))
theorem sm_objL : ∀ (m m' : Nat) (l : List Ft) (σ σ' : PS), Re L' K d par σ σ' → Sm L' K d par (objL L call m l σ) (objL L' call' m' l σ')
  | 0, _, l, σ, σ', h => Sm.nil1
  | m + 1, 0, l, σ, σ', h => Sm.nil2
  | m + 1, m' + 1, l, σ, σ', h => by
    rw [objL, objL]
    refine Sm.bnd (sm_entry T HB HD HS HE h) (fun p σ h => All.ite (fun _ => ba_objL L HB m _ _ (bad_adv h)) (fun _ => All.mk (bad_need h))) (fun p σ h => All.no (dn_sees T h _) (All.mk (dn_need T _ h))) (fun p σ σ' h => ?_)
    exact Sm.ite (sy_sees T h (by decide)) (fun hc => sm_objL m m' _ _ _ (adv_re T h (sees_lt T h hc))) (fun _ => Sm.ok (need_sy T _ h))
theorem sm_object {σ σ' : PS} (h : Re L' K d par σ σ') : Sm L' K d par (objectM L call n σ) (objectM L' call' n' σ') := by
  refine Sm.re h (ba_object L n HB) (dn_object T n' HD) (fun σ σ' h => ?_)
  exact Sm.ite (sy_sees T h (by decide)) (fun hc => Sm.ok (adv_re T h (sees_lt T h hc))) (fun _ => sm_objL T HB HD HS HE n n' [] σ σ' (Or.inr (Or.inr h)))
theorem sm_other {σ σ' : PS} (h : Re L' K d par σ σ') : Sm L' K d par (otherM L call σ) (otherM L' call' σ') := by
  refine Sm.re h (ba_other L HB) (dn_other T HD) (fun σ σ' h => ?_)
  exact Sm.ite (sy_sees T h (by decide)) (fun hc => hr T HB HD HS HE _ (adv_re T h (sees_lt T h hc))) (fun _ => Sm.ite (sy_sees T h (by decide)) (fun hc => sm_before T HB HD HS HE _ (adv_re T h (sees_lt T h hc))) (fun _ => Sm.ok (need_sy T _ h)))
theorem sm_cond {σ σ' : PS} (h : Re L' K d par σ σ') : Sm L' K d par (condM L call σ) (condM L' call' σ') := by
  unfold condM
  exact Sm.bnd (sm_before T HB HD HS HE _ h) (fun q σ1 h1 => All.bnd (HB _ _ h1) fun a σ2 h2 => All.bnd (ba_other L HB _ h2) fun b σ3 h3 => All.mk h3) (fun q σ1 h1 => All.bnd (HD _ _ h1) fun a σ2 h2 => All.bnd (dn_other T HD _ h2) fun b σ3 h3 => All.mk h3) (fun q σ1 σ1' h1 =>
    Sm.bnd (HS _ _ _ h1) (fun a σ2 h2 => All.bnd (ba_other L HB _ h2) fun b σ3 h3 => All.mk h3) (fun a σ2 h2 => All.bnd (dn_other T HD _ h2) fun b σ3 h3 => All.mk h3) (fun a σ2 σ2' h2 =>
      Sm.bnd (sm_other T HB HD HS HE (Or.inr (Or.inr h2))) (fun _ _ h => All.mk h) (fun _ _ h => All.mk h) (fun _ _ _ h => Sm.ok (Or.inr (Or.inr h)))))
theorem sm_try {σ σ' : PS} (h : Re L' K d par σ σ') : Sm L' K d par (tryM L call σ) (tryM L' call' σ') := by
  unfold tryM
  exact Sm.bnd (hr T HB HD HS HE _ h) (fun f σ1 h1 => All.ite (fun _ => All.bnd (HB _ _ (bad_adv h1)) fun _ _ h => All.mk h) (fun _ => All.mk h1)) (fun f σ1 h1 => All.no (dn_sees T h1 _) (All.mk h1)) (fun f σ1 σ1' h1 =>
    Sm.ite (sy_sees T h1 (by decide)) (fun hc => Sm.bnd (hr T HB HD HS HE _ (adv_re T h1 (sees_lt T h1 hc))) (fun _ _ h => All.mk h) (fun _ _ h => All.mk h) (fun _ _ _ h => Sm.ok (Or.inr (Or.inr h)))) (fun _ => Sm.ok (Or.inr (Or.inr h1))))
theorem sm_source {σ σ' : PS} (h : Re L' K d par σ σ') : Sm L' K d par (sourceM L call σ) (sourceM L' call' σ') := by
  unfold sourceM
  refine Sm.bnd (hr T HB HD HS HE _ h) (fun f σ1 h1 => All.mk (bad_need (bad_kind (bad_need h1)))) (fun f σ1 h1 => All.mk (dn_need T _ (dn_kind T _ (dn_need T _ h1)))) (fun f σ1 σ1' h1 => ?_)
  have h2 := need_sy T ⟨#[97, 115]⟩ h1
  rcases h2 with h2 | h2 | h2
  · exact Sm.bad (All.mk (bad_need (bad_kind h2)))
  · exact Sm.dn (All.mk (dn_need T _ (dn_kind T _ h2)))
  · rcases sy_kind T (K0 := 3) (by decide) h2 with h3 | ⟨hk, h3⟩
    · exact Sm.bad (All.mk (bad_need h3))
    · exact Sm.mk (need_re T _ h3) (by rw [(sy_tok T h2 hk).2.1])
theorem sm_reduce {σ σ' : PS} (h : Re L' K d par σ σ') : Sm L' K d par (reduceM L call σ) (reduceM L' call' σ') := by
  unfold reduceM
  exact Sm.bnd (sm_source T HB HD HS HE h) (fun q σ1 h1 => All.bnd (ba_before L HB _ _ h1) fun a σ2 h2 => All.bnd (ba_before L HB _ _ h2) fun b σ3 h3 => All.mk h3) (fun q σ1 h1 => All.bnd (dn_before T HD _ _ h1) fun a σ2 h2 => All.bnd (dn_before T HD _ _ h2) fun b σ3 h3 => All.mk h3) (fun q σ1 σ1' h1 =>
    Sm.bnd (sm_before T HB HD HS HE _ (Or.inr (Or.inr h1))) (fun a σ2 h2 => All.bnd (ba_before L HB _ _ h2) fun b σ3 h3 => All.mk h3) (fun a σ2 h2 => All.bnd (dn_before T HD _ _ h2) fun b σ3 h3 => All.mk h3) (fun a σ2 σ2' h2 =>
      Sm.bnd (sm_before T HB HD HS HE _ (Or.inr (Or.inr h2))) (fun _ _ h => All.mk h) (fun _ _ h => All.mk h) (fun _ _ _ h => Sm.ok (Or.inr (Or.inr h)))))
theorem sm_foreach {σ σ' : PS} (h : Re L' K d par σ σ') : Sm L' K d par (foreachM L call σ) (foreachM L' call' σ') := by
  unfold foreachM
  exact Sm.bnd (sm_source T HB HD HS HE h) (fun q σ1 h1 => All.bnd (ba_before L HB _ _ h1) fun a σ2 h2 => All.bnd (HB _ _ h2) fun b σ3 h3 => All.ite (fun _ => All.bnd (HB _ _ (bad_adv h3)) fun _ _ h => All.mk (bad_need h)) (fun _ => All.mk (bad_need h3))) (fun q σ1 h1 => All.bnd (dn_before T HD _ _ h1) fun a σ2 h2 => All.bnd (HD _ _ h2) fun b σ3 h3 => All.no (dn_sees T h3 _) (All.mk (dn_need T _ h3))) (fun q σ1 σ1' h1 =>
    Sm.bnd (sm_before T HB HD HS HE _ (Or.inr (Or.inr h1))) (fun a σ2 h2 => All.bnd (HB _ _ h2) fun b σ3 h3 => All.ite (fun _ => All.bnd (HB _ _ (bad_adv h3)) fun _ _ h => All.mk (bad_need h)) (fun _ => All.mk (bad_need h3))) (fun a σ2 h2 => All.bnd (HD _ _ h2) fun b σ3 h3 => All.no (dn_sees T h3 _) (All.mk (dn_need T _ h3))) (fun a σ2 σ2' h2 =>
      Sm.bnd (HS _ _ _ h2) (fun b σ3 h3 => All.ite (fun _ => All.bnd (HB _ _ (bad_adv h3)) fun _ _ h => All.mk (bad_need h)) (fun _ => All.mk (bad_need h3))) (fun b σ3 h3 => All.no (dn_sees T h3 _) (All.mk (dn_need T _ h3))) (fun b σ3 σ3' h3 =>
        Sm.ite (sy_sees T h3 (by decide)) (fun hc => Sm.bnd (hr T HB HD HS HE _ (adv_re T h3 (sees_lt T h3 hc))) (fun _ _ h => All.mk (bad_need h)) (fun _ _ h => All.mk (dn_need T _ h)) (fun _ _ _ h => Sm.ok (need_sy T _ h))) (fun _ => Sm.ok (need_sy T _ h3)))))
theorem sm_call (s : ByteArray) {σ σ' : PS} (h : Re L' K d par σ σ') : Sm L' K d par (callM L call n s σ) (callM L' call' n' s σ') := by
  refine Sm.re h (ba_call L n HB s) (dn_call T n' HD s) (fun σ σ' h => ?_)
  unfold callM
  refine Sm.ite (sy_sees T h (by decide)) (fun hc => ?_) (fun _ => Sm.ite Iff.rfl (fun _ => Sm.ok (Or.inr (Or.inr h))) (fun _ => Sm.ok (Or.inr (Or.inr h))))
  exact Sm.bnd (sm_listM T (HB .filter) (HD .filter) (HS .filter) n n' (adv_re T h (sees_lt T h hc))) (fun _ _ h => All.mk h) (fun _ _ h => All.mk h) (fun _ _ _ h => Sm.ok (Or.inr (Or.inr h)))
theorem sm_point {σ σ' : PS} (h : Re L' K d par σ σ') : Sm L' K d par (pointM L σ) (pointM L' σ') := by
  unfold pointM
  rcases h with h | h | h
  · exact Sm.bad (All.ite (fun _ => All.mk (bad_read h)) (fun _ => All.mk h))
  · have h0 := dn_k T h
    exact Sm.dn (All.no (by omega) (All.mk h))
  · by_cases hk : σ.k < K
    · obtain ⟨h1, h2, -, -⟩ := sy_tok T h hk
      rw [h1, h2]
      exact Sm.ite Iff.rfl (fun _ => Sm.ok (read_re T h hk)) (fun _ => Sm.ok (Or.inr (Or.inr h)))
    · obtain ⟨h1, -, h3, -⟩ := sy_end T h hk
      rw [h1, h3]
      exact Sm.ok (Or.inr (Or.inr h))
theorem sm_written {t t' : Fk} (ht : t'.s = t.s) {σ σ' : PS} (h : Re L' K d par σ σ') : Sm L' K d par (writtenM L call n t σ) (writtenM L' call' n' t' σ') := by
  unfold writtenM
  rw [ht]
  refine Sm.ite Iff.rfl (fun _ => sm_point T HB HD HS HE h) (fun _ => ?_)
  refine Sm.ite Iff.rfl (fun _ => Sm.ok h) (fun _ => ?_)
  refine Sm.ite Iff.rfl (fun _ => Sm.ok h) (fun _ => ?_)
  refine Sm.ite Iff.rfl (fun _ => Sm.ok h) (fun _ => ?_)
  refine Sm.ite Iff.rfl (fun _ => Sm.ok h) (fun _ => ?_)
  refine Sm.ite Iff.rfl (fun _ => sm_before T HB HD HS HE _ h) (fun _ => ?_)
  refine Sm.ite Iff.rfl (fun _ => sm_array T HB HD HS HE h) (fun _ => ?_)
  refine Sm.ite Iff.rfl (fun _ => sm_object T n n' HB HD HS HE h) (fun _ => ?_)
  refine Sm.ite Iff.rfl (fun _ => hr T HB HD HS HE _ h) (fun _ => ?_)
  refine Sm.ite Iff.rfl (fun _ => sm_try T HB HD HS HE h) (fun _ => ?_)
  refine Sm.ite Iff.rfl (fun _ => sm_reduce T HB HD HS HE h) (fun _ => ?_)
  refine Sm.ite Iff.rfl (fun _ => sm_foreach T HB HD HS HE h) (fun _ => ?_)
  refine Sm.ite Iff.rfl (fun _ => sm_tok T (fun s => Ft.mk 23 s vz [] []) (by decide) h) (fun _ => ?_)
  exact Sm.bad (All.mk (fail_bad _ _))
theorem sm_prim {σ σ' : PS} (h : Sy K d par σ σ') : Sm L' K d par (primM L call n σ) (primM L' call' n' σ') := by
  unfold primM
  by_cases hk : σ.k < K
  · obtain ⟨h1, h2, h3, -⟩ := sy_tok T h hk
    have hR := read_re T h hk
    rw [h1, h2, h3]
    refine Sm.ite Iff.rfl (fun _ => Sm.ok hR) (fun _ => ?_)
    refine Sm.ite Iff.rfl (fun _ => Sm.ok hR) (fun _ => ?_)
    refine Sm.ite Iff.rfl (fun _ => Sm.ok hR) (fun _ => ?_)
    refine Sm.ite Iff.rfl (fun _ => Sm.ok hR) (fun _ => ?_)
    refine Sm.ite Iff.rfl (fun _ => sm_call T n n' HB HD HS HE _ hR) (fun _ => ?_)
    exact sm_written T n n' HB HD HS HE h2 hR
  · obtain ⟨h0, hs, -, -⟩ := sy_end T h hk
    refine Sm.bad (All.no (by omega) (All.no (by omega) (All.no (by omega) (All.no (by omega) (All.no (by omega) ?_)))))
    unfold writtenM
    rw [hs]
    repeat' (refine All.no (by decide) ?_)
    exact All.mk (fail_bad _ _)
theorem sm_oper {σ σ' : PS} (h : Sy K d par σ σ') : Sm L' K d par (operM L call n σ) (operM L' call' n' σ') := by
  unfold operM
  refine Sm.ite (sy_sees T h (by decide)) (fun hc => sm_scope T HB HD HS HE _ _ (adv_re T h (sees_lt T h hc))) (fun _ => ?_)
  refine Sm.ite (sy_sees T h (by decide)) (fun hc => sm_def T n n' HB HD HS HE (adv_re T h (sees_lt T h hc))) (fun _ => ?_)
  refine Sm.bnd (HS _ _ _ h) (fun f σ1 h1 => All.ite (fun _ => ba_scope L HB _ _ _ (bad_adv h1)) (fun _ => All.mk h1)) (fun f σ1 h1 => All.no (dn_sees T h1 _) (All.mk h1)) (fun f σ1 σ1' h1 => ?_)
  exact Sm.ite (sy_sees T h1 (by decide)) (fun hc => sm_scope T HB HD HS HE _ _ (adv_re T h1 (sees_lt T h1 hc))) (fun _ => Sm.ok (Or.inr (Or.inr h1)))
theorem sm_body (r : Ru) (σ σ' : PS) (h : Sy K d par σ σ') : Sm L' K d par (bodyM L call n r σ) (bodyM L' call' n' r σ') := by
  cases r
  · exact sm_pairM T _ _ (by decide) (HS _) (HB _) (HD _) (HS _) σ σ' h
  · exact sm_chainM T _ _ (by decide) (HB _) (HD _) (HS _) n n' σ σ' h
  · exact sm_pairM T _ _ (by decide) (HS _) (HB _) (HD _) (HS _) σ σ' h
  · exact sm_pairM T _ _ (by decide) (HS _) (HB _) (HD _) (HS _) σ σ' h
  · exact sm_chainM T _ _ (by decide) (HB _) (HD _) (HS _) n n' σ σ' h
  · exact sm_chainM T _ _ (by decide) (HB _) (HD _) (HS _) n n' σ σ' h
  · exact sm_pairM T _ _ (by decide) (HS _) (HB _) (HD _) (HS _) σ σ' h
  · exact sm_chainM T _ _ (by decide) (HB _) (HD _) (HS _) n n' σ σ' h
  · exact sm_chainM T _ _ (by decide) (HB _) (HD _) (HS _) n n' σ σ' h
  · exact Sm.ite (sy_sees T h (by decide)) (fun hc => Sm.bnd (hr T HB HD HS HE _ (adv_re T h (sees_lt T h hc))) (fun _ _ h => All.mk h) (fun _ _ h => All.mk h) (fun _ _ _ h => Sm.ok (Or.inr (Or.inr h)))) (fun _ => HS _ _ _ h)
  · exact sm_oper T n n' HB HD HS HE h
  · exact Sm.bnd (HS _ _ _ h) (fun f σ h => ba_post L HB n f σ h) (fun f σ h => dn_post T HD n' f σ h) (fun f σ σ' h => sm_post T HB HD HS HE n n' f σ σ' h)
  · exact sm_prim T n n' HB HD HS HE h
  · exact sm_cond T HB HD HS HE (Or.inr (Or.inr h))
end
/-- Both runs, in step. -/
theorem sm_run {L L' : List Fk} {K d : Nat} {par : Bool} {cl : ByteArray} (T : Two L L' K d par cl) (hN : ∀ k, (tk L k).k = 0 → (tk L k).s = ⟨#[]⟩) : ∀ (n n' : Nat) (r : Ru) (σ σ' : PS), Sy K d par σ σ' → Sm L' K d par (run L n r σ) (run L' n' r σ')
  | 0, _, r, σ, σ', h => Sm.nil1
  | n + 1, 0, r, σ, σ', h => Sm.nil2
  | n + 1, n' + 1, r, σ, σ', h => sm_body T n n' (ba_run L n) (dn_run T n') (sm_run T hN n n') (ze_run hN n) r σ σ' h
end Go.Proofs.YthiempadgehhlaaGreatDoor
namespace Go.Proofs.YthiempadgehhlaaGreatDoor
open Go.RowKit
/-- Where a filter is well-formed, a list that begins the same and ends early is a filter, or ends too early. -/
theorem parse_cut {L L' : List Fk} {K : Nat} {cl : ByteArray} (T : Two L L' K 0 false cl) (hE : EndL L) (hE' : EndL L') (hok : (parseT L).2.2 = 0) (hk : K < L.length) : (parseT L').2.2 = 0 ∨ (parseT L').2.2 = 5 ∧ (parseT L').2.1 = (tk L' K).o := by
  obtain ⟨f, σ, h1, h2⟩ := parse_ends hE
  obtain ⟨f', σ', h3, h4⟩ := parse_ends hE'
  unfold parseT at hok ⊢
  rw [h1] at hok
  rw [h3]
  dsimp only at hok ⊢
  have hgood : ¬ Bad (kindS L 0 σ) := by
    intro hb
    by_cases he : (kindS L 0 σ).e = 0
    · rw [if_pos he] at hok
      rcases hb with hb | hb
      · exact hb he
      · rw [if_pos hb] at hok
        exact absurd hok (by show ¬ (2 = 0); decide)
    · rw [if_neg he] at hok
      exact he hok
  have hgs : ¬ Bad σ := fun hb => hgood (bad_kind hb)
  have hK : ∀ τ, Dn L' K 0 false τ → (if (kindS L' 0 τ).e = 0 then if (kindS L' 0 τ).long = true then (zf, (kindS L' 0 τ).lo, 2) else (f', 0, 0) else (zf, (kindS L' 0 τ).o, (kindS L' 0 τ).e)).2.2 = 0 ∨ (if (kindS L' 0 τ).e = 0 then if (kindS L' 0 τ).long = true then (zf, (kindS L' 0 τ).lo, 2) else (f', 0, 0) else (zf, (kindS L' 0 τ).o, (kindS L' 0 τ).e)).2.2 = 5 ∧ (if (kindS L' 0 τ).e = 0 then if (kindS L' 0 τ).long = true then (zf, (kindS L' 0 τ).lo, 2) else (f', 0, 0) else (zf, (kindS L' 0 τ).o, (kindS L' 0 τ).e)).2.1 = (tk L' K).o := by
    intro τ h
    obtain ⟨-, -, h5, h6⟩ := dn_kind T 0 h
    rcases h6 with h6 | ⟨h6, h7⟩
    · rw [if_pos h6, if_neg (by rw [h5]; decide)]
      exact Or.inl rfl
    · rw [if_neg (by rw [h6]; decide)]
      exact Or.inr ⟨h6, h7⟩
  by_cases hk0 : K = 0
  · have hd : Dn L' K 0 false ⟨0, 0, 0, false, 0⟩ := ⟨rfl, by show 0 = K + 0; omega, rfl, Or.inl rfl⟩
    exact hK σ' (dn_run T _ _ _ hd _ _ h3)
  · have hs : Sy K 0 false ⟨0, 0, 0, false, 0⟩ ⟨0, 0, 0, false, 0⟩ := ⟨rfl, rfl, rfl, rfl, rfl, Or.inl (by show 0 < K; omega)⟩
    rcases sm_run T hE.none _ _ _ _ _ hs f σ f' σ' h1 h3 with h | h | ⟨h, rfl⟩
    · exact absurd h hgs
    · exact hK σ' h
    · exfalso
      obtain ⟨-, -, -, -, -, h7⟩ := h
      rcases h7 with h7 | ⟨h7, -⟩
      · have h0 := (T.same σ.k h7).2.2.2
        refine hgood ?_
        unfold kindS
        rw [if_neg h0]
        exact fail_bad _ _
      · cases h7
end Go.Proofs.YthiempadgehhlaaGreatDoor
namespace Go.Proofs.YthiempadgehhlaaGreatDoor
open Go.RowKit
/-- At the offset A of T stand the bytes of l from a on up to b, and a line feed, or nothing. -/
structure Ends (l T : List UInt8) (a A b : Nat) : Prop where
  le : b ≤ l.length
  lt : a < b
  same : ∀ j, j < b - a → T[A + j]? = l[a + j]?
  stop : T[A + (b - a)]? = some 10 ∨ T[A + (b - a)]? = none
theorem Ends.len {l T : List UInt8} {a A b : Nat} (h : Ends l T a A b) : A + (b - a) ≤ T.length := by
  have hlt := h.lt
  have hle := h.le
  have h1 := h.same (b - a - 1) (by omega)
  rw [List.getElem?_eq_getElem (show a + (b - a - 1) < l.length by omega)] at h1
  have := (List.getElem?_eq_some_iff.1 h1).1
  omega
theorem Ends.atf {l T : List UInt8} {a A b : Nat} (h : Ends l T a A b) {p : UInt8 → Bool} {j : Nat} (hj : j < b - a) : atF p T (A + j) = atF p l (a + j) := by unfold atF; rw [h.same j hj]
theorem Ends.byt {l T : List UInt8} {a A b : Nat} (h : Ends l T a A b) {j : Nat} (hj : j < b - a) : byt T (A + j) = byt l (a + j) := by unfold Go.Proofs.YthiempadgehhlaaGreatDoor.byt; rw [h.same j hj]
theorem Ends.atf_end {l T : List UInt8} {a A b : Nat} (h : Ends l T a A b) {p : UInt8 → Bool} (hp : p 10 = false) : atF p T (A + (b - a)) = false := by
  unfold atF
  rcases h.stop with e | e
  · rw [e]; exact hp
  · rw [e]
theorem Ends.span {l T : List UInt8} {a A b : Nat} (h : Ends l T a A b) {p : UInt8 → Bool} (hp : p 10 = false) : ∀ (n j : Nat), b - a - j = n → j ≤ b - a → span p l (a + j) ≤ b → span p T (A + j) = A + (span p l (a + j) - a)
  | 0, j, hn, hj, hs => by
    have hjb : j = b - a := by omega
    subst hjb
    have h1 := span_ge p l (a + (b - a))
    have h2 : Go.Proofs.YthiempadgehhlaaGreatDoor.span p T (A + (b - a)) = A + (b - a) := by
      rcases h.stop with e | e
      · obtain ⟨g1, g2⟩ := List.getElem?_eq_some_iff.1 e
        exact span_no g1 (by rw [g2]; exact hp)
      · exact span_end (List.getElem?_eq_none_iff.1 e)
    have := h.lt
    rw [h2]
    omega
  | n + 1, j, hn, hj, hs => by
    have hjb : j < b - a := by omega
    have hl : a + j < l.length := by have := h.le; omega
    have h1 := h.same j hjb
    rw [List.getElem?_eq_getElem hl] at h1
    obtain ⟨g1, g2⟩ := List.getElem?_eq_some_iff.1 h1
    cases hc : p l[a + j] with
    | true =>
      rw [span_in hl hc] at hs ⊢
      rw [span_in g1 (by rw [g2]; exact hc)]
      have := Ends.span h hp n (j + 1) (by omega) (by omega) (by rw [show a + (j + 1) = a + j + 1 by omega]; exact hs)
      rw [show A + (j + 1) = A + j + 1 by omega, show a + (j + 1) = a + j + 1 by omega] at this
      exact this
    | false =>
      rw [span_no hl hc, span_no g1 (by rw [g2]; exact hc)]
      omega
theorem Ends.sub {l T : List UInt8} {a A b : Nat} (h : Ends l T a A b) {i j : Nat} (hj : j ≤ b - a) : sub T (A + i) (A + j) = sub l (a + i) (a + j) := by
  unfold Go.Proofs.YthiempadgehhlaaGreatDoor.sub
  apply List.ext_getElem?
  intro k
  by_cases hk : k < j - i
  · rw [List.getElem?_take_of_lt (by omega), List.getElem?_take_of_lt (by omega), List.getElem?_drop, List.getElem?_drop]
    have := h.same (i + k) (by omega)
    rw [show A + i + k = A + (i + k) by omega, this]
    congr 1
    omega
  · rw [List.getElem?_eq_none (by simp; omega), List.getElem?_eq_none (by simp; omega)]
theorem Ends.named {l T : List UInt8} {a A b k d : Nat} (h : Ends l T a A b) (hd : d < b - a) (he : (namedP l k a (a + d)).e = 0) (hp : (namedP l k a (a + d)).p ≤ b) : namedP T k A (A + d) = ⟨movF (namedP l k a (a + d)).t A, A + ((namedP l k a (a + d)).p - a), 0⟩ := by
  obtain ⟨h1, h2, h3⟩ := namedP_ok (by have := h.le; omega) he
  rw [h1] at hp ⊢
  have hs : Go.Proofs.YthiempadgehhlaaGreatDoor.span nmdB l (a + d) ≤ b := hp
  have e1 := h.span (p := nmdB) (by decide) _ d rfl (by omega) hs
  have hge := span_ge nmdB l (a + d)
  unfold namedP
  rw [e1, if_neg (by omega)]
  have e2 : Go.Proofs.YthiempadgehhlaaGreatDoor.sub T (A + d) (A + (Go.Proofs.YthiempadgehhlaaGreatDoor.span nmdB l (a + d) - a)) = Go.Proofs.YthiempadgehhlaaGreatDoor.sub l (a + d) (Go.Proofs.YthiempadgehhlaaGreatDoor.span nmdB l (a + d)) := by
    rw [h.sub (by omega)]
    congr 1
    omega
  rw [e2]
  rfl
theorem Ends.pre {l T : List UInt8} {a A b : Nat} (h : Ends l T a A b) {t : List UInt8} (ht : t ∈ signsL) (hT : t.isPrefixOf (T.drop A) = true) : t.isPrefixOf (l.drop a) = true := by
  obtain ⟨r, hr⟩ := List.isPrefixOf_iff_prefix.1 hT
  have hat : ∀ j (hj : j < t.length), T[A + j]? = some t[j] := fun j hj => by
    have : (T.drop A)[j]? = some t[j] := by rw [← hr, List.getElem?_append_left hj, List.getElem?_eq_getElem hj]
    rw [List.getElem?_drop] at this
    exact this
  have hlen : t.length ≤ b - a := by
    rcases Nat.lt_or_ge (b - a) t.length with h1 | h1
    · have h2 := hat _ h1
      rcases h.stop with e | e
      · rw [e] at h2
        injection h2 with h2
        exact absurd h2.symm (signs_line t ht _ (List.getElem_mem h1))
      · rw [e] at h2
        cases h2
    · exact h1
  rw [List.isPrefixOf_iff_prefix, List.prefix_iff_eq_take]
  apply List.ext_getElem?
  intro j
  by_cases hj : j < t.length
  · rw [List.getElem?_take_of_lt hj, List.getElem?_drop, ← h.same j (by omega), hat j hj, List.getElem?_eq_getElem hj]
  · rw [List.getElem?_eq_none (by omega), List.getElem?_eq_none (by simp; omega)]
theorem Ends.pre_back {l T : List UInt8} {a A b : Nat} (h : Ends l T a A b) {t : List UInt8} (hl : t.isPrefixOf (l.drop a) = true) (hb : a + t.length ≤ b) : t.isPrefixOf (T.drop A) = true := by
  obtain ⟨r, hr⟩ := List.isPrefixOf_iff_prefix.1 hl
  rw [List.isPrefixOf_iff_prefix, List.prefix_iff_eq_take]
  apply List.ext_getElem?
  intro j
  by_cases hj : j < t.length
  · rw [List.getElem?_take_of_lt hj, List.getElem?_drop, h.same j (by omega), ← List.getElem?_drop, ← hr, List.getElem?_append_left hj]
  · rw [List.getElem?_eq_none (by omega), List.getElem?_eq_none (by simp; omega)]
/-- A TOKEN THAT ENDS BY THE OFFSET b READS THE SAME. -/
theorem Ends.tok {l T : List UInt8} {a A b : Nat} (h : Ends l T a A b) (he : (tokP l a).e = 0) (hp : (tokP l a).p ≤ b) : tokP T A = ⟨movF (tokP l a).t A, A + ((tokP l a).p - a), 0⟩ := by
  have hlt := h.lt
  have hle := h.le
  have hal : a < l.length := by omega
  have a0 : ∀ p : UInt8 → Bool, atF p T A = atF p l a := fun p => by have := h.atf (p := p) (j := 0) (by omega); simpa using this
  have b0 : Go.Proofs.YthiempadgehhlaaGreatDoor.byt T A = Go.Proofs.YthiempadgehhlaaGreatDoor.byt l a := by have := h.byt (j := 0) (by omega); simpa using this
  have a1 : atF nameB T (A + 1) = true → atF nameB l (a + 1) = true := fun g => by
    by_cases hb : 1 < b - a
    · rw [← h.atf hb]; exact g
    · have : b - a = 1 := by omega
      have h2 := h.atf_end (p := nameB) (by decide)
      rw [this] at h2
      rw [h2] at g
      cases g
  have a2 : 1 < b - a → atF nameB T (A + 1) = atF nameB l (a + 1) := fun hb => h.atf hb
  unfold tokP at he hp ⊢
  rw [a0, b0, a0]
  by_cases c0 : atF nameB l a = true
  · rw [if_pos c0] at he hp ⊢
    rw [if_pos c0]
    unfold wordFP at he hp ⊢
    have hn := h.named (k := wordK l a) (d := 0) (by omega) (by simpa using he) (by simpa using hp)
    simp only [Nat.add_zero] at hn
    have hw : wordK T A = wordK l a := by
      obtain ⟨g1, g2, g3⟩ := namedP_ok (Nat.le_of_lt hal) he
      rw [g1] at hp
      have hs : Go.Proofs.YthiempadgehhlaaGreatDoor.span nmdB l a ≤ b := hp
      have e1 := h.span (p := nmdB) (by decide) _ 0 rfl (by omega) (by simpa using hs)
      simp only [Nat.add_zero] at e1
      have e2 := h.sub (i := 0) (j := Go.Proofs.YthiempadgehhlaaGreatDoor.span nmdB l a - a) (by omega)
      simp only [Nat.add_zero] at e2
      have hge := span_ge nmdB l a
      rw [show a + (Go.Proofs.YthiempadgehhlaaGreatDoor.span nmdB l a - a) = Go.Proofs.YthiempadgehhlaaGreatDoor.span nmdB l a by omega] at e2
      unfold wordK
      rw [e1, e2]
    rw [hw]
    exact hn
  · rw [if_neg c0] at he hp ⊢
    rw [if_neg c0]
    by_cases c36 : Go.Proofs.YthiempadgehhlaaGreatDoor.byt l a = 36 ∧ atF nameB l (a + 1) = true
    · rw [if_pos c36] at he hp ⊢
      obtain ⟨g1, -, -⟩ := namedP_ok (by omega) he
      have hs := (name_step c36.2).2
      have hb1 : 1 < b - a := by
        have : (namedP l 3 a (a + 1)).p = Go.Proofs.YthiempadgehhlaaGreatDoor.span nmdB l (a + 1) := by rw [g1]; rfl
        omega
      rw [if_pos ⟨c36.1, by rw [a2 hb1]; exact c36.2⟩]
      exact h.named hb1 he hp
    · rw [if_neg c36] at he hp ⊢
      rw [if_neg (fun g => c36 ⟨g.1, a1 g.2⟩)]
      by_cases c46 : Go.Proofs.YthiempadgehhlaaGreatDoor.byt l a = 46 ∧ atF nameB l (a + 1) = true
      · rw [if_pos c46] at he hp ⊢
        obtain ⟨g1, -, -⟩ := namedP_ok (by omega) he
        have hs := (name_step c46.2).2
        have hb1 : 1 < b - a := by
          have : (namedP l 4 a (a + 1)).p = Go.Proofs.YthiempadgehhlaaGreatDoor.span nmdB l (a + 1) := by rw [g1]; rfl
          omega
        rw [if_pos ⟨c46.1, by rw [a2 hb1]; exact c46.2⟩]
        exact h.named hb1 he hp
      · rw [if_neg c46] at he hp ⊢
        rw [if_neg (fun g => c46 ⟨g.1, a1 g.2⟩)]
        by_cases cd : atF digB l a = true
        · rw [if_pos cd] at he hp ⊢
          rw [if_pos cd]
          obtain ⟨t, hts⟩ : ∃ t, Go.Proofs.YthiempadgehhlaaGreatDoor.span digB l a = t := ⟨_, rfl⟩
          have hst := (dig_step cd).2
          unfold numFP at he hp ⊢
          rw [hts] at he hp hst ⊢
          by_cases n1 : Go.Proofs.YthiempadgehhlaaGreatDoor.byt l a = 48 ∧ a + 1 < t
          · rw [if_pos n1] at he; cases he
          · rw [if_neg n1] at he hp ⊢
            by_cases n2 : (atF nameB l t || fracB l t) = true
            · rw [if_pos n2] at he; cases he
            · rw [if_neg n2] at he hp ⊢
              cases ho : fitP false (natF 0 (Go.Proofs.YthiempadgehhlaaGreatDoor.sub l a t)) with
              | none => rw [ho] at he; cases he
              | some v =>
                rw [ho] at hp
                have htb : t ≤ b := hp
                have e1 := h.span (p := digB) (by decide) _ 0 rfl (by omega) (by simp only [Nat.add_zero]; rw [hts]; exact htb)
                simp only [Nat.add_zero] at e1
                rw [hts] at e1
                have e2 := h.sub (i := 0) (j := t - a) (by omega)
                simp only [Nat.add_zero] at e2
                rw [show a + (t - a) = t by omega] at e2
                have n3 : atF nameB l t = false ∧ fracB l t = false := by
                  cases x1 : atF nameB l t <;> cases x2 : fracB l t <;> simp_all
                have m3 : (atF nameB T (A + (t - a)) || fracB T (A + (t - a))) = false := by
                  by_cases ht2 : t < b
                  · have e3 := h.atf (p := nameB) (j := t - a) (by omega)
                    rw [show a + (t - a) = t by omega, n3.1] at e3
                    have e4 := h.byt (j := t - a) (by omega)
                    rw [show a + (t - a) = t by omega] at e4
                    rw [e3, Bool.false_or]
                    have n4 := n3.2
                    unfold fracB at n4 ⊢
                    rw [e4]
                    by_cases h46 : Go.Proofs.YthiempadgehhlaaGreatDoor.byt l t = 46
                    · rw [decide_eq_true h46, Bool.true_and] at n4 ⊢
                      by_cases ht3 : t + 1 < b
                      · have e5 := h.atf (p := digB) (j := t + 1 - a) (by omega)
                        rw [show a + (t + 1 - a) = t + 1 by omega, n4] at e5
                        rw [show A + (t - a) + 1 = A + (t + 1 - a) by omega]
                        exact e5
                      · have e5 := h.atf_end (p := digB) (by decide)
                        rw [show A + (t - a) + 1 = A + (b - a) by omega]
                        exact e5
                    · rw [decide_eq_false h46, Bool.false_and]
                  · have ht3 : t = b := by omega
                    subst ht3
                    rw [h.atf_end (by decide), Bool.false_or]
                    unfold fracB
                    have : ¬ Go.Proofs.YthiempadgehhlaaGreatDoor.byt T (A + (t - a)) = 46 := by
                      unfold Go.Proofs.YthiempadgehhlaaGreatDoor.byt
                      rcases h.stop with e | e
                      · rw [e]; decide
                      · rw [e]; decide
                    rw [decide_eq_false this]
                    rfl
                rw [e1, b0, if_neg (fun g => n1 ⟨g.1, by omega⟩), if_neg (by rw [m3]; exact Bool.false_ne_true), e2, ho]
                rfl
        · rw [if_neg cd] at he hp ⊢
          rw [if_neg cd]
          by_cases c34 : Go.Proofs.YthiempadgehhlaaGreatDoor.byt l a = 34
          · rw [if_pos c34] at he hp ⊢
            rw [if_pos c34]
            have hx : ∀ (L : List UInt8) (k : Nat), k < L.length → Go.Proofs.YthiempadgehhlaaGreatDoor.byt L k = 34 → lexP L (k : Int) = strP L k := fun L k hk hb => by
              have hbk := byt_at hk
              rw [hb] at hbk
              have hbl : Go.Proofs.YthiempadgehhlaaGreatDoor.span blankB L k = k := span_no hk (by unfold blankB; simp; omega)
              have hg : L[k]?.getD 0 = L[k] := by rw [List.getElem?_eq_getElem hk]; rfl
              unfold lexP
              rw [if_neg (by omega), Int.toNat_natCast, hbl]
              unfold lexN
              rw [if_neg (by omega), hg, if_neg (by unfold signB; simp; omega), if_neg (by unfold letB; simp; omega), hb, if_neg (by unfold digB; simp; omega), if_pos rfl]
            unfold strFP at he hp ⊢
            rw [hx l a hal c34] at he hp ⊢
            rw [hx T A (by have := h.len; omega) (b0.trans c34)]
            unfold strP at he hp ⊢
            by_cases s0 : (strF l a (l.length - a) (a + 1) []).e = 0
            · rw [if_pos s0] at hp ⊢
              have hlen := h.len
              obtain ⟨e1, -⟩ := strF_loc h.same (l.length - a) (a + 1) [] (T.length - A) (by omega) s0 hp (by omega)
              rw [show A + (a + 1 - a) = A + 1 by omega] at e1
              rw [e1]
              rfl
            · rw [if_neg s0] at he
              exact absurd he s0
          · rw [if_neg c34] at he hp ⊢
            rw [if_neg c34]
            obtain ⟨t, g1, g2, g3, g4⟩ := signFP_ok he
            rw [g2] at hp ⊢
            have hb : a + t.length ≤ b := hp
            have g5 := List.find?_some g1
            have g6 : signsL.find? (fun t => t.isPrefixOf (T.drop A)) = some t := find_loc g1 (fun x hx hq => h.pre hx hq) (h.pre_back g5 hb)
            unfold signFP
            rw [g6]
            show okF 7 A (bsF t) 0 (A + t.length) = ⟨movF ⟨7, a, bsF t, 0⟩ A, A + (a + t.length - a), 0⟩
            rw [show a + t.length - a = t.length by omega]
            rfl
end Go.Proofs.YthiempadgehhlaaGreatDoor
namespace Go.Proofs.YthiempadgehhlaaGreatDoor
open Go.RowKit
theorem eat_cut : ∀ (c : Bool) (x y r : List UInt8), eat c (x ++ y) = r ++ y → eat c x = r
  | c, [], y, r, h => by
    have h1 := congrArg List.length h
    have h2 := eat_len c ([] ++ y)
    simp at h1 h2
    have : r = [] := List.eq_nil_of_length_eq_zero (by omega)
    subst this
    cases c <;> rfl
  | true, b :: x, y, r, h => by
    rw [List.cons_append, eat] at h
    rw [eat]
    split at h
    · rename_i hb
      rw [if_pos hb]
      exact eat_cut false x y r h
    · rename_i hb
      rw [if_neg hb]
      exact eat_cut true x y r h
  | false, b :: x, y, r, h => by
    rw [List.cons_append, eat] at h
    rw [eat]
    split at h
    · rename_i hb
      rw [if_pos hb]
      exact eat_cut false x y r h
    · rename_i hb
      rw [if_neg hb]
      split at h
      · rename_i hc
        rw [if_pos hc]
        exact eat_cut true x y r h
      · rename_i hc
        rw [if_neg hc]
        rw [← List.cons_append] at h
        exact List.append_cancel_right h
theorem gap_cut {l : List UInt8} {p c : Nat} (hp : p ≤ l.length) (hc : gapP l p ≤ c) (hl : c ≤ l.length) : gapP (l.take c) p = gapP l p := by
  have h1 := gap_drop hp
  have h2 := gap_ge hp
  have h3 : l.drop p = (l.take c).drop p ++ l.drop c := by
    rw [← List.drop_append_of_le_length (by simp; omega), List.take_append_drop]
  have h4 : l.drop (gapP l p) = (l.take c).drop (gapP l p) ++ l.drop c := by
    rw [← List.drop_append_of_le_length (by simp; omega), List.take_append_drop]
  rw [h3, h4] at h1
  have h5 := eat_cut false _ _ _ h1.symm
  rw [gapP, h5]
  simp
  omega
theorem first_pos {l : List UInt8} {vs : List Fk} (h : lexFP l = ⟨some (vs ++ [endK l]), 0, 0⟩) : gapP l 0 = posF vs l.length 0 := by
  unfold lexFP at h
  by_cases h1 : 8192 < l.length
  · rw [if_pos h1] at h; cases h
  · rw [if_neg h1, lexF] at h
    have hle := gap_le l 0
    by_cases h2 : gapP l 0 < l.length
    · rw [if_pos h2, if_neg (by simp)] at h
      by_cases h3 : (tokP l (gapP l 0)).e = 0
      · rw [if_pos h3] at h
        obtain ⟨g1, -⟩ := tok_good h2 h3
        obtain ⟨vs2, e1, -, e3⟩ := lexF_good _ _ _ _ (gap_le _ _) ((OAt.start l _).next h2 h3) h
        have e4 := List.append_cancel_right e1
        subst e4
        have e5 := e3 (tokP l (gapP l 0)).t (by simp)
        rw [posF_in e5, g1]
      · rw [if_neg h3] at h; cases h
    · rw [if_neg h2] at h
      injection h with h
      injection h with h
      have h5 := congrArg List.length h
      simp only [List.length_append, List.length_cons, List.length_nil] at h5
      have : vs = [] := List.eq_nil_of_length_eq_zero (by omega)
      subst this
      rw [posF_out (by simp)]
      omega
section
variable {l : List UInt8} {vs : List Fk} (hO : OAt l l.length vs) (hT : TAt l l.length vs) (hn : vs.length ≤ 2048) (hl : l.length ≤ 8192) (h0 : gapP l 0 = posF vs l.length 0)
include hO
theorem pos_mono : ∀ (n j : Nat), j + n ≤ vs.length → posF vs l.length j ≤ posF vs l.length (j + n)
  | 0, j, h => Nat.le_refl _
  | n + 1, j, h => by
    have h1 := pos_mono n j (by omega)
    have h2 := (pos_step hO (show j + n < vs.length by omega)).1
    rw [show j + (n + 1) = j + n + 1 by omega]
    omega
theorem pos_len {j : Nat} (h : j ≤ vs.length) : posF vs l.length j ≤ l.length := by
  by_cases h1 : j < vs.length
  · have := pos_step hO h1
    omega
  · rw [posF_out (by omega)]
    exact Nat.le_refl _
include hT hn hl h0
theorem cut_at {k : Nat} (hk : k ≤ vs.length) : ∀ j, j ≤ k → FAt (l.take (posF vs l.length k)) (posF vs l.length j) (vs.take j)
  | 0, hj => by
    have hc := pos_len hO hk
    have hm := pos_mono hO k 0 (by omega)
    rw [Nat.zero_add] at hm
    have hs := FAt.start (l := l.take (posF vs l.length k)) (by rw [List.length_take]; omega)
    have hg : gapP l 0 ≤ posF vs l.length k := by rw [h0]; exact hm
    rw [gap_cut (Nat.zero_le _) hg hc, h0] at hs
    exact hs
  | j + 1, hj => by
    have hc := pos_len hO hk
    have ih := cut_at hk j (by omega)
    obtain ⟨x, hx⟩ : ∃ x, vs[j]? = some x := ⟨_, List.getElem?_eq_getElem (by omega)⟩
    obtain ⟨h1, h2, h3, h4⟩ := hT j x hx
    obtain ⟨g1, g2⟩ := tok_ok h1 h2
    have g3 := gap_ge g2
    have hm := pos_mono hO (k - (j + 1)) (j + 1) (by omega)
    rw [show j + 1 + (k - (j + 1)) = k by omega, ← h4] at hm
    rw [posF_in hx] at ih
    generalize hcc : posF vs l.length k = c at hc hm ih ⊢
    have hE : Ends l (l.take c) x.o x.o c := ⟨hc, by omega, fun i hi => by rw [List.getElem?_take_of_lt (by omega)], Or.inr (by rw [List.getElem?_eq_none]; simp; omega)⟩
    have ht := hE.tok h2 (by omega)
    rw [h3] at ht
    have hn2 := ih.next (by simp; omega) (by simp; omega) (by rw [ht])
    rw [ht] at hn2
    dsimp only at hn2
    rw [show x.o + ((tokP l x.o).p - x.o) = (tokP l x.o).p by omega, gap_cut g2 hm hc, h4] at hn2
    have := hn2.1
    rw [List.take_add_one, hx]
    exact this
theorem lex_cut {k : Nat} (hk : k ≤ vs.length) : lexFP (l.take (posF vs l.length k)) = ⟨some (vs.take k ++ [endK (l.take (posF vs l.length k))]), 0, 0⟩ := by
  have h := cut_at hO hT hn hl h0 hk k (Nat.le_refl _)
  exact h.done (by simp; omega)
end
theorem tk_at {us : List Fk} {j : Nat} {t : Fk} (h : us[j]? = some t) : tk us j = t := by unfold tk; rw [h]; rfl
/-- WHERE A FILTER IS WELL-FORMED, A BEGINNING THAT ENDS AT A TOKEN IS, TOO, OR ENDS TOO EARLY. -/
theorem prefix_ok {l : List UInt8} {us : List Fk} (hlex : lexFP l = ⟨some us, 0, 0⟩) (hp : (parseP l).2.2 = 0) {k : Nat} {t : Fk} (ht : us[k]? = some t) :
    t.o ≤ l.length ∧ ((parseP (l.take t.o)).2.2 = 0 ∨ (parseP (l.take t.o)).2.2 = 5 ∧ (parseP (l.take t.o)).2.1 = (l.take t.o).length) := by
  obtain ⟨hE, -, hlen, -⟩ := lex_tok hlex
  obtain ⟨hl, -⟩ := lexFP_good hlex
  obtain ⟨vs, rfl, hO, hT⟩ := lexFP_toks hlex
  have hk : k ≤ vs.length := by
    have := (List.getElem?_eq_some_iff.1 ht).1
    simp at this
    omega
  have hto : t.o = posF vs l.length k := by
    by_cases h1 : k < vs.length
    · rw [List.getElem?_append_left h1] at ht
      rw [posF_in ht]
    · have h2 : k = vs.length := by omega
      subst h2
      rw [List.getElem?_append_right (Nat.le_refl _)] at ht
      simp at ht
      rw [posF_out (Nat.le_refl _), ← ht]
      rfl
  have hcut := lex_cut hO hT (by simp at hlen; omega) hl (first_pos hlex) hk
  have hc := pos_len hO hk
  rw [hto]
  refine ⟨hc, ?_⟩
  generalize posF vs l.length k = c at hcut hc ⊢
  obtain ⟨hE2, -⟩ := lex_tok hcut
  have hkt : tk (vs.take k ++ [endK (l.take c)]) k = endK (l.take c) := by
    refine tk_at ?_
    rw [List.getElem?_append_right (by simp; omega)]
    simp
    rw [show k - min k vs.length = 0 by omega]
    rfl
  have T : Two (vs ++ [endK l]) (vs.take k ++ [endK (l.take c)]) k 0 false ⟨#[41]⟩ := by
    refine ⟨fun j hj => ?_, (fun h => by cases h), Or.inl rfl, fun _ => ?_⟩
    · obtain ⟨x, hx⟩ : ∃ x, vs[j]? = some x := ⟨_, List.getElem?_eq_getElem (by omega)⟩
      have h1 : tk (vs ++ [endK l]) j = x := tk_at (by rw [List.getElem?_append_left (by omega)]; exact hx)
      have h2 : tk (vs.take k ++ [endK (l.take c)]) (j + 0) = x := tk_at (by rw [Nat.add_zero, List.getElem?_append_left (by simp; omega), List.getElem?_take_of_lt hj]; exact hx)
      rw [h1, h2]
      have := (hO j x hx).low
      exact ⟨rfl, rfl, rfl, by omega⟩
    · rw [Nat.add_zero, hkt]
      exact ⟨rfl, rfl, by simp; omega⟩
  unfold parseP at hp ⊢
  rw [hlex] at hp
  rw [hcut]
  dsimp only at hp ⊢
  have := parse_cut T hE hE2 hp (by simp; omega)
  rw [hkt] at this
  exact this
end Go.Proofs.YthiempadgehhlaaGreatDoor
