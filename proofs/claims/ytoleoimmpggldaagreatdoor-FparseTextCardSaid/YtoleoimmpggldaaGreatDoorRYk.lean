import Derived.Test.YtoleoimmpggldaaGreatDoorRP
import Derived.Test.YtoleoimmpggldaaGreatDoorRYi
import Derived.Test.YtoleoimmpggldaaGreatDoorRYg
import Derived.Test.YtoleoimmpggldaaGreatDoorRYe
import Derived.Test.YtoleoimmpggldaaGreatDoorRYc
import Derived.Test.YtoleoimmpggldaaGreatDoorHP
import Derived.Test.YtoleoimmpggldaaGreatDoorQJ
import Derived.BigRegion
set_option linter.unusedVariables false
set_option linter.unusedSimpArgs false
set_option linter.unusedSectionVars false
set_option maxHeartbeats 10000000
set_option maxRecDepth 100000
namespace Go.Proofs.YtoleoimmpggldaaGreatDoor.Rx
open Go.RowKit
def Lg {α : Type} (x : Option (α × PS)) : Prop := ∀ a σ, x = some (a, σ) → σ.long ≤ 8193
theorem Lg.none {α : Type} : Lg (Option.none : Option (α × PS)) := fun a σ h => by cases h
theorem Lg.mk {α : Type} {a : α} {σ : PS} (h : σ.long ≤ 8193) : Lg (some (a, σ)) := by
 intro a' σ' h';injection h' with h'
 injection h' with h1 h2
 subst h2;exact h
theorem Lg.bnd {α β : Type} {x : Option (α × PS)} {f : α → PS → Option (β × PS)} (h : Lg x) (hf : ∀ a σ, σ.long ≤ 8193 → Lg (f a σ)) : Lg (bnd x f) := by
 intro b τ h';obtain ⟨a, σ, h1, h2⟩ := bnd_some h';exact hf a σ (h a σ h1) b τ h2
theorem Lg.ite {α : Type} {P : Prop} [Decidable P] {a b : Option (α × PS)} (h1 : P → Lg a) (h2 : ¬ P → Lg b) : Lg (if P then a else b) := by
 split
 · exact h1 ‹_›
 · exact h2 ‹_›
section
variable {L : List Fk}
theorem adv_long {σ : PS} : (adv σ).long = σ.long := rfl
theorem wr_long {σ : PS} : (wr σ).long = σ.long := rfl
theorem need_long {x : ByteArray} {σ : PS} : (needP L x σ).long = σ.long := by unfold needP; split <;> rfl
theorem kind_long {K : Nat} {σ : PS} : (kindS L K σ).long = σ.long := by unfold kindS; split <;> rfl
theorem lg_pair {l r : PM} {op : Int} {sg : List ByteArray} (h1 : ∀ σ, σ.long ≤ 8193 → Lg (l σ)) (h2 : ∀ σ, σ.long ≤ 8193 → Lg (r σ)) : ∀ σ, σ.long ≤ 8193 → Lg (pairM L l r op sg σ) := by
 intro σ hs;unfold pairM
 repeat' (first | (with_reducible exact Lg.none) | ((with_reducible refine Lg.mk ?_); ((try simp only [adv_long, wr_long, need_long, kind_long]); assumption)) | ((with_reducible refine Lg.ite ?_ ?_) <;> intro _) | with_reducible refine Lg.bnd ?_ (fun a σ h => ?_))
 · exact h1 _ hs
 · exact h2 _ (by ((try simp only [adv_long, wr_long, need_long, kind_long]); assumption))
theorem lg_chainL {m : PM} {op : Int} {sg : List ByteArray} (h1 : ∀ σ, σ.long ≤ 8193 → Lg (m σ)) : ∀ n f σ, σ.long ≤ 8193 → Lg (chainL L m op sg n f σ)
 | 0, f, σ, hs => Lg.none
 | n + 1, f, σ, hs => by
  unfold chainL
  repeat' (first | (with_reducible exact Lg.none) | ((with_reducible refine Lg.mk ?_); ((try simp only [adv_long, wr_long, need_long, kind_long]); assumption)) | ((with_reducible refine Lg.ite ?_ ?_) <;> intro _) | with_reducible refine Lg.bnd ?_ (fun a σ h => ?_))
  · exact h1 _ (by ((try simp only [adv_long, wr_long, need_long, kind_long]); assumption))
  · exact lg_chainL h1 n _ _ (by assumption)
theorem lg_chain {m : PM} {op : Int} {sg : List ByteArray} {n : Nat} (h1 : ∀ σ, σ.long ≤ 8193 → Lg (m σ)) : ∀ σ, σ.long ≤ 8193 → Lg (chainM L m op sg n σ) := by
 intro σ hs;unfold chainM
 repeat' (first | (with_reducible exact Lg.none) | ((with_reducible refine Lg.mk ?_); ((try simp only [adv_long, wr_long, need_long, kind_long]); assumption)) | ((with_reducible refine Lg.ite ?_ ?_) <;> intro _) | with_reducible refine Lg.bnd ?_ (fun a σ h => ?_))
 · exact h1 _ hs
 · exact lg_chainL h1 _ _ _ (by assumption)
theorem lg_listL {α : Type} {m : PS → Option (α × PS)} (h1 : ∀ σ, σ.long ≤ 8193 → Lg (m σ)) : ∀ n l σ, σ.long ≤ 8193 → Lg (listL L m n l σ)
 | 0, l, σ, hs => Lg.none
 | n + 1, l, σ, hs => by
  unfold listL
  repeat' (first | (with_reducible exact Lg.none) | ((with_reducible refine Lg.mk ?_); ((try simp only [adv_long, wr_long, need_long, kind_long]); assumption)) | ((with_reducible refine Lg.ite ?_ ?_) <;> intro _) | with_reducible refine Lg.bnd ?_ (fun a σ h => ?_))
  · exact h1 _ (by ((try simp only [adv_long, wr_long, need_long, kind_long]); assumption))
  · exact lg_listL h1 n _ _ (by assumption)
theorem lg_list {α : Type} {m : PS → Option (α × PS)} {n : Nat} (h1 : ∀ σ, σ.long ≤ 8193 → Lg (m σ)) : ∀ σ, σ.long ≤ 8193 → Lg (listM L m n σ) := by
 intro σ hs;unfold listM
 repeat' (first | (with_reducible exact Lg.none) | ((with_reducible refine Lg.mk ?_); ((try simp only [adv_long, wr_long, need_long, kind_long]); assumption)) | ((with_reducible refine Lg.ite ?_ ?_) <;> intro _) | with_reducible refine Lg.bnd ?_ (fun a σ h => ?_))
 · exact h1 _ hs
 · exact lg_listL h1 _ _ _ (by assumption)
variable {call : Ru → PM} {n : Nat} (hc : ∀ r σ, σ.long ≤ 8193 → Lg (call r σ))
include hc
theorem lg_before {x : ByteArray} : ∀ σ, σ.long ≤ 8193 → Lg (beforeM L call x σ) := by
 intro σ hs;unfold beforeM
 repeat' (first | (with_reducible exact Lg.none) | ((with_reducible refine Lg.mk ?_); ((try simp only [adv_long, wr_long, need_long, kind_long]); assumption)) | ((with_reducible refine Lg.ite ?_ ?_) <;> intro _) | with_reducible refine Lg.bnd ?_ (fun a σ h => ?_))
 exact hc _ _ (by ((try simp only [adv_long, wr_long, need_long, kind_long]); assumption))
theorem lg_scope {op : Int} {subs : List Ft} : ∀ σ, σ.long ≤ 8193 → Lg (scopeM L call op subs σ) := by
 intro σ hs;unfold scopeM
 repeat' (first | (with_reducible exact Lg.none) | ((with_reducible refine Lg.mk ?_); ((try simp only [adv_long, wr_long, need_long, kind_long]); assumption)) | ((with_reducible refine Lg.ite ?_ ?_) <;> intro _) | with_reducible refine Lg.bnd ?_ (fun a σ h => ?_))
 exact hc _ _ (by ((try simp only [adv_long, wr_long, need_long, kind_long]); assumption))
omit hc in
theorem lg_param : ∀ σ, σ.long ≤ 8193 → Lg (paramM L σ) := by
 intro σ hs;unfold paramM
 repeat' (first | (with_reducible exact Lg.none) | ((with_reducible refine Lg.mk ?_); ((try simp only [adv_long, wr_long, need_long, kind_long]); assumption)) | ((with_reducible refine Lg.ite ?_ ?_) <;> intro _) | with_reducible refine Lg.bnd ?_ (fun a σ h => ?_))
omit hc in
theorem lg_params : ∀ σ, σ.long ≤ 8193 → Lg (paramsM L n σ) := by
 intro σ hs;unfold paramsM
 repeat' (first | (with_reducible exact Lg.none) | ((with_reducible refine Lg.mk ?_); ((try simp only [adv_long, wr_long, need_long, kind_long]); assumption)) | ((with_reducible refine Lg.ite ?_ ?_) <;> intro _) | with_reducible refine Lg.bnd ?_ (fun a σ h => ?_))
 exact lg_list lg_param _ (by ((try simp only [adv_long, wr_long, need_long, kind_long]); assumption))
omit hc in
theorem kindT_o (hO : ∀ k, (tk L k).o ≤ 8192) {K : Nat} {σ : PS} : (kindT L K σ).o ≤ 8192 := by
 unfold kindT
 split
 · exact hO _
 · exact Nat.zero_le _
omit hc in
theorem long_long {ps : List ByteArray} {o : Nat} {σ : PS} (ho : o ≤ 8192) (hs : σ.long ≤ 8193) : (longP ps o σ).long ≤ 8193 := by
 unfold longP
 split
 · show o + 1 ≤ 8193; omega
 · exact hs
theorem lg_def (hO : ∀ k, (tk L k).o ≤ 8192) : ∀ σ, σ.long ≤ 8193 → Lg (defM L call n σ) := by
 intro σ hs;unfold defM
 repeat' (first | (with_reducible exact Lg.none) | ((with_reducible refine Lg.mk ?_); ((try simp only [adv_long, wr_long, need_long, kind_long]); assumption)) | ((with_reducible refine Lg.ite ?_ ?_) <;> intro _) | with_reducible refine Lg.bnd ?_ (fun a σ h => ?_))
 · exact lg_params _ (by ((try simp only [adv_long, wr_long, need_long, kind_long]); assumption))
 · exact hc _ _ (by rw [need_long]; exact long_long (kindT_o hO) (by assumption))
 · exact hc _ _ (by ((try simp only [adv_long, wr_long, need_long, kind_long]); assumption))
theorem lg_bracket {f : Ft} : ∀ σ, σ.long ≤ 8193 → Lg (bracketM L call f σ) := by
 intro σ hs;unfold bracketM
 repeat' (first | (with_reducible exact Lg.none) | ((with_reducible refine Lg.mk ?_); ((try simp only [adv_long, wr_long, need_long, kind_long]); assumption)) | ((with_reducible refine Lg.ite ?_ ?_) <;> intro _) | with_reducible refine Lg.bnd ?_ (fun a σ h => ?_))
 all_goals first
  | exact lg_before hc _ (by ((try simp only [adv_long, wr_long, need_long, kind_long]); assumption))
  | exact hc _ _ (by ((try simp only [adv_long, wr_long, need_long, kind_long]); assumption))
theorem lg_post : ∀ m f σ, σ.long ≤ 8193 → Lg (postL L call m f σ)
 | 0, f, σ, hs => Lg.none
 | m + 1, f, σ, hs => by
  unfold postL
  repeat' (first | (with_reducible exact Lg.none) | ((with_reducible refine Lg.mk ?_); ((try simp only [adv_long, wr_long, need_long, kind_long]); assumption)) | ((with_reducible refine Lg.ite ?_ ?_) <;> intro _) | with_reducible refine Lg.bnd ?_ (fun a σ h => ?_))
  all_goals first
   | exact lg_bracket hc _ (by ((try simp only [adv_long, wr_long, need_long, kind_long]); assumption))
   | exact lg_post m _ _ (by ((try simp only [adv_long, wr_long, need_long, kind_long]); assumption))
theorem lg_entry {l : List Ft} : ∀ σ, σ.long ≤ 8193 → Lg (entryM L call l σ) := by
 intro σ hs;unfold entryM
 repeat' (first | (with_reducible exact Lg.none) | ((with_reducible refine Lg.mk ?_); ((try simp only [adv_long, wr_long, need_long, kind_long]); assumption)) | ((with_reducible refine Lg.ite ?_ ?_) <;> intro _) | with_reducible refine Lg.bnd ?_ (fun a σ h => ?_))
 all_goals exact hc _ _ (by ((try simp only [adv_long, wr_long, need_long, kind_long]); assumption))
theorem lg_obj : ∀ m l σ, σ.long ≤ 8193 → Lg (objL L call m l σ)
 | 0, l, σ, hs => Lg.none
 | m + 1, l, σ, hs => by
  unfold objL
  repeat' (first | (with_reducible exact Lg.none) | ((with_reducible refine Lg.mk ?_); ((try simp only [adv_long, wr_long, need_long, kind_long]); assumption)) | ((with_reducible refine Lg.ite ?_ ?_) <;> intro _) | with_reducible refine Lg.bnd ?_ (fun a σ h => ?_))
  all_goals first
   | exact lg_entry hc _ (by ((try simp only [adv_long, wr_long, need_long, kind_long]); assumption))
   | exact lg_obj m _ _ (by ((try simp only [adv_long, wr_long, need_long, kind_long]); assumption))
theorem lg_call {s : ByteArray} : ∀ σ, σ.long ≤ 8193 → Lg (callM L call n s σ) := by
 intro σ hs;unfold callM
 repeat' (first | (with_reducible exact Lg.none) | ((with_reducible refine Lg.mk ?_); ((try simp only [adv_long, wr_long, need_long, kind_long]); assumption)) | ((with_reducible refine Lg.ite ?_ ?_) <;> intro _) | with_reducible refine Lg.bnd ?_ (fun a σ h => ?_))
 exact lg_list (hc _) _ (by ((try simp only [adv_long, wr_long, need_long, kind_long]); assumption))
theorem lg_signed {s : ByteArray} : ∀ σ, σ.long ≤ 8193 → Lg (signedM L call n s σ) := by
 intro σ hs;unfold signedM
 repeat' (first | (with_reducible exact Lg.none) | ((with_reducible refine Lg.mk ?_); ((try simp only [adv_long, wr_long, need_long, kind_long]); assumption)) | ((with_reducible refine Lg.ite ?_ ?_) <;> intro _) | with_reducible refine Lg.bnd ?_ (fun a σ h => ?_))
 all_goals first
  | exact lg_before hc _ (by ((try simp only [adv_long, wr_long, need_long, kind_long]); assumption))
  | exact lg_entry hc _ (by ((try simp only [adv_long, wr_long, need_long, kind_long]); assumption))
  | exact lg_obj hc _ _ _ (by ((try simp only [adv_long, wr_long, need_long, kind_long]); assumption))
theorem lg_branch : ∀ σ, σ.long ≤ 8193 → Lg (branchM L call σ) := by
 intro σ hs;unfold branchM
 repeat' (first | (with_reducible exact Lg.none) | ((with_reducible refine Lg.mk ?_); ((try simp only [adv_long, wr_long, need_long, kind_long]); assumption)) | ((with_reducible refine Lg.ite ?_ ?_) <;> intro _) | with_reducible refine Lg.bnd ?_ (fun a σ h => ?_))
 all_goals exact hc _ _ (by ((try simp only [adv_long, wr_long, need_long, kind_long]); assumption))
theorem lg_loop {b : Bool} : ∀ σ, σ.long ≤ 8193 → Lg (loopM L call b σ) := by
 intro σ hs;unfold loopM
 repeat' (first | (with_reducible exact Lg.none) | ((with_reducible refine Lg.mk ?_); ((try simp only [adv_long, wr_long, need_long, kind_long]); assumption)) | ((with_reducible refine Lg.ite ?_ ?_) <;> intro _) | with_reducible refine Lg.bnd ?_ (fun a σ h => ?_))
 all_goals exact hc _ _ (by ((try simp only [adv_long, wr_long, need_long, kind_long]); assumption))
theorem lg_keyed {s : ByteArray} : ∀ σ, σ.long ≤ 8193 → Lg (keyedM L call s σ) := by
 intro σ hs;unfold keyedM
 repeat' (first | (with_reducible exact Lg.none) | ((with_reducible refine Lg.mk ?_); ((try simp only [adv_long, wr_long, need_long, kind_long]); assumption)) | ((with_reducible refine Lg.ite ?_ ?_) <;> intro _) | with_reducible refine Lg.bnd ?_ (fun a σ h => ?_))
 all_goals first
  | exact lg_loop hc _ (by ((try simp only [adv_long, wr_long, need_long, kind_long]); assumption))
  | exact hc _ _ (by ((try simp only [adv_long, wr_long, need_long, kind_long]); assumption))
theorem lg_prim : ∀ σ, σ.long ≤ 8193 → Lg (primM L call n σ) := by
 intro σ hs;unfold primM
 repeat' (first | (with_reducible exact Lg.none) | ((with_reducible refine Lg.mk ?_); ((try simp only [adv_long, wr_long, need_long, kind_long]); assumption)) | ((with_reducible refine Lg.ite ?_ ?_) <;> intro _) | with_reducible refine Lg.bnd ?_ (fun a σ h => ?_))
 all_goals first
  | exact lg_call hc _ (by ((try simp only [adv_long, wr_long, need_long, kind_long]); assumption))
  | exact lg_signed hc _ (by ((try simp only [adv_long, wr_long, need_long, kind_long]); assumption))
  | exact lg_keyed hc _ (by ((try simp only [adv_long, wr_long, need_long, kind_long]); assumption))
theorem lg_oper (hO : ∀ k, (tk L k).o ≤ 8192) : ∀ σ, σ.long ≤ 8193 → Lg (operM L call n σ) := by
 intro σ hs;unfold operM
 repeat' (first | (with_reducible exact Lg.none) | ((with_reducible refine Lg.mk ?_); ((try simp only [adv_long, wr_long, need_long, kind_long]); assumption)) | ((with_reducible refine Lg.ite ?_ ?_) <;> intro _) | with_reducible refine Lg.bnd ?_ (fun a σ h => ?_))
 all_goals first
  | exact lg_scope hc _ (by ((try simp only [adv_long, wr_long, need_long, kind_long]); assumption))
  | exact lg_def hc hO _ (by ((try simp only [adv_long, wr_long, need_long, kind_long]); assumption))
  | exact hc _ _ (by ((try simp only [adv_long, wr_long, need_long, kind_long]); assumption))
theorem lg_unary : ∀ σ, σ.long ≤ 8193 → Lg (unaryM L call σ) := by
 intro σ hs;unfold unaryM
 repeat' (first | (with_reducible exact Lg.none) | ((with_reducible refine Lg.mk ?_); ((try simp only [adv_long, wr_long, need_long, kind_long]); assumption)) | ((with_reducible refine Lg.ite ?_ ?_) <;> intro _) | with_reducible refine Lg.bnd ?_ (fun a σ h => ?_))
 all_goals exact hc _ _ (by ((try simp only [adv_long, wr_long, need_long, kind_long]); assumption))
theorem lg_body (hO : ∀ k, (tk L k).o ≤ 8192) : ∀ r σ, σ.long ≤ 8193 → Lg (bodyM L call n r σ)
 | .filter => lg_pair (hc _) (hc _)
 | .comma => lg_chain (hc _)
 | .update => lg_pair (hc _) (hc _)
 | .alt => lg_pair (hc _) (hc _)
 | .or_ => lg_chain (hc _)
 | .and_ => lg_chain (hc _)
 | .cmp => lg_pair (hc _) (hc _)
 | .sum => lg_chain (hc _)
 | .product => lg_chain (hc _)
 | .unary => lg_unary hc
 | .operand => lg_oper hc hO
 | .post => fun σ hs => Lg.bnd (hc _ _ hs) fun f σ1 h1 => lg_post hc _ _ _ h1
 | .primary => lg_prim hc
 | .condition => lg_branch hc
end
theorem lg_run {L : List Fk} (hO : ∀ k, (tk L k).o ≤ 8192) : ∀ n r σ, σ.long ≤ 8193 → Lg (run L n r σ)
 | 0, r, σ, hs => Lg.none
 | n + 1, r, σ, hs => lg_body (lg_run hO n) hO r σ hs
end Go.Proofs.YtoleoimmpggldaaGreatDoor.Rx
namespace Go.Proofs.YtoleoimmpggldaaGreatDoor.Rx
open Go.RowKit
theorem ret_zero {L : List Fk} {gt C g : Nat} {w0 w : World} {σ : PS} {t : Ft} {bs : List (Nat × Array Value)} {ts : List (Ft × List Value)} {u0 u1 u2 u3 u4 u5 u6 u7 u8 : Value} (h : St noS L gt C g w0 w σ bs ((t, [u0, u1, u2, u3, u4, u5, u6, u7, u8]) :: ts)) : RetF L gt C g w0 t σ (.returned (.agg #[u0, u1, u2, u3, u4, u5, u6, u7, u8])) w :=
 ⟨_, _, _, _, _, _, _, _, _, rfl, h.r.gr, h.r.p, LiesF.move (h.t _ mC) fun b hb => ⟨hb.elim (fun h => h.elim) (fun a => ⟨Nat.le_of_lt a.1, a.2.1⟩), rfl⟩⟩
theorem prim_b {L : List Fk} (hL : TokL L) {gt C g : Nat} {call : Ru → PM} (n : Nat) : ∀ W σ t τ, σ.bad = true → PAt L gt C g W σ → primM L call n σ = some (t, τ) → Calls Tryz.prog 167 #[.pointer (some ⟨g, 0, none⟩)] W (RetF L gt C g W t τ) := by
 intro W σ t τ hbb hP hm;have H0 := hI (St.begin hP);have hg0 := hP.glt;have hkm := hP.capm;have hkl := hP.lt;have HNX := hI (fun h => hL.e.next hkl h);obtain ⟨⟨b0, b1, b2, b3⟩, -⟩ := box4' hP.box;have hlg := hP.glt;have HK := hI (fun W (h : PAt L gt C g W σ) => peek_any h);have hz := hL.size σ.k;unfold primM at hm;rw [hbb] at b2 hm;clear hP;rw [if_pos rfl] at hm;injection hm with hm
 injection hm with h3 h4
 subst h3; subst h4;have H1 := hI (H0.out.leaf 0 ⟨#[]⟩ 0 0 ⟨#[]⟩ (by decide) (by decide));clear HK HNX hbb;have x0 := H1.out.r.cells
 go_enter Tryz.func167, Tryz.ntmps167
 go_wp2_with fail;refine post9 Tryz.results167 rfl rfl (by first | exact Box.laid _ _ _ | exact H1.out.r.r) ?_;exact ret_zero H1.out
end Go.Proofs.YtoleoimmpggldaaGreatDoor.Rx
namespace Go.Proofs.YtoleoimmpggldaaGreatDoor.Rx
open Go.RowKit
theorem prim_4 {L : List Fk} (hL : TokL L) {gt C g : Nat} {call : Ru → PM} (n : Nat) (hn : n ≤ 400000) (hA : OkA L gt C g call) : ∀ W σ t τ, σ.bad = false → (tk L σ.k).k = 4 → PAt L gt C g W σ → primM L call n σ = some (t, τ) → Calls Tryz.prog 167 #[.pointer (some ⟨g, 0, none⟩)] W (RetF L gt C g W t τ) := by
 intro W σ t τ hbb c4 hP hm;have H0 := hI (St.begin hP);have hg0 := hP.glt;have hkm := hP.capm;have hkl := hP.lt;have HNX := hI (fun h => hL.e.next hkl h);obtain ⟨⟨b0, b1, b2, b3⟩, -⟩ := box4' hP.box;have hlg := hP.glt;have HK := hI (fun W (h : PAt L gt C g W σ) => peek_any h);have hz := hL.size σ.k;unfold primM at hm;have HKY := hI (fun s W t τ hnz hP hm => keyed_any hL hA s W σ τ t hbb hnz hP hm);have HSG := hI (fun s W t τ hnz hP hm => signed_any hL n hn hA s W σ τ t hbb hnz hP hm);have HCA := hI (fun s hs W t τ hP hm => call_any hL n hn hA s hs W (adv σ) τ t hP hm);have HW := hI (fun W (h : PAt L gt C g W σ) => wrong_any h);have HN0 := hI (fun (h : (tk L σ.k).k ≠ 0) => h);clear hP;rw [hbb] at b2 hm;rw [if_neg (by decide)] at hm;generalize htk : tk L σ.k = t0 at *
 obtain ⟨K1, O1, S1, I1⟩ := t0;have HTK := hI htk;dsimp only at c4 hm hz HNX;clear hA hn hbb htk HN0;rw [if_pos c4] at hm;have hnx := HNX.out (by omega);injection hm with hm
 injection hm with h3 h4
 subst h3; subst h4;have HNO := hI (fun A W => node_any 3 S1 A 1 1 W);clear HKY HSG HCA HW HNX HTK;have q4 : ((K1 : Int) == 4) = true := by rw [beq_iff_eq]; omega
 clear c4
 go_enter Tryz.func167, Tryz.ntmps167
 go_wp2_with fail;refine (HK.out _ H0.out.r.p).mono ?_;rintro e w1 ⟨rfl, hb1⟩;have H1 := hI ((H0.out.low hb1).boxT 41 #[ι K1, ι O1, .string S1, ι I1]);clear hb1 HK b0 b1 b2 b3;go_upto_region 4 with (fail)
 generalize w1.alloc (.cells #[ι K1, ι O1, .string S1, ι I1] 41) = wa at H1 ⊢;generalize w1.heap.size = kq at H1 ⊢;obtain ⟨⟨t0, t1, t2, t3⟩, -⟩ := box4' (H1.out.bx (q := kq) (c := #[ι K1, ι O1, .string S1, ι I1]) (by simp));obtain ⟨⟨b0, b1, b2, b3⟩, f0, f1, f2, f3⟩ := box4' H1.out.r.p.box;have hlg := H1.out.r.p.glt;have hk9 : (σ.k : Int) ≤ 4096 := by omega
 have hk0 : 0 ≤ (σ.k : Int) := by omega
 generalize hkk : (σ.k : Int) = kk at b1 hk9 hk0;have H2 := hI (H1.out.next ((Gr.refl g _).set 1 _) (H1.out.r.p.step hnx (by rw [hkk])));clear hkk;go_upto_region 7 with (fail)
 have keep : Hid (∀ X σ ts, St noS L gt C g W X σ [(kq, #[ι K1, ι O1, .string S1, ι I1])] ts → X.cell? ⟨kq, 2, none⟩ = some (.string S1)) := hI fun X σ ts hX => by
  have a0 := (hX.bx (q := kq) (c := #[ι K1, ι O1, .string S1, ι I1]) (by simp)).cell (i := 2) rfl;exact a0
 have keepR : Hid (∀ X σ ts, St noS L gt C g W X σ [(kq, #[ι K1, ι O1, .string S1, ι I1])] ts → ∀ u0 u1 u2 u3 u4 u5 u6 u7 u8 : Value, (((((((((X.setCell ⟨W.heap.size, 0, none⟩ u0).setCell ⟨W.heap.size, 1, none⟩ u1).setCell ⟨W.heap.size, 2, none⟩ u2).setCell ⟨W.heap.size, 3, none⟩ u3).setCell ⟨W.heap.size, 4, none⟩ u4).setCell ⟨W.heap.size, 5, none⟩ u5).setCell ⟨W.heap.size, 6, none⟩ u6).setCell ⟨W.heap.size, 7, none⟩ u7).setCell ⟨W.heap.size, 8, none⟩ u8).cell? ⟨kq, 2, none⟩ = some (.string S1)) := hI fun X σ ts hX u0 u1 u2 u3 u4 u5 u6 u7 u8 => by
  have a0 := ((hX.bx (q := kq) (c := #[ι K1, ι O1, .string S1, ι I1]) (by simp)).far9 (r := W.heap.size) (by have := (hX.b (kq, #[ι K1, ι O1, .string S1, ι I1]) (by simp)).1; dsimp only at this; omega) u0 u1 u2 u3 u4 u5 u6 u7 u8).cell (i := 2) rfl;exact a0
 have y0 := keep.out _ _ _ H2.out
 go_region_held3 (fun X => X.cell? ⟨kq, 2, none⟩ = some (.string S1))
  (first
   | with_reducible exact keep.out _ _ _ H2.out.drew
   | with_reducible exact keep.out _ _ _ H3.out
   | with_reducible exact keep.out _ _ _ H4.out
   | with_reducible exact keep.out _ _ _ H5.out
   | with_reducible exact keepR.out _ _ _ H5.out _ _ _ _ _ _ _ _ _)
  (first
   | (go_at_call 177; (refine (ident_any _).mono ?_); rintro e w3 ⟨rfl, hb3⟩; have H3 := hI ((H2.out.drew.low hb3).leaf 1 ⟨#[]⟩ 0 0 ⟨#[]⟩ (by decide) (by decide)); clear hb3; have H4 := hI (H3.out.node 3 S1 (by omega) (fs := [identF]) (row := #[ι 1, eS, ι 0, ι 0, eS, nL, nL, nL, nL]) rfl (by simp) (LiesFL.one (H3.out.t (identF, [ι 1, eS, ι 0, ι 0, eS, nL, nL, nL, nL]) (by first | exact mC | simp [identF, nodeF, vz]))) rfl))
   | (go_at_call 30; (refine (HNO.out _ _).mono ?_); rintro e w5 ⟨rfl, hb5⟩; have H5 := hI (H4.out.low hb5); clear hb5; have x0 := H5.out.r.cells))
 go_wp2_with fail;refine post9 Tryz.results167 rfl rfl (H5.out.r.r.put9z _ _ _ _ _ _ _ _ _) ?_;exact retF_of (H5.out.close (by first | exact mC | simp))
theorem prim_5 {L : List Fk} (hL : TokL L) {gt C g : Nat} {call : Ru → PM} (n : Nat) (hn : n ≤ 400000) (hA : OkA L gt C g call) : ∀ W σ t τ, σ.bad = false → (tk L σ.k).k ≠ 4 → (tk L σ.k).k = 5 → PAt L gt C g W σ → primM L call n σ = some (t, τ) → Calls Tryz.prog 167 #[.pointer (some ⟨g, 0, none⟩)] W (RetF L gt C g W t τ) := by
 intro W σ t τ hbb c4 c5 hP hm;have H0 := hI (St.begin hP);have hg0 := hP.glt;have hkm := hP.capm;have hkl := hP.lt;have HNX := hI (fun h => hL.e.next hkl h);obtain ⟨⟨b0, b1, b2, b3⟩, -⟩ := box4' hP.box;have hlg := hP.glt;have HK := hI (fun W (h : PAt L gt C g W σ) => peek_any h);have hz := hL.size σ.k;unfold primM at hm;have HKY := hI (fun s W t τ hnz hP hm => keyed_any hL hA s W σ τ t hbb hnz hP hm);have HSG := hI (fun s W t τ hnz hP hm => signed_any hL n hn hA s W σ τ t hbb hnz hP hm);have HCA := hI (fun s hs W t τ hP hm => call_any hL n hn hA s hs W (adv σ) τ t hP hm);have HW := hI (fun W (h : PAt L gt C g W σ) => wrong_any h);have HN0 := hI (fun (h : (tk L σ.k).k ≠ 0) => h);clear hP;rw [hbb] at b2 hm;rw [if_neg (by decide)] at hm;generalize htk : tk L σ.k = t0 at *
 obtain ⟨K1, O1, S1, I1⟩ := t0;have HTK := hI htk;dsimp only at c4 c5 hm hz HNX;clear hA hn hbb htk HN0;rw [if_neg c4, if_pos c5] at hm;have hnx := HNX.out (by omega);injection hm with hm
 injection hm with h3 h4
 subst h3; subst h4;have HLI := hI (fun W => lit_any 3 I1 ⟨#[]⟩ W);clear HKY HSG HCA HW HNX HTK;have q4 : ((K1 : Int) == 4) = false := bF.2 (by omega);have q5 : ((K1 : Int) == 5) = true := by rw [beq_iff_eq]; omega
 clear c4 c5
 go_enter Tryz.func167, Tryz.ntmps167
 go_wp2_with fail;refine (HK.out _ H0.out.r.p).mono ?_;rintro e w1 ⟨rfl, hb1⟩;have H1 := hI ((H0.out.low hb1).boxT 41 #[ι K1, ι O1, .string S1, ι I1]);clear hb1 HK b0 b1 b2 b3;go_upto_region 4 with (fail)
 generalize w1.alloc (.cells #[ι K1, ι O1, .string S1, ι I1] 41) = wa at H1 ⊢;generalize w1.heap.size = kq at H1 ⊢;obtain ⟨⟨t0, t1, t2, t3⟩, -⟩ := box4' (H1.out.bx (q := kq) (c := #[ι K1, ι O1, .string S1, ι I1]) (by simp));obtain ⟨⟨b0, b1, b2, b3⟩, f0, f1, f2, f3⟩ := box4' H1.out.r.p.box;have hlg := H1.out.r.p.glt;have hk9 : (σ.k : Int) ≤ 4096 := by omega
 have hk0 : 0 ≤ (σ.k : Int) := by omega
 generalize hkk : (σ.k : Int) = kk at b1 hk9 hk0;have H2 := hI (H1.out.next ((Gr.refl g _).set 1 _) (H1.out.r.p.step hnx (by rw [hkk])));clear hkk;go_wp2_with fail;refine (HLI.out _).mono ?_;rintro e w3 ⟨rfl, hb3⟩;have H3 := hI ((H2.out.low hb3).leaf 7 ⟨#[]⟩ 3 I1 ⟨#[]⟩ (by decide) (by decide));clear hb3;have x0 := H3.out.r.cells;go_wp2_with fail;refine post9 Tryz.results167 rfl rfl (H3.out.r.r.put9z _ _ _ _ _ _ _ _ _) ?_;exact retF_of (H3.out.close (by first | exact mC | simp))
theorem prim_6 {L : List Fk} (hL : TokL L) {gt C g : Nat} {call : Ru → PM} (n : Nat) (hn : n ≤ 400000) (hA : OkA L gt C g call) : ∀ W σ t τ, σ.bad = false → (tk L σ.k).k ≠ 4 → (tk L σ.k).k ≠ 5 → (tk L σ.k).k = 6 → PAt L gt C g W σ → primM L call n σ = some (t, τ) → Calls Tryz.prog 167 #[.pointer (some ⟨g, 0, none⟩)] W (RetF L gt C g W t τ) := by
 intro W σ t τ hbb c4 c5 c6 hP hm;have H0 := hI (St.begin hP);have hg0 := hP.glt;have hkm := hP.capm;have hkl := hP.lt;have HNX := hI (fun h => hL.e.next hkl h);obtain ⟨⟨b0, b1, b2, b3⟩, -⟩ := box4' hP.box;have hlg := hP.glt;have HK := hI (fun W (h : PAt L gt C g W σ) => peek_any h);have hz := hL.size σ.k;unfold primM at hm;have HKY := hI (fun s W t τ hnz hP hm => keyed_any hL hA s W σ τ t hbb hnz hP hm);have HSG := hI (fun s W t τ hnz hP hm => signed_any hL n hn hA s W σ τ t hbb hnz hP hm);have HCA := hI (fun s hs W t τ hP hm => call_any hL n hn hA s hs W (adv σ) τ t hP hm);have HW := hI (fun W (h : PAt L gt C g W σ) => wrong_any h);have HN0 := hI (fun (h : (tk L σ.k).k ≠ 0) => h);clear hP;rw [hbb] at b2 hm;rw [if_neg (by decide)] at hm;generalize htk : tk L σ.k = t0 at *
 obtain ⟨K1, O1, S1, I1⟩ := t0;have HTK := hI htk;dsimp only at c4 c5 c6 hm hz HNX;clear hA hn hbb htk HN0;rw [if_neg c4, if_neg c5, if_pos c6] at hm;have hnx := HNX.out (by omega);injection hm with hm
 injection hm with h3 h4
 subst h3; subst h4;have HTX := hI (fun W => text_any S1 W);clear HKY HSG HCA HW HNX HTK;have q4 : ((K1 : Int) == 4) = false := bF.2 (by omega);have q5 : ((K1 : Int) == 5) = false := bF.2 (by omega);have q6 : ((K1 : Int) == 6) = true := by rw [beq_iff_eq]; omega
 clear c4 c5 c6
 go_enter Tryz.func167, Tryz.ntmps167
 go_wp2_with fail;refine (HK.out _ H0.out.r.p).mono ?_;rintro e w1 ⟨rfl, hb1⟩;have H1 := hI ((H0.out.low hb1).boxT 41 #[ι K1, ι O1, .string S1, ι I1]);clear hb1 HK b0 b1 b2 b3;go_upto_region 4 with (fail)
 generalize w1.alloc (.cells #[ι K1, ι O1, .string S1, ι I1] 41) = wa at H1 ⊢;generalize w1.heap.size = kq at H1 ⊢;obtain ⟨⟨t0, t1, t2, t3⟩, -⟩ := box4' (H1.out.bx (q := kq) (c := #[ι K1, ι O1, .string S1, ι I1]) (by simp));obtain ⟨⟨b0, b1, b2, b3⟩, f0, f1, f2, f3⟩ := box4' H1.out.r.p.box;have hlg := H1.out.r.p.glt;have hk9 : (σ.k : Int) ≤ 4096 := by omega
 have hk0 : 0 ≤ (σ.k : Int) := by omega
 generalize hkk : (σ.k : Int) = kk at b1 hk9 hk0;have H2 := hI (H1.out.next ((Gr.refl g _).set 1 _) (H1.out.r.p.step hnx (by rw [hkk])));clear hkk;go_wp2_with fail;refine (HTX.out _).mono ?_;rintro e w3 ⟨rfl, hb3⟩;have H3 := hI ((H2.out.low hb3).leaf 7 ⟨#[]⟩ 4 0 S1 (by decide) (by omega));clear hb3;have x0 := H3.out.r.cells;go_wp2_with fail;refine post9 Tryz.results167 rfl rfl (H3.out.r.r.put9z _ _ _ _ _ _ _ _ _) ?_;exact retF_of (H3.out.close (by first | exact mC | simp))
theorem prim_3 {L : List Fk} (hL : TokL L) {gt C g : Nat} {call : Ru → PM} (n : Nat) (hn : n ≤ 400000) (hA : OkA L gt C g call) : ∀ W σ t τ, σ.bad = false → (tk L σ.k).k ≠ 4 → (tk L σ.k).k ≠ 5 → (tk L σ.k).k ≠ 6 → (tk L σ.k).k = 3 → PAt L gt C g W σ → primM L call n σ = some (t, τ) → Calls Tryz.prog 167 #[.pointer (some ⟨g, 0, none⟩)] W (RetF L gt C g W t τ) := by
 intro W σ t τ hbb c4 c5 c6 c3 hP hm;have H0 := hI (St.begin hP);have hg0 := hP.glt;have hkm := hP.capm;have hkl := hP.lt;have HNX := hI (fun h => hL.e.next hkl h);obtain ⟨⟨b0, b1, b2, b3⟩, -⟩ := box4' hP.box;have hlg := hP.glt;have HK := hI (fun W (h : PAt L gt C g W σ) => peek_any h);have hz := hL.size σ.k;unfold primM at hm;have HKY := hI (fun s W t τ hnz hP hm => keyed_any hL hA s W σ τ t hbb hnz hP hm);have HSG := hI (fun s W t τ hnz hP hm => signed_any hL n hn hA s W σ τ t hbb hnz hP hm);have HCA := hI (fun s hs W t τ hP hm => call_any hL n hn hA s hs W (adv σ) τ t hP hm);have HW := hI (fun W (h : PAt L gt C g W σ) => wrong_any h);have HN0 := hI (fun (h : (tk L σ.k).k ≠ 0) => h);clear hP;rw [hbb] at b2 hm;rw [if_neg (by decide)] at hm;generalize htk : tk L σ.k = t0 at *
 obtain ⟨K1, O1, S1, I1⟩ := t0;have HTK := hI htk;dsimp only at c4 c5 c6 c3 hm hz HNX;clear hA hn hbb htk HN0;rw [if_neg c4, if_neg c5, if_neg c6, if_pos c3] at hm;have hnx := HNX.out (by omega);injection hm with hm
 injection hm with h3 h4
 subst h3; subst h4;have HNO := hI (fun n W => node_any 8 S1 none n n W);clear HKY HSG HCA HW HNX HTK;have q4 : ((K1 : Int) == 4) = false := bF.2 (by omega);have q5 : ((K1 : Int) == 5) = false := bF.2 (by omega);have q6 : ((K1 : Int) == 6) = false := bF.2 (by omega);have q3 : ((K1 : Int) == 3) = true := by rw [beq_iff_eq]; omega
 clear c4 c5 c6 c3
 go_enter Tryz.func167, Tryz.ntmps167
 go_wp2_with fail;refine (HK.out _ H0.out.r.p).mono ?_;rintro e w1 ⟨rfl, hb1⟩;have H1 := hI ((H0.out.low hb1).boxT 41 #[ι K1, ι O1, .string S1, ι I1]);clear hb1 HK b0 b1 b2 b3;go_upto_region 4 with (fail)
 generalize w1.alloc (.cells #[ι K1, ι O1, .string S1, ι I1] 41) = wa at H1 ⊢;generalize w1.heap.size = kq at H1 ⊢;obtain ⟨⟨t0, t1, t2, t3⟩, -⟩ := box4' (H1.out.bx (q := kq) (c := #[ι K1, ι O1, .string S1, ι I1]) (by simp));obtain ⟨⟨b0, b1, b2, b3⟩, f0, f1, f2, f3⟩ := box4' H1.out.r.p.box;have hlg := H1.out.r.p.glt;have hk9 : (σ.k : Int) ≤ 4096 := by omega
 have hk0 : 0 ≤ (σ.k : Int) := by omega
 generalize hkk : (σ.k : Int) = kk at b1 hk9 hk0;have H2 := hI (H1.out.next ((Gr.refl g _).set 1 _) (H1.out.r.p.step hnx (by rw [hkk])));clear hkk;go_wp2_with fail;refine (HNO.out _ _).mono ?_;rintro e w3 ⟨rfl, hb3⟩;have H3 := hI ((H2.out.low hb3).leaf 8 S1 0 0 ⟨#[]⟩ (by omega) (by decide));clear hb3;have x0 := H3.out.r.cells;go_wp2_with fail;refine post9 Tryz.results167 rfl rfl (H3.out.r.r.put9z _ _ _ _ _ _ _ _ _) ?_;exact retF_of (H3.out.close (by first | exact mC | simp))
theorem prim_1 {L : List Fk} (hL : TokL L) {gt C g : Nat} {call : Ru → PM} (n : Nat) (hn : n ≤ 400000) (hA : OkA L gt C g call) : ∀ W σ t τ, σ.bad = false → (tk L σ.k).k ≠ 4 → (tk L σ.k).k ≠ 5 → (tk L σ.k).k ≠ 6 → (tk L σ.k).k ≠ 3 → (tk L σ.k).k = 1 → PAt L gt C g W σ → primM L call n σ = some (t, τ) → Calls Tryz.prog 167 #[.pointer (some ⟨g, 0, none⟩)] W (RetF L gt C g W t τ) := by
 intro W σ t τ hbb c4 c5 c6 c3 c1 hP hm;have H0 := hI (St.begin hP);have hg0 := hP.glt;have hkm := hP.capm;have hkl := hP.lt;have HNX := hI (fun h => hL.e.next hkl h);obtain ⟨⟨b0, b1, b2, b3⟩, -⟩ := box4' hP.box;have hlg := hP.glt;have HK := hI (fun W (h : PAt L gt C g W σ) => peek_any h);have hz := hL.size σ.k;unfold primM at hm;have HKY := hI (fun s W t τ hnz hP hm => keyed_any hL hA s W σ τ t hbb hnz hP hm);have HSG := hI (fun s W t τ hnz hP hm => signed_any hL n hn hA s W σ τ t hbb hnz hP hm);have HCA := hI (fun s hs W t τ hP hm => call_any hL n hn hA s hs W (adv σ) τ t hP hm);have HW := hI (fun W (h : PAt L gt C g W σ) => wrong_any h);have HN0 := hI (fun (h : (tk L σ.k).k ≠ 0) => h);clear hP;rw [hbb] at b2 hm;rw [if_neg (by decide)] at hm;generalize htk : tk L σ.k = t0 at *
 obtain ⟨K1, O1, S1, I1⟩ := t0;have HTK := hI htk;dsimp only at c4 c5 c6 c3 c1 hm hz HNX;clear hA hn hbb htk HN0;rw [if_neg c4, if_neg c5, if_neg c6, if_neg c3, if_pos c1] at hm;have hnx := HNX.out (by omega);have HC := hI (fun W h => HCA.out S1 hz W t τ h hm);clear HKY HSG HCA HW HNX HTK hm;have q4 : ((K1 : Int) == 4) = false := bF.2 (by omega);have q5 : ((K1 : Int) == 5) = false := bF.2 (by omega);have q6 : ((K1 : Int) == 6) = false := bF.2 (by omega);have q3 : ((K1 : Int) == 3) = false := bF.2 (by omega);have q1 : ((K1 : Int) == 1) = true := by rw [beq_iff_eq]; omega
 clear c4 c5 c6 c3 c1
 go_enter Tryz.func167, Tryz.ntmps167
 go_wp2_with fail;refine (HK.out _ H0.out.r.p).mono ?_;rintro e w1 ⟨rfl, hb1⟩;have H1 := hI ((H0.out.low hb1).boxT 41 #[ι K1, ι O1, .string S1, ι I1]);clear hb1 HK b0 b1 b2 b3;go_upto_region 4 with (fail)
 generalize w1.alloc (.cells #[ι K1, ι O1, .string S1, ι I1] 41) = wa at H1 ⊢;generalize w1.heap.size = kq at H1 ⊢;obtain ⟨⟨t0, t1, t2, t3⟩, -⟩ := box4' (H1.out.bx (q := kq) (c := #[ι K1, ι O1, .string S1, ι I1]) (by simp));obtain ⟨⟨b0, b1, b2, b3⟩, f0, f1, f2, f3⟩ := box4' H1.out.r.p.box;have hlg := H1.out.r.p.glt;have hk9 : (σ.k : Int) ≤ 4096 := by omega
 have hk0 : 0 ≤ (σ.k : Int) := by omega
 generalize hkk : (σ.k : Int) = kk at b1 hk9 hk0;have H2 := hI (H1.out.next ((Gr.refl g _).set 1 _) (H1.out.r.p.step hnx (by rw [hkk])));clear hkk;go_wp2_with fail;refine (HC.out _ H2.out.r.p).mono ?_;rintro e w3 hZ;obtain ⟨Z2, rfl, hg3, hp3, hl3⟩ := fr3 hZ;have H3 := hI (H2.out.call hg3 hp3 hl3);clear hg3 hp3 hl3;have x0 := H3.out.r.cells;go_wp2_with fail;refine post9 Tryz.results167 rfl rfl (H3.out.r.r.put9z _ _ _ _ _ _ _ _ _) ?_;exact retF_of (H3.out.close (by first | exact mC | simp))
theorem prim_7 {L : List Fk} (hL : TokL L) {gt C g : Nat} {call : Ru → PM} (n : Nat) (hn : n ≤ 400000) (hA : OkA L gt C g call) : ∀ W σ t τ, σ.bad = false → (tk L σ.k).k ≠ 4 → (tk L σ.k).k ≠ 5 → (tk L σ.k).k ≠ 6 → (tk L σ.k).k ≠ 3 → (tk L σ.k).k ≠ 1 → (tk L σ.k).k = 7 → PAt L gt C g W σ → primM L call n σ = some (t, τ) → Calls Tryz.prog 167 #[.pointer (some ⟨g, 0, none⟩)] W (RetF L gt C g W t τ) := by
 intro W σ t τ hbb c4 c5 c6 c3 c1 c7 hP hm;have H0 := hI (St.begin hP);have hg0 := hP.glt;have hkm := hP.capm;have hkl := hP.lt;have HNX := hI (fun h => hL.e.next hkl h);obtain ⟨⟨b0, b1, b2, b3⟩, -⟩ := box4' hP.box;have hlg := hP.glt;have HK := hI (fun W (h : PAt L gt C g W σ) => peek_any h);have hz := hL.size σ.k;unfold primM at hm;have HKY := hI (fun s W t τ hnz hP hm => keyed_any hL hA s W σ τ t hbb hnz hP hm);have HSG := hI (fun s W t τ hnz hP hm => signed_any hL n hn hA s W σ τ t hbb hnz hP hm);have HCA := hI (fun s hs W t τ hP hm => call_any hL n hn hA s hs W (adv σ) τ t hP hm);have HW := hI (fun W (h : PAt L gt C g W σ) => wrong_any h);have HN0 := hI (fun (h : (tk L σ.k).k ≠ 0) => h);clear hP;rw [hbb] at b2 hm;rw [if_neg (by decide)] at hm;generalize htk : tk L σ.k = t0 at *
 obtain ⟨K1, O1, S1, I1⟩ := t0;have HTK := hI htk;dsimp only at c4 c5 c6 c3 c1 c7 hm hz HNX;clear hA hn hbb htk HN0;rw [if_neg c4, if_neg c5, if_neg c6, if_neg c3, if_neg c1, if_pos c7] at hm;have HC := hI (fun W h => HSG.out S1 W t τ (by dsimp only; omega) h hm);clear HKY HSG HCA HW HNX HTK hm;have q4 : ((K1 : Int) == 4) = false := bF.2 (by omega);have q5 : ((K1 : Int) == 5) = false := bF.2 (by omega);have q6 : ((K1 : Int) == 6) = false := bF.2 (by omega);have q3 : ((K1 : Int) == 3) = false := bF.2 (by omega);have q1 : ((K1 : Int) == 1) = false := bF.2 (by omega);have q7 : ((K1 : Int) == 7) = true := by rw [beq_iff_eq]; omega
 clear c4 c5 c6 c3 c1 c7
 go_enter Tryz.func167, Tryz.ntmps167
 go_wp2_with fail;refine (HK.out _ H0.out.r.p).mono ?_;rintro e w1 ⟨rfl, hb1⟩;have H1 := hI ((H0.out.low hb1).boxT 41 #[ι K1, ι O1, .string S1, ι I1]);clear hb1 HK b0 b1 b2 b3;go_upto_region 4 with (fail)
 generalize w1.alloc (.cells #[ι K1, ι O1, .string S1, ι I1] 41) = wa at H1 ⊢;generalize w1.heap.size = kq at H1 ⊢;obtain ⟨⟨t0, t1, t2, t3⟩, -⟩ := box4' (H1.out.bx (q := kq) (c := #[ι K1, ι O1, .string S1, ι I1]) (by simp));go_wp2_with fail;refine (HC.out _ H1.out.r.p).mono ?_;rintro e w2 hZ;obtain ⟨Z2, rfl, hg2, hp2, hl2⟩ := fr3 hZ;have H2 := hI (H1.out.call hg2 hp2 hl2);clear hg2 hp2 hl2;have x0 := H2.out.r.cells;go_wp2_with fail;refine post9 Tryz.results167 rfl rfl (H2.out.r.r.put9z _ _ _ _ _ _ _ _ _) ?_;exact retF_of (H2.out.close (by first | exact mC | simp))
theorem prim_2 {L : List Fk} (hL : TokL L) {gt C g : Nat} {call : Ru → PM} (n : Nat) (hn : n ≤ 400000) (hA : OkA L gt C g call) : ∀ W σ t τ, σ.bad = false → (tk L σ.k).k ≠ 4 → (tk L σ.k).k ≠ 5 → (tk L σ.k).k ≠ 6 → (tk L σ.k).k ≠ 3 → (tk L σ.k).k ≠ 1 → (tk L σ.k).k ≠ 7 → (tk L σ.k).k = 2 → PAt L gt C g W σ → primM L call n σ = some (t, τ) → Calls Tryz.prog 167 #[.pointer (some ⟨g, 0, none⟩)] W (RetF L gt C g W t τ) := by
 intro W σ t τ hbb c4 c5 c6 c3 c1 c7 c2 hP hm;have H0 := hI (St.begin hP);have hg0 := hP.glt;have hkm := hP.capm;have hkl := hP.lt;have HNX := hI (fun h => hL.e.next hkl h);obtain ⟨⟨b0, b1, b2, b3⟩, -⟩ := box4' hP.box;have hlg := hP.glt;have HK := hI (fun W (h : PAt L gt C g W σ) => peek_any h);have hz := hL.size σ.k;unfold primM at hm;have HKY := hI (fun s W t τ hnz hP hm => keyed_any hL hA s W σ τ t hbb hnz hP hm);have HSG := hI (fun s W t τ hnz hP hm => signed_any hL n hn hA s W σ τ t hbb hnz hP hm);have HCA := hI (fun s hs W t τ hP hm => call_any hL n hn hA s hs W (adv σ) τ t hP hm);have HW := hI (fun W (h : PAt L gt C g W σ) => wrong_any h);have HN0 := hI (fun (h : (tk L σ.k).k ≠ 0) => h);clear hP;rw [hbb] at b2 hm;rw [if_neg (by decide)] at hm;generalize htk : tk L σ.k = t0 at *
 obtain ⟨K1, O1, S1, I1⟩ := t0;have HTK := hI htk;dsimp only at c4 c5 c6 c3 c1 c7 c2 hm hz HNX;clear hA hn hbb htk HN0;rw [if_neg c4, if_neg c5, if_neg c6, if_neg c3, if_neg c1, if_neg c7, if_pos c2] at hm;have HC := hI (fun W h => HKY.out S1 W t τ (by dsimp only; omega) h hm);clear HKY HSG HCA HW HNX HTK hm;have q4 : ((K1 : Int) == 4) = false := bF.2 (by omega);have q5 : ((K1 : Int) == 5) = false := bF.2 (by omega);have q6 : ((K1 : Int) == 6) = false := bF.2 (by omega);have q3 : ((K1 : Int) == 3) = false := bF.2 (by omega);have q1 : ((K1 : Int) == 1) = false := bF.2 (by omega);have q7 : ((K1 : Int) == 7) = false := bF.2 (by omega);have q2 : ((K1 : Int) == 2) = true := by rw [beq_iff_eq]; omega
 clear c4 c5 c6 c3 c1 c7 c2
 go_enter Tryz.func167, Tryz.ntmps167
 go_wp2_with fail;refine (HK.out _ H0.out.r.p).mono ?_;rintro e w1 ⟨rfl, hb1⟩;have H1 := hI ((H0.out.low hb1).boxT 41 #[ι K1, ι O1, .string S1, ι I1]);clear hb1 HK b0 b1 b2 b3;go_upto_region 4 with (fail)
 generalize w1.alloc (.cells #[ι K1, ι O1, .string S1, ι I1] 41) = wa at H1 ⊢;generalize w1.heap.size = kq at H1 ⊢;obtain ⟨⟨t0, t1, t2, t3⟩, -⟩ := box4' (H1.out.bx (q := kq) (c := #[ι K1, ι O1, .string S1, ι I1]) (by simp));go_wp2_with fail;refine (HC.out _ H1.out.r.p).mono ?_;rintro e w2 hZ;obtain ⟨Z2, rfl, hg2, hp2, hl2⟩ := fr3 hZ;have H2 := hI (H1.out.call hg2 hp2 hl2);clear hg2 hp2 hl2;have x0 := H2.out.r.cells;go_wp2_with fail;refine post9 Tryz.results167 rfl rfl (H2.out.r.r.put9z _ _ _ _ _ _ _ _ _) ?_;exact retF_of (H2.out.close (by first | exact mC | simp))
theorem prim_e {L : List Fk} (hL : TokL L) {gt C g : Nat} {call : Ru → PM} (n : Nat) (hn : n ≤ 400000) (hA : OkA L gt C g call) : ∀ W σ t τ, σ.bad = false → (tk L σ.k).k ≠ 4 → (tk L σ.k).k ≠ 5 → (tk L σ.k).k ≠ 6 → (tk L σ.k).k ≠ 3 → (tk L σ.k).k ≠ 1 → (tk L σ.k).k ≠ 7 → (tk L σ.k).k ≠ 2 → PAt L gt C g W σ → primM L call n σ = some (t, τ) → Calls Tryz.prog 167 #[.pointer (some ⟨g, 0, none⟩)] W (RetF L gt C g W t τ) := by
 intro W σ t τ hbb c4 c5 c6 c3 c1 c7 c2 hP hm;have H0 := hI (St.begin hP);have hg0 := hP.glt;have hkm := hP.capm;have hkl := hP.lt;have HNX := hI (fun h => hL.e.next hkl h);obtain ⟨⟨b0, b1, b2, b3⟩, -⟩ := box4' hP.box;have hlg := hP.glt;have HK := hI (fun W (h : PAt L gt C g W σ) => peek_any h);have hz := hL.size σ.k;unfold primM at hm;have HKY := hI (fun s W t τ hnz hP hm => keyed_any hL hA s W σ τ t hbb hnz hP hm);have HSG := hI (fun s W t τ hnz hP hm => signed_any hL n hn hA s W σ τ t hbb hnz hP hm);have HCA := hI (fun s hs W t τ hP hm => call_any hL n hn hA s hs W (adv σ) τ t hP hm);have HW := hI (fun W (h : PAt L gt C g W σ) => wrong_any h);have HN0 := hI (fun (h : (tk L σ.k).k ≠ 0) => h);clear hP;rw [hbb] at b2 hm;rw [if_neg (by decide)] at hm;generalize htk : tk L σ.k = t0 at *
 obtain ⟨K1, O1, S1, I1⟩ := t0;have HTK := hI htk;dsimp only at c4 c5 c6 c3 c1 c7 c2 hm hz HNX;clear hA hn hbb htk HN0;rw [if_neg c4, if_neg c5, if_neg c6, if_neg c3, if_neg c1, if_neg c7, if_neg c2] at hm;injection hm with hm
 injection hm with h3 h4
 subst h3; subst h4;clear HKY HSG HCA HNX HTK;have q4 : ((K1 : Int) == 4) = false := bF.2 (by omega);have q5 : ((K1 : Int) == 5) = false := bF.2 (by omega);have q6 : ((K1 : Int) == 6) = false := bF.2 (by omega);have q3 : ((K1 : Int) == 3) = false := bF.2 (by omega);have q1 : ((K1 : Int) == 1) = false := bF.2 (by omega);have q7 : ((K1 : Int) == 7) = false := bF.2 (by omega);have q2 : ((K1 : Int) == 2) = false := bF.2 (by omega);clear c4 c5 c6 c3 c1 c7 c2
 go_enter Tryz.func167, Tryz.ntmps167
 go_wp2_with fail;refine (HK.out _ H0.out.r.p).mono ?_;rintro e w1 ⟨rfl, hb1⟩;have H1 := hI ((H0.out.low hb1).boxT 41 #[ι K1, ι O1, .string S1, ι I1]);clear hb1 HK b0 b1 b2 b3;go_upto_region 4 with (fail)
 generalize w1.alloc (.cells #[ι K1, ι O1, .string S1, ι I1] 41) = wa at H1 ⊢;generalize w1.heap.size = kq at H1 ⊢;obtain ⟨⟨t0, t1, t2, t3⟩, -⟩ := box4' (H1.out.bx (q := kq) (c := #[ι K1, ι O1, .string S1, ι I1]) (by simp));go_wp2_with fail;refine (HW.out _ H1.out.r.p).mono ?_;rintro e w2 ⟨rfl, hg2, hp2⟩;have H2 := hI (H1.out.next hg2 hp2);clear hg2 hp2;have H3 := hI (H2.out.leaf 0 ⟨#[]⟩ 0 0 ⟨#[]⟩ (by decide) (by decide));have x0 := H3.out.r.cells;go_wp2_with fail;refine post9 Tryz.results167 rfl rfl (H3.out.r.r.put9z _ _ _ _ _ _ _ _ _) ?_;exact retF_of (H3.out.close (by first | exact mC | simp))
theorem primary_any {L : List Fk} (hL : TokL L) {gt C g : Nat} {call : Ru → PM} (n : Nat) (hn : n ≤ 400000) (hA : OkA L gt C g call) : OkF L gt C g 167 (primM L call n) := by
 intro W σ t τ hP hm
 cases hbb : σ.bad with
 | true => exact prim_b hL n W σ t τ hbb hP hm
 | false =>
  by_cases c4 : (tk L σ.k).k = 4
  · exact prim_4 hL n hn hA W σ t τ hbb  c4 hP hm
  by_cases c5 : (tk L σ.k).k = 5
  · exact prim_5 hL n hn hA W σ t τ hbb c4 c5 hP hm
  by_cases c6 : (tk L σ.k).k = 6
  · exact prim_6 hL n hn hA W σ t τ hbb c4 c5 c6 hP hm
  by_cases c3 : (tk L σ.k).k = 3
  · exact prim_3 hL n hn hA W σ t τ hbb c4 c5 c6 c3 hP hm
  by_cases c1 : (tk L σ.k).k = 1
  · exact prim_1 hL n hn hA W σ t τ hbb c4 c5 c6 c3 c1 hP hm
  by_cases c7 : (tk L σ.k).k = 7
  · exact prim_7 hL n hn hA W σ t τ hbb c4 c5 c6 c3 c1 c7 hP hm
  by_cases c2 : (tk L σ.k).k = 2
  · exact prim_2 hL n hn hA W σ t τ hbb c4 c5 c6 c3 c1 c7 c2 hP hm
  exact prim_e hL n hn hA W σ t τ hbb c4 c5 c6 c3 c1 c7 c2 hP hm
theorem rules_ok {L : List Fk} (hL : TokL L) (hO : ∀ k, (tk L k).o ≤ 8192) {gt C g : Nat} : ∀ n, n ≤ 400000 → OkA L gt C g (run L n)
 | 0, hn => fun r W σ t τ hP hm => by cases hm
 | n + 1, hn => fun r => by
  have ih := rules_ok hL hO (gt := gt) (C := C) (g := g) n (by omega)
  cases r
  · exact filter_any hL ih
  · exact comma_any hL n ih
  · exact update_any hL ih
  · exact alt_any hL ih
  · exact or_any hL n ih
  · exact and_any hL n ih
  · exact cmp_any hL ih
  · exact sum_any hL n ih
  · exact product_any hL n ih
  · exact unary_any hL ih
  · exact operand_any hL n (by omega) hO ih
  · exact postfix_any hL n ih
  · exact primary_any hL n (by omega) ih
  · exact branch_any hL ih
end Go.Proofs.YtoleoimmpggldaaGreatDoor.Rx
namespace Go.Proofs.YtoleoimmpggldaaGreatDoor.Rx
open Go.RowKit
def parseP (l : List UInt8) : Ft × Nat × Nat := match (lexFP l).ts with
 | none => (zf, (lexFP l).p, (lexFP l).e)
 | some ts => parseT ts l.length
theorem parseP_eq (l : List UInt8) : parseP l = Go.Proofs.YtoleoimmpggldaaGreatDoor.parseP l := by
 unfold parseP Go.Proofs.YtoleoimmpggldaaGreatDoor.parseP
 cases hts : (lexFP l).ts with
 | none => rfl
 | some ts =>
  dsimp only;have hl := lexFP_e hts;obtain ⟨hE, -, -, -⟩ := lex_tok hl;obtain ⟨hK, hz⟩ := lex_knd hl;exact (parse_both hE hK hz).1
structure QSt (L : List Fk) (gt C g : Nat) (w X : World) (σ : PS) (q : Nat) (f : Ft) (cs : Array Value) : Prop where
 hb : Below w.heap.size w X
 r : Box X w.heap.size 29 z9
 bq : Box X q 29 cs
 p : PAt L gt C g X σ
 l : LiesF X (fun b => w.heap.size < b ∧ b < X.heap.size ∧ b ≠ g) f cs.toList
 g1 : w.heap.size < g
 q1 : w.heap.size < q
 gq : g ≠ q
section
variable {L : List Fk} {gt C g : Nat} {w X X' : World} {σ τ : PS} {q : Nat} {f : Ft} {cs : Array Value}
theorem QSt.low (h : QSt L gt C g w X σ q f cs) (hb : Below X.heap.size X X') : QSt L gt C g w X' σ q f cs :=
 ⟨h.hb.trans (hb.mono h.hb.size), h.r.below hb h.r.lt, h.bq.below hb h.bq.lt, h.p.next hb, LiesF.move h.l fun b hb' => ⟨⟨hb'.1, nT hb'.2.1 hb.size, hb'.2.2⟩, hb.block b hb'.2.1⟩, h.g1, h.q1, h.gq⟩
theorem QSt.next (h : QSt L gt C g w X σ q f cs) (hg : Gr g X X') (hp : PAt L gt C g X' τ) : QSt L gt C g w X' τ q f cs :=
 ⟨below_of_gr h.hb (Nat.le_of_lt h.g1) hg, h.r.grown hg (by intro e; injection e with e; have := h.g1; omega), h.bq.grown hg (by intro e; injection e with e; exact h.gq e.symm), hp, LiesF.move h.l fun b hb => ⟨⟨hb.1, nT hb.2.1 hg.size, hb.2.2⟩, hg.block hb.2.1 hb.2.2⟩, h.g1, h.q1, h.gq⟩
end
theorem rparse_any (s : ByteArray) (hs0 : s.size ≤ 281474976710656) (w : World) : Calls Tryz.prog 7 #[.string s] w (FParsePost w (parseP s.data.toList)) := by
 have HX := hI (fun W => rflex_any s hs0 W);have HB0 := hI ((Below.refl w.heap.size w).alloc (Nat.le_refl _) (.cells z9 29));have HSL := hI (show s.data.toList.length = s.size by simp);unfold parseP
 cases hts : (lexFP s.data.toList).ts with
 | none =>
  dsimp only;have he : ¬ (lexFP s.data.toList).e = 0 := by
   intro h0;obtain ⟨us, h1⟩ := lexFP_some h0;rw [h1] at hts;simp at hts
  generalize lexFP s.data.toList = r at HX hts he ⊢;obtain ⟨ts, p, e⟩ := r;dsimp only at hts he ⊢;subst hts;have qe : ((e : Int) != 0) = true := by rw [bne_iff_ne]; omega
  clear hs0 he
  go_enter Tryz.func7, Tryz.ntmps7
  go_wp2_with fail;refine (HX.out _).mono ?_;rintro e1 w1 ⟨hb1, A, n, c, rfl, rfl, rfl, rfl⟩;have HR := hI (Box.below (Box.laid w 29 z9) hb1 (by simp));have HB1 := hI (HB0.out.trans (hb1.mono (by simp)));have x0 := box9z HR.out;clear hb1;go_wp2_with fail;refine post9t Tryz.results7 rfl rfl rfl rfl (HR.out.put9z _ _ _ _ _ _ _ _ _) ?_;exact ⟨_, _, _, _, _, _, _, _, _, rfl, below9' HB1.out (Nat.le_refl _) _ _ _ _ _ _ _ _ _, zf_lies _ _⟩
 | some ts =>
  dsimp only;have hl := lexFP_e hts;obtain ⟨hEnd, hSz, hLen, -⟩ := lex_tok hl;obtain ⟨hKnd, hOff⟩ := lex_knd hl;have hL : TokL ts := ⟨hEnd, hSz, by omega⟩
  have hO : ∀ k, (tk ts k).o ≤ 8192 := lex_off hl;obtain ⟨f, σ, hrun, hσ⟩ := (parse_both hEnd hKnd hOff).2;have hpos := hEnd.pos;rw [hl] at HX;have HF := hI (fun gt C g W (h : PAt ts gt C g W ⟨0, false, 0⟩) => rules_ok hL hO (gt := gt) (C := C) (g := g) (40 * ts.length + 20) (by omega) .filter W _ f σ h hrun);have HK0 := hI (fun gt C g W σ (h : PAt ts gt C g W σ) => peek_any (gt := gt) (C := C) (g := g) h);have HW0 := hI (fun gt C g W σ (h : PAt ts gt C g W σ) => wrong_any (gt := gt) (C := C) (g := g) h);unfold parseT;rw [hrun];dsimp only;rw [HSL.out];obtain ⟨R, hR⟩ : ∃ R, (if σ.bad = true ∨ (tk ts σ.k).k ≠ 0 then (if (tk ts σ.k).k = 0 then (zf, s.size, 5) else (zf, (tk ts σ.k).o, 4)) else if 0 < σ.long then (zf, σ.long - 1, 2) else (f, 0, 0)) = R := ⟨_, rfl⟩
  rw [hR];have HRR := hI hR;clear hR;have hts4 : ts.length ≤ 4096 := by omega
  have hl8 : σ.long ≤ 8193 := lg_run hO _ _ _ (Nat.zero_le _) _ _ hrun;clear hs0 hts hl hEnd hSz hrun hKnd hOff hO hL
  go_enter Tryz.func7, Tryz.ntmps7
  go_wp2_with fail;refine (HX.out _).mono ?_;rintro e1 w1 ⟨hb1, A, n, c, rfl, h1, h2⟩;subst h1;obtain ⟨gt, rfl, hge, hlt, hnc, hrow⟩ := own_zero h2 hpos;have hw1 : w.heap.size < w1.heap.size := by have := hb1.size; simp at this; omega
  have HR1 := hI (Box.below (Box.laid w 29 z9) hb1 (by simp));have HB1 := hI (HB0.out.trans (hb1.mono (by simp)));have HP1 : Hid (PAt ts gt c w1.heap.size (w1.alloc (.cells #[.slice (some ⟨gt, 0, none⟩) ts.length c, ι 0, .bool false, ι 0] 49)) ⟨0, false, 0⟩) := hI ⟨hpos, by omega, by simp; omega, hnc, hts4, by
   have h := Box.laid w1 49 #[.slice (some ⟨gt, 0, none⟩) ts.length c, ι 0, .bool false, ι 0]
   simpa [pcells] using h, fun j u hj => by
   rw [World.cell?_alloc_lt w1 _ _ hlt];exact hrow j u hj⟩
  clear hb1 h2 hrow hge;go_wp2_with fail;refine (HF.out _ _ _ _ HP1.out).mono ?_;rintro e2 w2 ⟨c10, c11, c12, c13, c14, c15, c16, c17, c18, rfl, hg2, hp2, hl2⟩;obtain ⟨Z1, rfl, rfl, rfl, rfl, rfl, rfl, rfl, rfl, rfl⟩ := fr9 hl2;have hsz2 : w1.heap.size + 1 ≤ w2.heap.size := by have := hg2.size; simpa using this
  have HQ : Hid (QSt ts gt c w1.heap.size w (w2.alloc (.cells Z1.c 29)) σ w2.heap.size f Z1.c) := hI (by
   have hb2 := (below_of_gr (HB1.out.alloc (Nat.le_of_lt hw1) (.cells #[.slice (some ⟨gt, 0, none⟩) ts.length c, ι 0, .bool false, ι 0] 49)) (Nat.le_of_lt hw1) hg2)
   refine ⟨hb2.alloc (by omega) _, (Box.grown (HR1.out.alloc _) hg2 (by intro e; injection e with e; omega)).alloc _, Box.laid _ _ _, hp2.alloc _, LiesF.move hl2 fun b hb => ⟨⟨by have := hb.1; simp at this; omega, by simp; have := hb.2; omega, by have := hb.1; simp at this; omega⟩, Below.heap_alloc _ _ _ hb.2⟩, hw1, by omega, by omega⟩)
  have HK := hI (fun W σ h => HK0.out gt c w1.heap.size W σ h);have HW := hI (fun W h => HW0.out gt c w1.heap.size W σ h);clear hg2 hp2 hl2 HF HK0 HW0 HP1 HB1 HR1 HX;go_upto_region 6 with (fail)
  generalize w2.alloc (.cells Z1.c 29) = w3 at HQ ⊢;generalize w2.heap.size = q at HQ ⊢;generalize w1.heap.size = g at HQ HK HW ⊢;have H3 := HQ;have hgn := H3.out.g1;clear HQ hsz2 hw1 hlt;have hf0 := field_kind (tk ts σ.k);have hf1 := field_off (tk ts σ.k);obtain ⟨bb, hbb⟩ : ∃ b, σ.bad = b := ⟨_, rfl⟩
  obtain ⟨⟨b0, b1, b2, b3⟩, -⟩ := box4' H3.out.p.box;have hlg3 := H3.out.p.glt;rw [hbb] at b2
  cases bb with
  | true =>
   have hR := HRR.out;clear HRR;rw [if_pos (Or.inl hbb)] at hR;have HKs := hI (fun W h => HK.out W σ h)
   by_cases h0 : (tk ts σ.k).k = 0
   · rw [if_pos h0] at hR;subst hR;have q0 : (((tk ts σ.k).k : Int) == 0) = true := by rw [beq_iff_eq]; omega
     generalize tk ts σ.k = tt at *
     clear h0 hbb;go_upto_region 8 with (fail)
     go_wp2_with fail;refine (HKs.out _ H3.out.p).mono ?_;rintro e w4 ⟨rfl, hb4⟩;have H4 := hI (H3.out.low hb4);clear hb4;have x0 := box9z H4.out.r;have hr4 := H4.out.r.lt;go_wp2_with fail;refine post9t Tryz.results7 rfl rfl rfl rfl ((H4.out.r.put9z _ _ _ _ _ _ _ _ _)) ?_;exact ⟨_, _, _, _, _, _, _, _, _, rfl, (below9' H4.out.hb (Nat.le_refl _) _ _ _ _ _ _ _ _ _), zf_lies _ _⟩
   · rw [if_neg h0] at hR;subst hR;have q0 : (((tk ts σ.k).k : Int) == 0) = false := bF.2 (by omega);generalize tk ts σ.k = tt at *
     clear h0;go_upto_region 8 with (fail)
     go_wp2_with fail;refine (HKs.out _ H3.out.p).mono ?_;rintro e w4 ⟨rfl, hb4⟩;have H4 := hI (H3.out.low hb4);clear hb4 b0 b1 b2 b3;obtain ⟨⟨b0, b1, b2, b3⟩, -⟩ := box4' H4.out.p.box;have hlg4 := H4.out.p.glt;rw [hbb] at b2;clear hbb;go_wp2_with fail;refine (HKs.out _ H4.out.p).mono ?_;rintro e w5 ⟨rfl, hb5⟩;have H5 := hI (H4.out.low hb5);clear hb5;have x0 := box9z H5.out.r;have hr5 := H5.out.r.lt;go_wp2_with fail;refine post9t Tryz.results7 rfl rfl rfl rfl ((H5.out.r.put9z _ _ _ _ _ _ _ _ _)) ?_;exact ⟨_, _, _, _, _, _, _, _, _, rfl, (below9' H5.out.hb (Nat.le_refl _) _ _ _ _ _ _ _ _ _), zf_lies _ _⟩
  | false =>
   by_cases h0 : (tk ts σ.k).k = 0
   · have hR := HRR.out;clear HRR;rw [if_neg (by rw [hbb, h0]; simp)] at hR;have HRR := hI hR;clear hR;have q0 : (((tk ts σ.k).k : Int) != 0) = false := by rw [bne_eq_false_iff_eq]; omega
     have HKs := hI (fun W h => HK.out W σ h);generalize tk ts σ.k = tt at *
     clear h0;go_wp2_with fail;refine (HKs.out _ H3.out.p).mono ?_;rintro e w4 ⟨rfl, hb4⟩;have H4 := hI (H3.out.low hb4);clear hb4 b0 b1 b2 b3;obtain ⟨⟨b0, b1, b2, b3⟩, -⟩ := box4' H4.out.p.box;have hlg4 := H4.out.p.glt;rw [hbb] at b2;clear hbb;have x0 := box9z H4.out.r;have hr4 := H4.out.r.lt;have v0 := box9 H4.out.bq;have hq4 := H4.out.bq.lt
     by_cases hlg : 0 < σ.long
     · have hR := HRR.out;clear HRR;rw [if_pos hlg] at hR;subst hR;have d1 : decide ((0 : Int) < (σ.long : Int)) = true := decide_eq_true (by omega);have e1 : ((σ.long - 1 : Nat) : Int) = (σ.long : Int) - 1 := by omega
       have hl9 : (σ.long : Int) ≤ 8193 := by omega
       have hl7 : 0 < (σ.long : Int) := by omega
       obtain ⟨n, hn⟩ : ∃ n, σ.long - 1 = n := ⟨_, rfl⟩
       rw [hn] at e1 ⊢;have HNE := hI e1;generalize (σ.long : Int) = ll at *
       go_wp2_with fail;have HBB := hI H4.out.hb;clear v0 hq4 q0 HK HW HB0 HSL hf0 hf1 b0 b1 b2;have hgr : ¬ g = w.heap.size := by omega
       have hgr2 : ¬ w.heap.size = g := by omega
       go_region
       all_goals go_wp2_with fail
       refine post9t Tryz.results7 rfl rfl rfl rfl (Box.drewOne (H4.out.r.put9z _ _ _ _ _ _ _ _ _)) ?_;exact ⟨_, _, _, _, _, _, _, _, _, (by have h := HNE.out; dsimp only; rw [hn, h]; rfl), (below9' H4.out.hb (Nat.le_refl _) _ _ _ _ _ _ _ _ _).drew, zf_lies _ _⟩
     · have hR := HRR.out;clear HRR;rw [if_neg hlg] at hR;subst hR;have d1 : decide ((0 : Int) < (σ.long : Int)) = false := decide_eq_false (by omega);go_wp2_with fail;refine post9t Tryz.results7 rfl rfl rfl rfl (H4.out.r.put9z _ _ _ _ _ _ _ _ _) ?_;refine ⟨_, _, _, _, _, _, _, _, _, rfl, below9' H4.out.hb (Nat.le_refl _) _ _ _ _ _ _ _ _ _, LiesF.move H4.out.l fun b hb => ?_⟩;rw [size9];exact ⟨⟨by omega, hb.2.1⟩, heap9 _ _ _ _ _ _ _ _ _ _ _ b (by omega)⟩
   · have hR := HRR.out;clear HRR;rw [if_pos (Or.inr h0), if_neg h0] at hR;subst hR;have q0 : (((tk ts σ.k).k : Int) != 0) = true := by rw [bne_iff_ne]; omega
     have q1 : (((tk ts σ.k).k : Int) == 0) = false := bF.2 (by omega);have HKs := hI (fun W h => HK.out W σ h);have HKw := hI (fun W h => HK.out W (wr σ) h);have HTW : Hid (tk ts (wr σ).k = tk ts σ.k) := hI rfl;rw [HTW.out] at HKw;generalize tk ts σ.k = tt at *
     clear h0 HTW hbb;go_wp2_with fail;refine (HKs.out _ H3.out.p).mono ?_;rintro e w4 ⟨rfl, hb4⟩;have H4 := hI (H3.out.low hb4);clear hb4 b0 b1 b2 b3;go_wp2_with fail;refine (HW.out _ H4.out.p).mono ?_;rintro e w5 ⟨rfl, hg5, hp5⟩;have H5 := hI (H4.out.next hg5 hp5);clear hg5 hp5;obtain ⟨⟨b0, b1, b2, b3⟩, -⟩ := box4' H5.out.p.box;have hlg5 := H5.out.p.glt;go_wp2_with fail;refine (HKw.out _ H5.out.p).mono ?_;rintro e w6 ⟨rfl, hb6⟩;have H6 := hI (H5.out.low hb6);clear hb6 b0 b1 b2 b3;obtain ⟨⟨b0, b1, b2, b3⟩, -⟩ := box4' H6.out.p.box;have hlg6 := H6.out.p.glt;go_wp2_with fail;refine (HKw.out _ H6.out.p).mono ?_;rintro e w7 ⟨rfl, hb7⟩;have H7 := hI (H6.out.low hb7);clear hb7;have x0 := box9z H7.out.r;have hr7 := H7.out.r.lt;go_wp2_with fail;refine post9t Tryz.results7 rfl rfl rfl rfl ((H7.out.r.put9z _ _ _ _ _ _ _ _ _)) ?_;exact ⟨_, _, _, _, _, _, _, _, _, rfl, (below9' H7.out.hb (Nat.le_refl _) _ _ _ _ _ _ _ _ _), zf_lies _ _⟩
