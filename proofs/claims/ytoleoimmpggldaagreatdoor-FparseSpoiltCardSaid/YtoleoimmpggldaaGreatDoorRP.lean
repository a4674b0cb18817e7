import Derived.Test.YtoleoimmpggldaaGreatDoorQD
import Derived.Test.YtoleoimmpggldaaGreatDoorYo
set_option linter.unusedVariables false
set_option linter.unusedSimpArgs false
set_option linter.unusedSectionVars false
namespace Go.Proofs.YtoleoimmpggldaaGreatDoor.Rx
open Go.RowKit
structure PS where
 k : Nat
 bad : Bool
 long : Nat
def bnd {α β : Type} (x : Option (α × PS)) (f : α → PS → Option (β × PS)) : Option (β × PS) := match x with
 | none => none
 | some (a, σ) => f a σ
theorem bnd_some {α β : Type} {x : Option (α × PS)} {f : α → PS → Option (β × PS)} {r : β × PS} (h : bnd x f = some r) : ∃ a σ, x = some (a, σ) ∧ f a σ = some r := by
 cases x with
 | none => exact absurd h (by simp [bnd])
 | some p => exact ⟨p.1, p.2, rfl, h⟩
abbrev PM := PS → Option (Ft × PS)
section
variable (L : List Fk)
def sees (x : ByteArray) (σ : PS) : Bool := !σ.bad && (isW (tk L σ.k) && decide ((tk L σ.k).s = x))
def adv (σ : PS) : PS := { σ with k := σ.k + 1 }
def wr (σ : PS) : PS := { σ with bad := true }
def needP (x : ByteArray) (σ : PS) : PS := if sees L x σ = true then adv σ else wr σ
def hitK (K : Nat) (σ : PS) : Bool := !σ.bad && decide ((tk L σ.k).k = K)
def kindS (K : Nat) (σ : PS) : PS := if hitK L K σ = true then adv σ else wr σ
def kindT (K : Nat) (σ : PS) : Fk := if hitK L K σ = true then tk L σ.k else zeroK
def anyP (xs : List ByteArray) (σ : PS) : Bool := !σ.bad && (isW (tk L σ.k) && memB (tk L σ.k).s xs)
def pairM (l r : PM) (op : Int) (sg : List ByteArray) : PM := fun σ =>
 bnd (l σ) fun f σ1 => if anyP L sg σ1 = true then bnd (r (adv σ1)) fun u σ2 => some (joinF op (tk L σ1.k).s f u, σ2) else some (f, σ1)
def chainL (m : PM) (op : Int) (sg : List ByteArray) : Nat → Ft → PM
 | 0, _ => fun _ => none
 | n + 1, f => fun σ => if anyP L sg σ = true then bnd (m (adv σ)) fun u σ2 => chainL m op sg n (joinF op (tk L σ.k).s f u) σ2 else some (f, σ)
def chainM (m : PM) (op : Int) (sg : List ByteArray) (n : Nat) : PM := fun σ => bnd (m σ) fun f σ1 => chainL L m op sg n f σ1
def listL {α : Type} (m : PS → Option (α × PS)) : Nat → List α → PS → Option (List α × PS)
 | 0, _ => fun _ => none
 | n + 1, l => fun σ => if sees L (⟨#[59]⟩ : ByteArray) σ = true then bnd (m (adv σ)) fun a σ1 => listL m n (l ++ [a]) σ1 else some (l, needP L (⟨#[41]⟩ : ByteArray) σ)
def listM {α : Type} (m : PS → Option (α × PS)) (n : Nat) (σ : PS) : Option (List α × PS) := bnd (m σ) fun a σ1 => listL L m n [a] σ1
section
variable (call : Ru → PM) (n : Nat)
def beforeM (x : ByteArray) : PM := fun σ => bnd (call .filter σ) fun f σ1 => some (f, needP L x σ1)
def scopeM (op : Int) (subs : List Ft) : PM := fun σ =>
 bnd (call .filter (needP L (⟨#[124]⟩ : ByteArray) (kindS L 3 σ))) fun f σ1 => some (.mk op (kindT L 3 σ).s vz [] (subs ++ [f]), σ1)
def paramM (σ : PS) : Option (ByteArray × PS) :=
 if σ.bad = true then some (⟨#[]⟩, σ) else if (tk L σ.k).k = 3 then some ((⟨#[36]⟩ : ByteArray) ++ (tk L σ.k).s, adv σ) else some ((kindT L 1 σ).s, kindS L 1 σ)
def longP (ps : List ByteArray) (o : Nat) (σ : PS) : PS := if σ.bad = false ∧ 8 < ps.length ∧ σ.long = 0 then { σ with long := o + 1 } else σ
def paramsM (σ : PS) : Option (List ByteArray × PS) := if sees L (⟨#[40]⟩ : ByteArray) σ = true then listM L (paramM L) n (adv σ) else some ([], σ)
def defM : PM := fun σ =>
 bnd (paramsM L n (kindS L 1 σ)) fun ps σ1 =>
 bnd (call .filter (needP L (⟨#[58]⟩ : ByteArray) (longP ps (kindT L 1 σ).o σ1))) fun f σ2 =>
 bnd (call .filter (needP L (⟨#[59]⟩ : ByteArray) σ2)) fun u σ3 => some (.mk 26 (kindT L 1 σ).s vz ps [f, u], σ3)
def bracketM (f : Ft) : PM := fun σ =>
 if sees L (⟨#[93]⟩ : ByteArray) σ = true then some (nodeF 6 [f], adv σ)
 else if sees L (⟨#[58]⟩ : ByteArray) σ = true then bnd (beforeM L call (⟨#[93]⟩ : ByteArray) (adv σ)) fun u σ1 => some (nodeF 5 [f, nullF, u], σ1)
 else bnd (call .filter σ) fun u σ1 =>
  if sees L (⟨#[58]⟩ : ByteArray) σ1 = true then
   if sees L (⟨#[93]⟩ : ByteArray) (adv σ1) = true then some (nodeF 5 [f, u, nullF], adv (adv σ1))
   else bnd (beforeM L call (⟨#[93]⟩ : ByteArray) (adv σ1)) fun v σ2 => some (nodeF 5 [f, u, v], σ2)
  else some (nodeF 4 [f, u], needP L (⟨#[93]⟩ : ByteArray) σ1)
def postL : Nat → Ft → PM
 | 0, _ => fun _ => none
 | m + 1, f => fun σ => if σ.bad = true then some (f, σ)
  else if (tk L σ.k).k = 4 then postL m (fieldF f (tk L σ.k).s) (adv σ)
  else if sees L (⟨#[46]⟩ : ByteArray) σ = true then postL m (fieldF f (kindT L 6 (adv σ)).s) (kindS L 6 (adv σ))
  else if sees L (⟨#[91]⟩ : ByteArray) σ = true then bnd (bracketM L call f (adv σ)) fun u σ1 => postL m u σ1
  else if sees L (⟨#[63]⟩ : ByteArray) σ = true then postL m (nodeF 19 [f]) (adv σ)
  else some (f, σ)
def entryM (l : List Ft) (σ : PS) : Option (List Ft × PS) :=
 if σ.bad = true then some (l, σ)
 else if (tk L σ.k).k = 1 ∨ (tk L σ.k).k = 2 ∨ (tk L σ.k).k = 6 then
  if sees L (⟨#[58]⟩ : ByteArray) (adv σ) = true then bnd (call .alt (adv (adv σ))) fun u σ1 => some (l ++ [textF (tk L σ.k).s, u], σ1)
  else some (l ++ [textF (tk L σ.k).s, fieldF identF (tk L σ.k).s], adv σ)
 else if (tk L σ.k).k = 3 then some (l ++ [textF (tk L σ.k).s, varF (tk L σ.k).s], adv σ)
 else bnd (call .filter (needP L (⟨#[40]⟩ : ByteArray) σ)) fun f σ1 => bnd (call .alt (needP L (⟨#[58]⟩ : ByteArray) (needP L (⟨#[41]⟩ : ByteArray) σ1))) fun u σ2 => some (l ++ [f, u], σ2)
def objL : Nat → List Ft → PM
 | 0, _ => fun _ => none
 | m + 1, l => fun σ => if sees L (⟨#[44]⟩ : ByteArray) σ = true then bnd (entryM L call l (adv σ)) fun l' σ1 => objL m l' σ1 else some (nodeF 10 l, needP L (⟨#[125]⟩ : ByteArray) σ)
def callM (s : ByteArray) : PM := fun σ =>
 if sees L (⟨#[40]⟩ : ByteArray) σ = true then bnd (listM L (call .filter) n (adv σ)) fun l σ1 => some (.mk 25 s vz [] l, σ1)
 else if s = (⟨#[105, 110, 112, 117, 116, 115]⟩ : ByteArray) then some (nodeF 28 [], σ) else some (.mk 25 s vz [] [], σ)
def signedM (s : ByteArray) : PM := fun σ =>
 if s = (⟨#[46]⟩ : ByteArray) then (if (tk L (adv σ).k).k = 6 then some (fieldF identF (kindT L 6 (adv σ)).s, kindS L 6 (adv σ)) else some (identF, adv σ))
 else if s = (⟨#[46, 46]⟩ : ByteArray) then some (nodeF 2 [], adv σ)
 else if s = (⟨#[40]⟩ : ByteArray) then beforeM L call (⟨#[41]⟩ : ByteArray) (adv σ)
 else if s = (⟨#[91]⟩ : ByteArray) then (if sees L (⟨#[93]⟩ : ByteArray) (adv σ) = true then some (nodeF 9 [], adv (adv σ)) else bnd (beforeM L call (⟨#[93]⟩ : ByteArray) (adv σ)) fun f σ1 => some (nodeF 9 [f], σ1))
 else if s = (⟨#[123]⟩ : ByteArray) then (if sees L (⟨#[125]⟩ : ByteArray) (adv σ) = true then some (nodeF 10 [], adv (adv σ)) else bnd (entryM L call [] (adv σ)) fun l σ1 => objL L call n l σ1)
 else some (zf, wr σ)
def branchM : PM := fun σ => bnd (call .filter σ) fun c σ1 => bnd (call .filter (needP L (⟨#[116, 104, 101, 110]⟩ : ByteArray) σ1)) fun a σ2 =>
 if sees L (⟨#[101, 108, 105, 102]⟩ : ByteArray) σ2 = true then bnd (call .condition (adv σ2)) fun b σ3 => some (nodeF 18 [c, a, b], σ3)
 else if sees L (⟨#[101, 108, 115, 101]⟩ : ByteArray) σ2 = true then bnd (call .filter (adv σ2)) fun b σ3 => some (nodeF 18 [c, a, b], needP L (⟨#[101, 110, 100]⟩ : ByteArray) σ3)
 else some (nodeF 18 [c, a, identF], needP L (⟨#[101, 110, 100]⟩ : ByteArray) σ2)
def loopM (each : Bool) : PM := fun σ => bnd (call .post σ) fun s σ1 =>
 bnd (call .filter (needP L (⟨#[40]⟩ : ByteArray) (kindS L 3 (needP L (⟨#[97, 115]⟩ : ByteArray) σ1)))) fun i σ2 => bnd (call .filter (needP L (⟨#[59]⟩ : ByteArray) σ2)) fun u σ3 =>
 if each = false then some (.mk 20 (kindT L 3 (needP L (⟨#[97, 115]⟩ : ByteArray) σ1)).s vz [] [s, i, u], needP L (⟨#[41]⟩ : ByteArray) σ3)
 else if sees L (⟨#[59]⟩ : ByteArray) σ3 = true then bnd (call .filter (adv σ3)) fun x σ4 => some (.mk 21 (kindT L 3 (needP L (⟨#[97, 115]⟩ : ByteArray) σ1)).s vz [] [s, i, u, x], needP L (⟨#[41]⟩ : ByteArray) σ4)
 else some (.mk 21 (kindT L 3 (needP L (⟨#[97, 115]⟩ : ByteArray) σ1)).s vz [] [s, i, u, identF], needP L (⟨#[41]⟩ : ByteArray) σ3)
def keyedM (s : ByteArray) : PM := fun σ =>
 if s = (⟨#[116, 114, 117, 101]⟩ : ByteArray) then some (litF (.mk 2 0 ⟨#[]⟩ [] []), adv σ)
 else if s = (⟨#[102, 97, 108, 115, 101]⟩ : ByteArray) then some (litF (.mk 1 0 ⟨#[]⟩ [] []), adv σ)
 else if s = (⟨#[110, 117, 108, 108]⟩ : ByteArray) then some (nullF, adv σ)
 else if s = (⟨#[105, 102]⟩ : ByteArray) then call .condition (adv σ)
 else if s = (⟨#[116, 114, 121]⟩ : ByteArray) then bnd (call .post (adv σ)) fun f σ1 => if sees L (⟨#[99, 97, 116, 99, 104]⟩ : ByteArray) σ1 = true then bnd (call .post (adv σ1)) fun u σ2 => some (nodeF 19 [f, u], σ2) else some (nodeF 19 [f], σ1)
 else if s = (⟨#[98, 114, 101, 97, 107]⟩ : ByteArray) then some (.mk 23 (kindT L 3 (adv σ)).s vz [] [], kindS L 3 (adv σ))
 else if s = (⟨#[114, 101, 100, 117, 99, 101]⟩ : ByteArray) then loopM L call false (adv σ)
 else if s = (⟨#[102, 111, 114, 101, 97, 99, 104]⟩ : ByteArray) then loopM L call true (adv σ)
 else some (zf, wr σ)
def primM : PM := fun σ =>
 if σ.bad = true then some (zf, σ)
 else if (tk L σ.k).k = 4 then some (fieldF identF (tk L σ.k).s, adv σ)
 else if (tk L σ.k).k = 5 then some (litF (.mk 3 (tk L σ.k).i ⟨#[]⟩ [] []), adv σ)
 else if (tk L σ.k).k = 6 then some (textF (tk L σ.k).s, adv σ)
 else if (tk L σ.k).k = 3 then some (varF (tk L σ.k).s, adv σ)
 else if (tk L σ.k).k = 1 then callM L call n (tk L σ.k).s (adv σ)
 else if (tk L σ.k).k = 7 then signedM L call n (tk L σ.k).s σ
 else if (tk L σ.k).k = 2 then keyedM L call (tk L σ.k).s σ
 else some (zf, wr σ)
def operM : PM := fun σ =>
 if sees L (⟨#[108, 97, 98, 101, 108]⟩ : ByteArray) σ = true then scopeM L call 22 [] (adv σ)
 else if sees L (⟨#[100, 101, 102]⟩ : ByteArray) σ = true then defM L call n (adv σ)
 else bnd (call .post σ) fun f σ1 => if sees L (⟨#[97, 115]⟩ : ByteArray) σ1 = true then scopeM L call 24 [f] (adv σ1) else some (f, σ1)
def unaryM : PM := fun σ => if sees L (⟨#[45]⟩ : ByteArray) σ = true then bnd (call .unary (adv σ)) fun f σ1 => some (nodeF 11 [f], σ1) else call .operand σ
def bodyM : Ru → PM
 | .filter => pairM L (call .comma) (call .filter) 12 [(⟨#[124]⟩ : ByteArray)]
 | .comma => chainM L (call .update) 13 [(⟨#[44]⟩ : ByteArray)] n
 | .update => pairM L (call .alt) (call .alt) 27 [(⟨#[61]⟩ : ByteArray), (⟨#[124, 61]⟩ : ByteArray), (⟨#[43, 61]⟩ : ByteArray), (⟨#[45, 61]⟩ : ByteArray), (⟨#[42, 61]⟩ : ByteArray), (⟨#[47, 61]⟩ : ByteArray), (⟨#[37, 61]⟩ : ByteArray)]
 | .alt => pairM L (call .or_) (call .alt) 14 [(⟨#[47, 47]⟩ : ByteArray)]
 | .or_ => chainM L (call .and_) 15 [(⟨#[111, 114]⟩ : ByteArray)] n
 | .and_ => chainM L (call .cmp) 16 [(⟨#[97, 110, 100]⟩ : ByteArray)] n
 | .cmp => pairM L (call .sum) (call .sum) 17 [(⟨#[61, 61]⟩ : ByteArray), (⟨#[33, 61]⟩ : ByteArray), (⟨#[60]⟩ : ByteArray), (⟨#[60, 61]⟩ : ByteArray), (⟨#[62]⟩ : ByteArray), (⟨#[62, 61]⟩ : ByteArray)]
 | .sum => chainM L (call .product) 17 [(⟨#[43]⟩ : ByteArray), (⟨#[45]⟩ : ByteArray)] n
 | .product => chainM L (call .unary) 17 [(⟨#[42]⟩ : ByteArray), (⟨#[47]⟩ : ByteArray), (⟨#[37]⟩ : ByteArray)] n
 | .unary => unaryM L call
 | .operand => operM L call n
 | .post => fun σ => bnd (call .primary σ) fun f σ1 => postL L call n f σ1
 | .primary => primM L call n
 | .condition => branchM L call
end
def run : Nat → Ru → PM
 | 0, _ => fun _ => none
 | n + 1, r => bodyM L (run n) n r
def parseT (z : Nat) : Ft × Nat × Nat := match run L (40 * L.length + 20) .filter ⟨0, false, 0⟩ with
 | none => (zf, 0, 0)
 | some (f, σ) =>
  if σ.bad = true ∨ (tk L σ.k).k ≠ 0 then (if (tk L σ.k).k = 0 then (zf, z, 5) else (zf, (tk L σ.k).o, 4))
  else if 0 < σ.long then (zf, σ.long - 1, 2) else (f, 0, 0)
end
end Go.Proofs.YtoleoimmpggldaaGreatDoor.Rx
namespace Go.Proofs.YtoleoimmpggldaaGreatDoor
open Go.RowKit
structure KndL (L : List Fk) : Prop where
 le : ∀ k, (tk L k).k ≤ 7
 sg : ∀ k, (tk L k).k = 7 → signsL.contains (tk L k).s.data.toList = true
 kw : ∀ k, (tk L k).k = 2 → kwB (tk L k).s.data.toList = true
def Rl (L : List Fk) (σ : PS) (ρ : Rx.PS) : Prop :=
 (σ.e = 0 ∧ σ.k < L.length ∧ ρ = ⟨σ.k, false, if σ.long = true then σ.lo + 1 else 0⟩) ∨
 (σ.e ≠ 0 ∧ σ.k = L.length - 1 ∧ ρ.bad = true ∧ ρ.k < L.length ∧ σ.o = (tk L ρ.k).o ∧ σ.e = if (tk L ρ.k).k = 0 then 5 else 4)
def Rq (L : List Fk) {α β : Type} (e0 : Nat) (q : α → β → Prop) (x : Option (α × PS)) (y : Option (β × Rx.PS)) : Prop :=
 ∀ a σ, x = some (a, σ) → ∃ b ρ, y = some (b, ρ) ∧ Rl L σ ρ ∧ (σ.e = 0 → e0 = 0 ∧ q a b)
section
variable {L : List Fk}
theorem Rq.none {α β : Type} {e0 : Nat} {q : α → β → Prop} {y : Option (β × Rx.PS)} : Rq L e0 q (Option.none : Option (α × PS)) y := fun a σ h => by cases h
theorem Rq.mk {α β : Type} {e0 : Nat} {q : α → β → Prop} {a : α} {b : β} {σ : PS} {ρ : Rx.PS} (h : Rl L σ ρ) (hq : σ.e = 0 → e0 = 0 ∧ q a b) : Rq L e0 q (some (a, σ)) (some (b, ρ)) := by
 intro a' σ' h';injection h' with h'
 injection h' with h1 h2
 subst h1; subst h2;exact ⟨b, ρ, rfl, h, hq⟩
theorem Rq.bnd {α β α' β' : Type} {e0 e1 : Nat} {q : α → β → Prop} {q' : α' → β' → Prop} {x : Option (α × PS)} {y : Option (β × Rx.PS)} {f : α → PS → Option (α' × PS)} {g : β → Rx.PS → Option (β' × Rx.PS)}
 (h : Rq L e1 q x y) (hf : ∀ a b σ ρ, Rl L σ ρ → (σ.e = 0 → e1 = 0 ∧ q a b) → Rq L e0 q' (f a σ) (g b ρ)) : Rq L e0 q' (bnd x f) (Rx.bnd y g) := by
 intro a' σ' h';obtain ⟨a, σ, h1, h2⟩ := bnd_some h';obtain ⟨b, ρ, rfl, h3, h4⟩ := h a σ h1;exact hf a b σ ρ h3 h4 a' σ' h2
theorem bnd_bnd {α β γ : Type} (x : Option (α × PS)) (f : α → PS → Option (β × PS)) (g : β → PS → Option (γ × PS)) : bnd (bnd x f) g = bnd x fun a σ => bnd (f a σ) g := by
 cases x <;> rfl
theorem bnd_mk {α β : Type} (a : α) (σ : PS) (f : α → PS → Option (β × PS)) : bnd (some (a, σ)) f = f a σ := rfl
theorem bnd_ite {α β : Type} {P : Prop} [Decidable P] (x y : Option (α × PS)) (f : α → PS → Option (β × PS)) : bnd (if P then x else y) f = if P then bnd x f else bnd y f := by
 split <;> rfl
theorem Rq.weak {α β : Type} {e0 e1 : Nat} {q q' : α → β → Prop} {x : Option (α × PS)} {y : Option (β × Rx.PS)} (h : Rq L e1 q x y) (hw : e1 = 0 → e0 = 0 ∧ ∀ a b, q a b → q' a b) : Rq L e0 q' x y := by
 intro a σ h';obtain ⟨b, ρ, h1, h2, h3⟩ := h a σ h';exact ⟨b, ρ, h1, h2, fun he => ⟨(hw (h3 he).1).1, (hw (h3 he).1).2 _ _ (h3 he).2⟩⟩
theorem Rq.ite {α β : Type} {e0 : Nat} {q : α → β → Prop} {P : Prop} [Decidable P] {a b : Option (α × PS)} {c d : Option (β × Rx.PS)} (h1 : P → Rq L e0 q a c) (h2 : ¬ P → Rq L e0 q b d) : Rq L e0 q (if P then a else b) (if P then c else d) := by
 split
 · exact h1 ‹_›
 · exact h2 ‹_›
theorem fail_e {t : Fk} {σ : PS} : ¬ (failP L t σ).e = 0 := by
 unfold failP
 split
 · dsimp only; split <;> omega
 · assumption
theorem need_e {x : ByteArray} {σ : PS} (h : (needP L x σ).e = 0) : σ.e = 0 := by
 unfold needP at h
 split at h
 · exact h
 · exact absurd h fail_e
theorem long_e {ps : List ByteArray} {o : Nat} {σ : PS} (h : (longP ps o σ).e = 0) : σ.e = 0 := by
 unfold longP at h
 split at h <;> exact h
variable (hE : EndL L)
include hE
theorem Rl.last {σ : PS} {ρ : Rx.PS} (h : Rl L σ ρ) (he : σ.e ≠ 0) : (tk L σ.k).k = 0 := by
 rcases h with h | h
 · exact absurd h.1 he
 · rw [h.2.1]; exact hE.last
theorem rl_any {σ : PS} {ρ : Rx.PS} (h : Rl L σ ρ) (xs : List ByteArray) : Rx.anyP L xs ρ = anyP L xs σ := by
 have hl := h.last hE;rcases h with ⟨_, _, rfl⟩ | ⟨h1, -, h3, -⟩
 · unfold Rx.anyP anyP; simp
 · unfold Rx.anyP anyP isW;rw [h3, hl h1]
   simp
theorem rl_sees {σ : PS} {ρ : Rx.PS} (h : Rl L σ ρ) (x : ByteArray) : Rx.sees L x ρ = sees L x σ := by
 have hl := h.last hE;rcases h with ⟨_, _, rfl⟩ | ⟨h1, -, h3, -⟩
 · unfold Rx.sees sees; simp
 · unfold Rx.sees sees isW;rw [h3, hl h1]
   simp
theorem rl_next {σ : PS} {ρ : Rx.PS} (h : Rl L σ ρ) (hk : (tk L σ.k).k ≠ 0) : Rl L (adv σ) (Rx.adv ρ) := by
 have hl := h.last hE;rcases h with ⟨h1, h2, rfl⟩ | h
 · exact Or.inl ⟨h1, hE.next h2 hk, rfl⟩
 · exact absurd (hl h.1) hk
theorem rl_adv {σ : PS} {ρ : Rx.PS} {x : ByteArray} (h : Rl L σ ρ) (hs : sees L x σ = true) : Rl L (adv σ) (Rx.adv ρ) := by
 refine rl_next hE h fun h0 => ?_
 unfold sees isW at hs;rw [h0] at hs;simp at hs
theorem rl_adv2 {σ : PS} {ρ : Rx.PS} {xs : List ByteArray} (h : Rl L σ ρ) (hs : anyP L xs σ = true) : Rl L (adv σ) (Rx.adv ρ) := by
 refine rl_next hE h fun h0 => ?_
 unfold anyP isW at hs;rw [h0] at hs;simp at hs
theorem rl_tk {σ : PS} {ρ : Rx.PS} (h : Rl L σ ρ) (he : σ.e = 0) : ρ.k = σ.k ∧ ρ.bad = false := by
 rcases h with ⟨h1, h2, rfl⟩ | h
 · exact ⟨rfl, rfl⟩
 · exact absurd he h.1
theorem rl_tkn {σ : PS} {ρ : Rx.PS} (h : Rl L σ ρ) (hk : (tk L σ.k).k ≠ 0) : σ.e = 0 ∧ ρ.k = σ.k ∧ ρ.bad = false := by
 have h0 : σ.e = 0 := Decidable.byContradiction fun hn => hk (h.last hE hn)
 exact ⟨h0, rl_tk hE h h0⟩
theorem rl_fail {σ τ : PS} {ρ : Rx.PS} (h : Rl L σ ρ) (h1 : τ = σ ∨ τ = readP L σ) : Rl L (failP L (tk L σ.k) τ) (Rx.wr ρ) := by
 have hl := h.last hE;have hp := hE.pos;have he : τ.e = σ.e := by
  rcases h1 with rfl | rfl
  · rfl
  · unfold readP; split <;> rfl
 have hk : σ.e ≠ 0 → τ.k = σ.k := by
  intro h0;rcases h1 with rfl | rfl
  · rfl
  · unfold readP; rw [if_pos (hl h0)]
 have ho : τ.o = σ.o := by
  rcases h1 with rfl | rfl
  · rfl
  · unfold readP; split <;> rfl
 rcases h with ⟨h2, h3, rfl⟩ | ⟨h2, h3, h4, h5, h6, h7⟩
 · refine Or.inr ⟨fail_e, ?_, rfl, h3, ?_, ?_⟩
   all_goals
    unfold failP;rw [if_pos (he.trans h2)]
   all_goals rfl
 · refine Or.inr ⟨fail_e, ?_, rfl, h5, ?_, ?_⟩
   all_goals
    unfold failP;rw [if_neg (fun h => h2 (he.symm.trans h))]
   · rw [hk h2, h3]
   · rw [ho, h6]; rfl
   · rw [he, h7]; rfl
theorem rl_need {σ : PS} {ρ : Rx.PS} (h : Rl L σ ρ) (x : ByteArray) : Rl L (needP L x σ) (Rx.needP L x ρ) := by
 unfold needP Rx.needP;rw [rl_sees hE h x]
 split
 · exact rl_adv hE h ‹_›
 · exact rl_fail hE h (Or.inl rfl)
theorem rl_kind {σ : PS} {ρ : Rx.PS} (h : Rl L σ ρ) {K : Nat} (hK : K ≠ 0) : Rl L (kindS L K σ) (Rx.kindS L K ρ) ∧ ((kindS L K σ).e = 0 → σ.e = 0 ∧ Rx.kindT L K ρ = tk L σ.k) := by
 have hl := h.last hE;unfold kindS Rx.kindS Rx.kindT Rx.hitK
 by_cases hk : (tk L σ.k).k = K
 · have h0 : (tk L σ.k).k ≠ 0 := by omega
   obtain ⟨h1, h2, h3⟩ := rl_tkn hE h h0;rw [if_pos hk, h2, h3, decide_eq_true hk, if_pos (by rfl), if_pos (by rfl)];unfold readP;rw [if_neg h0];exact ⟨rl_next hE h h0, fun _ => ⟨h1, rfl⟩⟩
 · rw [if_neg hk];refine ⟨?_, fun h => absurd h fail_e⟩;rw [if_neg]
   · exact rl_fail hE h (Or.inr rfl)
   · intro hh;rw [Bool.and_eq_true, decide_eq_true_eq] at hh;have hb : ρ.bad = false := by simpa using hh.1
     rcases h with ⟨h1, h2, rfl⟩ | h
     · exact hk hh.2
     · rw [h.2.2.1] at hb; cases hb
theorem rl_read {σ : PS} {ρ : Rx.PS} (h : Rl L σ ρ) (hk : (tk L σ.k).k ≠ 0) : Rl L (readP L σ) (Rx.adv ρ) ∧ readP L σ = adv σ := by
 unfold readP;rw [if_neg hk];exact ⟨rl_next hE h hk, rfl⟩
theorem Rq.sees {α β : Type} {e0 : Nat} {q : α → β → Prop} {x : ByteArray} {σ : PS} {ρ : Rx.PS} {a b : Option (α × PS)} {c d : Option (β × Rx.PS)} (h : Rl L σ ρ) (h1 : Rl L (adv σ) (Rx.adv ρ) → Rq L e0 q a c) (h2 : Rq L e0 q b d) :
 Rq L e0 q (if sees L x σ = true then a else b) (if Rx.sees L x ρ = true then c else d) := by
 rw [rl_sees hE h x]
 split
 · exact h1 (rl_adv hE h ‹_›)
 · exact h2
theorem rs_pair {l r : PM} {l' r' : Rx.PM} (op : Int) (sg : List ByteArray) (hl : ∀ σ ρ, Rl L σ ρ → Rq L σ.e Eq (l σ) (l' ρ)) (hr : ∀ σ ρ, Rl L σ ρ → Rq L σ.e Eq (r σ) (r' ρ)) {σ : PS} {ρ : Rx.PS} (h : Rl L σ ρ) : Rq L σ.e Eq (pairM L l r op sg σ) (Rx.pairM L l' r' op sg ρ) := by
 refine Rq.bnd (hl σ ρ h) fun f f' σ1 ρ1 h1 H1 => ?_
 rw [rl_any hE h1 sg]
 split
 · refine Rq.bnd (hr _ _ (rl_adv2 hE h1 ‹_›)) fun u u' σ2 ρ2 h2 H2 => Rq.mk h2 fun he => ?_
   obtain ⟨e1, rfl⟩ := H2 he;obtain ⟨e2, rfl⟩ := H1 e1;exact ⟨e2, by rw [(rl_tk hE h1 e1).1]⟩
 · exact Rq.mk h1 H1
theorem rs_chainL {m : PM} {m' : Rx.PM} (op : Int) (sg : List ByteArray) (hm : ∀ σ ρ, Rl L σ ρ → Rq L σ.e Eq (m σ) (m' ρ)) : ∀ (n n' : Nat) (f f' : Ft) (e0 : Nat) (σ : PS) (ρ : Rx.PS), n ≤ n' → Rl L σ ρ → (σ.e = 0 → e0 = 0 ∧ f = f') → Rq L e0 Eq (chainL L m op sg n f σ) (Rx.chainL L m' op sg n' f' ρ)
 | 0, _, f, f', e0, σ, ρ, hn, h, H => Rq.none
 | n + 1, 0, f, f', e0, σ, ρ, hn, h, H => by omega
 | n + 1, n' + 1, f, f', e0, σ, ρ, hn, h, H => by
  rw [chainL, Rx.chainL];dsimp only;rw [rl_any hE h sg]
  split
  · refine Rq.bnd (hm _ _ (rl_adv2 hE h ‹_›)) fun u u' σ2 ρ2 h2 H2 => rs_chainL op sg hm n n' _ _ e0 σ2 ρ2 (by omega) h2 fun he => ?_
    obtain ⟨e1, rfl⟩ := H2 he;obtain ⟨e2, rfl⟩ := H e1;exact ⟨e2, by rw [(rl_tk hE h e1).1]⟩
  · exact Rq.mk h H
theorem rs_chain {m : PM} {m' : Rx.PM} (op : Int) (sg : List ByteArray) (hm : ∀ σ ρ, Rl L σ ρ → Rq L σ.e Eq (m σ) (m' ρ)) {n n' : Nat} (hn : n ≤ n') {σ : PS} {ρ : Rx.PS} (h : Rl L σ ρ) : Rq L σ.e Eq (chainM L m op sg n σ) (Rx.chainM L m' op sg n' ρ) :=
 Rq.bnd (hm σ ρ h) fun f f' σ1 ρ1 h1 H1 => rs_chainL hE op sg hm n n' f f' σ.e σ1 ρ1 hn h1 H1
theorem rs_listL {α : Type} {m : PS → Option (α × PS)} {m' : Rx.PS → Option (α × Rx.PS)} (hm : ∀ σ ρ, Rl L σ ρ → Rq L σ.e Eq (m σ) (m' ρ)) : ∀ (n n' : Nat) (l l' : List α) (e0 : Nat) (σ : PS) (ρ : Rx.PS), n ≤ n' → Rl L σ ρ → (σ.e = 0 → e0 = 0 ∧ l = l') → Rq L e0 Eq (listL L m n l σ) (Rx.listL L m' n' l' ρ)
 | 0, _, l, l', e0, σ, ρ, hn, h, H => Rq.none
 | n + 1, 0, l, l', e0, σ, ρ, hn, h, H => by omega
 | n + 1, n' + 1, l, l', e0, σ, ρ, hn, h, H => by
  rw [listL, Rx.listL];refine Rq.sees hE h (fun ha => ?_) (Rq.mk (rl_need hE h _) fun he => H (need_e he));refine Rq.bnd (hm _ _ ha) fun u u' σ2 ρ2 h2 H2 => rs_listL hm n n' _ _ e0 σ2 ρ2 (by omega) h2 fun he => ?_
  obtain ⟨e1, rfl⟩ := H2 he;obtain ⟨e2, rfl⟩ := H e1;exact ⟨e2, rfl⟩
theorem rs_list {α : Type} {m : PS → Option (α × PS)} {m' : Rx.PS → Option (α × Rx.PS)} (hm : ∀ σ ρ, Rl L σ ρ → Rq L σ.e Eq (m σ) (m' ρ)) {n n' : Nat} (hn : n ≤ n') {σ : PS} {ρ : Rx.PS} (h : Rl L σ ρ) : Rq L σ.e Eq (listM L m n σ) (Rx.listM L m' n' ρ) :=
 Rq.bnd (hm σ ρ h) fun f f' σ1 ρ1 h1 H1 => rs_listL hE hm n n' [f] [f'] σ.e σ1 ρ1 hn h1 fun he => by
  obtain ⟨e1, rfl⟩ := H1 he;exact ⟨e1, rfl⟩
theorem rs_param {σ : PS} {ρ : Rx.PS} (h : Rl L σ ρ) : Rq L σ.e Eq (paramM L σ) (Rx.paramM L ρ) := by
 unfold paramM Rx.paramM
 by_cases he : σ.e = 0
 · obtain ⟨h1, h2⟩ := rl_tk hE h he;rw [h2, if_neg (show ¬ false = true by decide), h1]
   by_cases h3 : (tk L σ.k).k = 3
   · rw [if_neg (by omega), if_pos h3, if_pos h3];exact Rq.mk (rl_read hE h (by omega)).1 fun _ => ⟨he, rfl⟩
   · rw [if_neg h3, if_neg h3];have hk := rl_kind hE h (K := 1) (by decide);unfold kindS at hk
     by_cases hk1 : (tk L σ.k).k = 1
     · rw [if_pos hk1] at hk ⊢;exact Rq.mk hk.1 fun e => ⟨he, by rw [(hk.2 e).2]⟩
     · rw [if_neg hk1] at hk ⊢;exact Rq.mk hk.1 fun e => absurd e fail_e
 · have h0 := h.last hE he;have hf := rl_fail hE h (τ := readP L σ) (Or.inr rfl);rw [if_neg (by omega), if_neg (by omega)];rcases h with h | h
   · exact absurd h.1 he
   · rw [h.2.2.1, if_pos rfl];refine Rq.mk ?_ fun e => absurd e fail_e
     rw [show Rx.wr ρ = ρ by unfold Rx.wr; rw [← h.2.2.1]] at hf;exact hf
theorem rs_params {n n' : Nat} (hn : n ≤ n') {σ : PS} {ρ : Rx.PS} (h : Rl L σ ρ) : Rq L σ.e Eq (paramsM L n σ) (Rx.paramsM L n' ρ) :=
 Rq.sees hE h (fun ha => rs_list hE (fun σ ρ h => rs_param hE h) hn ha) (Rq.mk h fun he => ⟨he, rfl⟩)
theorem rl_long {σ : PS} {ρ : Rx.PS} (h : Rl L σ ρ) {ps ps' : List ByteArray} {o o' : Nat} (hp : σ.e = 0 → ps = ps' ∧ o = o') : Rl L (longP ps o σ) (Rx.longP ps' o' ρ) := by
 rcases h with ⟨h1, h2, rfl⟩ | ⟨h2, h3, h4, h5, h6, h7⟩
 · obtain ⟨rfl, rfl⟩ := hp h1;unfold longP Rx.longP
   by_cases hl : σ.long = true
   · rw [if_neg (by rw [hl]; simp), if_pos hl, if_neg (by simp)];exact Or.inl ⟨h1, h2, by rw [if_pos hl]⟩
   · have hl' : σ.long = false := by simpa using hl
     rw [if_neg hl]
     by_cases h8 : 8 < ps.length
     · rw [if_pos ⟨h8, hl'⟩, if_pos ⟨rfl, h8, rfl⟩];exact Or.inl ⟨h1, h2, rfl⟩
     · rw [if_neg (fun h => h8 h.1), if_neg (fun h => h8 h.2.1)];exact Or.inl ⟨h1, h2, by rw [if_neg hl]⟩
 · have e1 : (longP ps o σ).k = σ.k ∧ (longP ps o σ).o = σ.o ∧ (longP ps o σ).e = σ.e := by unfold longP; split <;> exact ⟨rfl, rfl, rfl⟩
   have e2 : Rx.longP ps' o' ρ = ρ := by unfold Rx.longP; rw [if_neg (by rw [h4]; simp)]
   rw [e2];exact Or.inr ⟨by rw [e1.2.2]; exact h2, by rw [e1.1]; exact h3, h4, h5, by rw [e1.2.1]; exact h6, by rw [e1.2.2]; exact h7⟩
end
theorem bad_sees {L : List Fk} {x : ByteArray} {ρ : Rx.PS} (h : ρ.bad = true) : Rx.sees L x ρ = false := by unfold Rx.sees; rw [h]; rfl
theorem bad_any {L : List Fk} {xs : List ByteArray} {ρ : Rx.PS} (h : ρ.bad = true) : Rx.anyP L xs ρ = false := by unfold Rx.anyP; rw [h]; rfl
theorem bad_wr {ρ : Rx.PS} (h : ρ.bad = true) : Rx.wr ρ = ρ := by unfold Rx.wr; rw [← h]
theorem rx_bad_need {L : List Fk} {x : ByteArray} {ρ : Rx.PS} (h : ρ.bad = true) : Rx.needP L x ρ = ρ := by unfold Rx.needP; rw [bad_sees h, if_neg (by decide), bad_wr h]
theorem bad_pair {L : List Fk} {l r : Rx.PM} {op : Int} {sg : List ByteArray} {ρ : Rx.PS} (h : ρ.bad = true) (hl : ∃ f, l ρ = some (f, ρ)) : ∃ f, Rx.pairM L l r op sg ρ = some (f, ρ) := by
 obtain ⟨f, hf⟩ := hl;refine ⟨f, ?_⟩;unfold Rx.pairM;rw [hf]
 show (if Rx.anyP L sg ρ = true then _ else _) = _
 rw [bad_any h, if_neg (by decide)]
theorem bad_chain {L : List Fk} {l : Rx.PM} {op : Int} {sg : List ByteArray} {ρ : Rx.PS} {n : Nat} (h : ρ.bad = true) (hl : ∃ f, l ρ = some (f, ρ)) : ∃ f, Rx.chainM L l op sg (n + 1) ρ = some (f, ρ) := by
 obtain ⟨f, hf⟩ := hl;refine ⟨f, ?_⟩;unfold Rx.chainM;rw [hf]
 show (if Rx.anyP L sg ρ = true then _ else _) = _
 rw [bad_any h, if_neg (by decide)]
theorem bad_run (L : List Fk) : ∀ (n : Nat) (r : Ru) (ρ : Rx.PS), ρ.bad = true → lev r ≤ n → ∃ f, Rx.run L n r ρ = some (f, ρ)
 | 0, r, ρ, h, hn => absurd hn (by cases r <;> decide)
 | 1, r, ρ, h, hn => absurd hn (by cases r <;> decide)
 | n + 2, r, ρ, h, hn => by
  have ih := fun r h2 => bad_run L (n + 1) r ρ h h2
  have pr : ∀ (x y : Ru) (op : Int) (sg : List ByteArray), lev x ≤ n + 1 → ∃ f, Rx.pairM L (Rx.run L (n + 1) x) (Rx.run L (n + 1) y) op sg ρ = some (f, ρ) := fun x y op sg h2 => bad_pair h (ih x h2)
  have ch : ∀ (x : Ru) (op : Int) (sg : List ByteArray), lev x ≤ n + 1 → ∃ f, Rx.chainM L (Rx.run L (n + 1) x) op sg (n + 1) ρ = some (f, ρ) := fun x op sg h2 => bad_chain h (ih x h2)
  cases r
  · exact pr .comma _ _ _ (by simp only [lev] at hn ⊢; omega)
  · exact ch .update _ _ (by simp only [lev] at hn ⊢; omega)
  · exact pr .alt _ _ _ (by simp only [lev] at hn ⊢; omega)
  · exact pr .or_ _ _ _ (by simp only [lev] at hn ⊢; omega)
  · exact ch .and_ _ _ (by simp only [lev] at hn ⊢; omega)
  · exact ch .cmp _ _ (by simp only [lev] at hn ⊢; omega)
  · exact pr .sum _ _ _ (by simp only [lev] at hn ⊢; omega)
  · exact ch .product _ _ (by simp only [lev] at hn ⊢; omega)
  · exact ch .unary _ _ (by simp only [lev] at hn ⊢; omega)
  · obtain ⟨f, hf⟩ := ih .operand (by simp only [lev] at hn ⊢; omega);refine ⟨f, ?_⟩
    show Rx.unaryM L _ ρ = _
    unfold Rx.unaryM;rw [bad_sees h, if_neg (by decide), hf]
  · obtain ⟨f, hf⟩ := ih .post (by simp only [lev] at hn ⊢; omega);refine ⟨f, ?_⟩
    show Rx.operM L _ _ ρ = _
    unfold Rx.operM;rw [bad_sees h, if_neg (by decide), bad_sees h, if_neg (by decide), hf]
    show (if Rx.sees L _ ρ = true then _ else _) = _
    rw [bad_sees h, if_neg (by decide)]
  · obtain ⟨f, hf⟩ := ih .primary (by simp only [lev] at hn ⊢; omega);refine ⟨f, ?_⟩
    show Rx.bnd (Rx.run L (n + 1) .primary ρ) _ = _
    rw [hf]
    show (if ρ.bad = true then _ else _) = _
    rw [if_pos h]
  · refine ⟨zf, ?_⟩
    show Rx.primM L _ _ ρ = _
    unfold Rx.primM;rw [if_pos h]
  · obtain ⟨f, hf⟩ := ih .filter (by simp only [lev] at hn ⊢; omega);refine ⟨nodeF 18 [f, f, identF], ?_⟩
    show Rx.branchM L _ ρ = _
    unfold Rx.branchM;rw [hf]
    show Rx.bnd (Rx.run L (n + 1) .filter (Rx.needP L _ ρ)) _ = _
    rw [rx_bad_need h, hf]
    show (if Rx.sees L _ ρ = true then _ else (if Rx.sees L _ ρ = true then _ else _)) = _
    rw [bad_sees h, if_neg (by decide), bad_sees h, if_neg (by decide), rx_bad_need h]
end Go.Proofs.YtoleoimmpggldaaGreatDoor
namespace Go.Proofs.YtoleoimmpggldaaGreatDoor
open Go.RowKit
section
variable {L : List Fk} (hE : EndL L) (hK : KndL L) {call : Ru → PM} {call' : Ru → Rx.PM} {n n' : Nat} (hn : n ≤ n')
 (HC : ∀ r σ ρ, Rl L σ ρ → Rq L σ.e Eq (call r σ) (call' r ρ)) (HB : ∀ r ρ, ρ.bad = true → ∃ f, call' r ρ = some (f, ρ))
include hE HC
theorem rs_before (x : ByteArray) {σ : PS} {ρ : Rx.PS} (h : Rl L σ ρ) : Rq L σ.e Eq (beforeM L call x σ) (Rx.beforeM L call' x ρ) :=
 Rq.bnd (HC _ _ _ h) fun f f' σ1 ρ1 h1 H1 => Rq.mk (rl_need hE h1 x) fun he => H1 (need_e he)
theorem rs_scope (op : Int) {subs subs' : List Ft} {e0 : Nat} {σ : PS} {ρ : Rx.PS} (h : Rl L σ ρ) (H : σ.e = 0 → e0 = 0 ∧ subs = subs') : Rq L e0 Eq (scopeM L call op subs σ) (Rx.scopeM L call' op subs' ρ) := by
 have hk := rl_kind hE h (K := 3) (by decide);refine Rq.bnd (HC _ _ _ (rl_need hE hk.1 _)) fun f f' σ1 ρ1 h1 H1 => Rq.mk h1 fun he => ?_
 obtain ⟨e1, rfl⟩ := H1 he;obtain ⟨e2, h3⟩ := hk.2 (need_e e1);obtain ⟨e3, rfl⟩ := H e2;exact ⟨e3, by rw [h3]⟩
include hn in
theorem rs_def {σ : PS} {ρ : Rx.PS} (h : Rl L σ ρ) : Rq L σ.e Eq (defM L call n σ) (Rx.defM L call' n' ρ) := by
 have hk := rl_kind hE h (K := 1) (by decide);refine Rq.bnd (rs_params hE hn hk.1) fun ps ps' σ1 ρ1 h1 H1 => ?_
 have hl := rl_long hE h1 (ps := ps) (ps' := ps') (o := (tk L σ.k).o) (o' := (Rx.kindT L 1 ρ).o) (fun he => by
  obtain ⟨e1, h2⟩ := H1 he;exact ⟨h2, by rw [(hk.2 e1).2]⟩)
 refine Rq.bnd (HC _ _ _ (rl_need hE hl _)) fun f f' σ2 ρ2 h2 H2 => ?_
 refine Rq.bnd (HC _ _ _ (rl_need hE h2 _)) fun u u' σ3 ρ3 h3 H3 => Rq.mk h3 fun he => ?_
 obtain ⟨e1, rfl⟩ := H3 he;obtain ⟨e2, rfl⟩ := H2 (need_e e1);obtain ⟨e3, rfl⟩ := H1 (long_e (need_e e2));obtain ⟨e4, h5⟩ := hk.2 e3;exact ⟨e4, by rw [h5]⟩
theorem rs_bracket {f f' : Ft} {e0 : Nat} {σ : PS} {ρ : Rx.PS} (h : Rl L σ ρ) (H : σ.e = 0 → e0 = 0 ∧ f = f') : Rq L e0 Eq (bracketM L call f σ) (Rx.bracketM L call' f' ρ) := by
 refine Rq.sees hE h (fun ha => Rq.mk ha fun he => ?_) (Rq.sees hE h (fun ha => ?_) ?_)
 · obtain ⟨e1, rfl⟩ := H he;exact ⟨e1, rfl⟩
 · refine Rq.bnd (rs_before hE HC _ ha) fun u u' σ1 ρ1 h1 H1 => Rq.mk h1 fun he => ?_
   obtain ⟨e1, rfl⟩ := H1 he;obtain ⟨e2, rfl⟩ := H e1;exact ⟨e2, rfl⟩
 · refine Rq.bnd (HC _ _ _ h) fun u u' σ1 ρ1 h1 H1 => ?_
   refine Rq.sees hE h1 (fun ha => Rq.sees hE ha (fun hb => Rq.mk hb fun he => ?_) ?_) (Rq.mk (rl_need hE h1 _) fun he => ?_)
   · obtain ⟨e1, rfl⟩ := H1 he;obtain ⟨e2, rfl⟩ := H e1;exact ⟨e2, rfl⟩
   · refine Rq.bnd (rs_before hE HC _ ha) fun v v' σ2 ρ2 h2 H2 => Rq.mk h2 fun he => ?_
     obtain ⟨e0, rfl⟩ := H2 he;obtain ⟨e1, rfl⟩ := H1 e0;obtain ⟨e2, rfl⟩ := H e1;exact ⟨e2, rfl⟩
   · obtain ⟨e1, rfl⟩ := H1 (need_e he);obtain ⟨e2, rfl⟩ := H e1;exact ⟨e2, rfl⟩
theorem rs_post : ∀ (m m' : Nat) (f f' : Ft) (e0 : Nat) (σ : PS) (ρ : Rx.PS), m ≤ m' → Rl L σ ρ → (σ.e = 0 → e0 = 0 ∧ f = f') → Rq L e0 Eq (postL L call m f σ) (Rx.postL L call' m' f' ρ)
 | 0, _, f, f', e0, σ, ρ, hm, h, H => Rq.none
 | m + 1, 0, f, f', e0, σ, ρ, hm, h, H => by omega
 | m + 1, m' + 1, f, f', e0, σ, ρ, hm, h, H => by
  rw [postL, Rx.postL];dsimp only;have hl := h.last hE
  by_cases he : σ.e = 0
  · obtain ⟨hk, hb⟩ := rl_tk hE h he;obtain ⟨he0, rfl⟩ := H he;rw [hb, if_neg (show ¬ false = true by decide), hk];unfold sufB suffixM;rw [rl_sees hE h, rl_sees hE h, rl_sees hE h]
    by_cases h4 : (tk L σ.k).k = 4
    · have w4 : isW (tk L σ.k) = false := by unfold isW; rw [h4]; rfl
      have hs : ∀ x, sees L x σ = false := fun x => by unfold sees; rw [w4]; rfl
      rw [hs, hs, hs, decide_eq_true h4, if_pos (by rfl), if_neg (by decide), if_neg (by decide), if_neg (by decide), if_pos h4];have hr := rl_read hE h (show (tk L σ.k).k ≠ 0 by omega)
      show Rq L e0 Eq (postL L call m (fieldF f (tk L σ.k).s) (kindS L 4 σ)) _
      have hk4 : kindS L 4 σ = adv σ := by unfold kindS; rw [if_pos h4, hr.2]
      rw [hk4];have h1 := hr.1;rw [hr.2] at h1;exact rs_post m m' _ _ e0 _ _ (by omega) h1 fun _ => ⟨he0, rfl⟩
    · rw [decide_eq_false h4, if_neg h4, Bool.false_or]
      by_cases hd : sees L (⟨#[46]⟩ : ByteArray) σ = true
      · have ha := rl_adv hE h hd;have hk6 := rl_kind hE ha (K := 6) (by decide);rw [hd, if_pos (by rfl), if_pos (by rfl), if_pos (by rfl)]
        show Rq L e0 Eq (postL L call m (fieldF f (tk L (adv σ).k).s) (kindS L 6 (adv σ))) _
        exact rs_post m m' _ _ e0 _ _ (by omega) hk6.1 fun e => ⟨he0, by rw [(hk6.2 e).2]⟩
      · have hd' : sees L (⟨#[46]⟩ : ByteArray) σ = false := by simpa using hd
        rw [hd', if_neg (show ¬ false = true by decide), if_neg (show ¬ false = true by decide), Bool.false_or]
        by_cases hq : sees L (⟨#[63]⟩ : ByteArray) σ = true
        · have ha := rl_adv hE h hq;have hb : sees L (⟨#[91]⟩ : ByteArray) σ = false := by
           unfold sees at hq ⊢;rw [Bool.and_eq_true, decide_eq_true_eq] at hq;rw [hq.2]
           simp
          rw [hq, hb, if_pos (by rfl), if_pos (by rfl), if_neg (by decide), if_pos (by rfl)]
          show Rq L e0 Eq (postL L call m (nodeF 19 [f]) (adv σ)) _
          exact rs_post m m' _ _ e0 _ _ (by omega) ha fun _ => ⟨he0, rfl⟩
        · have hq' : sees L (⟨#[63]⟩ : ByteArray) σ = false := by simpa using hq
          rw [hq', if_neg (show ¬ false = true by decide), if_neg (show ¬ false = true by decide), Bool.or_false]
          by_cases hb : sees L (⟨#[91]⟩ : ByteArray) σ = true
          · have ha := rl_adv hE h hb;rw [if_pos hb, if_pos hb, if_pos hb];exact Rq.bnd (rs_bracket hE HC (e0 := e0) ha fun _ => ⟨he0, rfl⟩) fun u u' σ1 ρ1 h1 H1 => rs_post m m' _ _ e0 _ _ (by omega) h1 H1
          · rw [if_neg hb, if_neg hb];exact Rq.mk h fun _ => ⟨he0, rfl⟩
  · have h0 := hl he;have hs : ∀ x, sees L x σ = false := fun x => by unfold sees isW; rw [h0]; rfl
    have hb : ρ.bad = true := by
     rcases h with h | h
     · exact absurd h.1 he
     · exact h.2.2.1
    unfold sufB;rw [hs, hs, hs, h0, hb, if_pos rfl];exact Rq.mk h fun e => absurd e he
include hK HB in
theorem rs_entry {l l' : List Ft} {e0 : Nat} {σ : PS} {ρ : Rx.PS} (h : Rl L σ ρ) (H : σ.e = 0 → e0 = 0 ∧ l = l') : Rq L e0 (fun p l2 => l ++ [p.1, p.2] = l2) (entryM L call σ) (Rx.entryM L call' l' ρ) := by
 unfold entryM Rx.entryM;have hl := h.last hE
 by_cases he : σ.e = 0
 · obtain ⟨hk, hb⟩ := rl_tk hE h he;obtain ⟨he0, rfl⟩ := H he;rw [hb, if_neg (show ¬ false = true by decide), hk]
   by_cases ho : sees L (⟨#[40]⟩ : ByteArray) σ = true
   · have hw : ((tk L σ.k).k = 7 ∨ (tk L σ.k).k = 2) := by
      unfold sees isW at ho;simp at ho;exact ho.1
     have ha := rl_adv hE h ho;have hnd : Rx.needP L (⟨#[40]⟩ : ByteArray) ρ = Rx.adv ρ := by unfold Rx.needP; rw [rl_sees hE h, if_pos ho]
     have h7 : ¬ ((tk L σ.k).k = 1 ∨ (tk L σ.k).k = 2 ∨ (tk L σ.k).k = 6) ∨ (tk L σ.k).k = 2 := by omega
     rcases h7 with h7 | h2
     · rw [if_pos ho, if_neg h7, if_neg (by omega), hnd];unfold beforeM;rw [bnd_bnd];refine Rq.bnd (HC _ _ _ ha) fun f f' σ1 ρ1 h1 H1 => ?_
       show Rq L e0 _ (bnd (call .alt (needP L _ (needP L _ σ1))) _) _
       refine Rq.bnd (HC _ _ _ (rl_need hE (rl_need hE h1 _) _)) fun u u' σ2 ρ2 h2 H2 => Rq.mk h2 fun e => ?_
       obtain ⟨e1, rfl⟩ := H2 e;obtain ⟨e2, rfl⟩ := H1 (need_e (need_e e1));exact ⟨he0, rfl⟩
     · exfalso
       have hx : (tk L σ.k).s = (⟨#[40]⟩ : ByteArray) := by
        unfold sees at ho;rw [Bool.and_eq_true, decide_eq_true_eq] at ho;exact ho.2
       have := hK.kw σ.k h2;rw [hx] at this;exact absurd this (by decide)
   · rw [if_neg ho]
     by_cases h3 : (tk L σ.k).k = 3
     · rw [if_pos h3, if_neg (by omega), if_pos h3];exact Rq.mk (rl_read hE h (by omega)).1 fun _ => ⟨he0, rfl⟩
     · rw [if_neg h3]
       by_cases h1 : (tk L σ.k).k = 1 ∨ (tk L σ.k).k = 2 ∨ (tk L σ.k).k = 6
       · have hr := rl_read hE h (show (tk L σ.k).k ≠ 0 by omega);rw [if_pos h1, if_pos h1, hr.2];have hr1 := hr.1;rw [hr.2] at hr1;refine Rq.sees hE hr1 (fun ha => ?_) (Rq.mk hr1 fun _ => ⟨he0, rfl⟩);refine Rq.bnd (HC _ _ _ ha) fun u u' σ2 ρ2 h2 H2 => Rq.mk h2 fun e => ?_
         obtain ⟨e1, rfl⟩ := H2 e;exact ⟨he0, rfl⟩
       · have hf := rl_fail hE h (τ := readP L σ) (Or.inr rfl);have hnd : Rx.needP L (⟨#[40]⟩ : ByteArray) ρ = Rx.wr ρ := by unfold Rx.needP; rw [rl_sees hE h, if_neg ho]
         rw [if_neg h1, if_neg h1, if_neg h3, hnd];obtain ⟨f, hf1⟩ := HB .filter (Rx.wr ρ) rfl;obtain ⟨u, hu1⟩ := HB .alt (Rx.wr ρ) rfl;rw [hf1]
         show Rq L e0 _ _ (Rx.bnd (call' .alt (Rx.needP L _ (Rx.needP L _ (Rx.wr ρ)))) _)
         rw [rx_bad_need (ρ := Rx.wr ρ) rfl, rx_bad_need (ρ := Rx.wr ρ) rfl, hu1];exact Rq.mk hf fun e => absurd e fail_e
 · have h0 := hl he;have hf := rl_fail hE h (τ := readP L σ) (Or.inr rfl);have hs : sees L (⟨#[40]⟩ : ByteArray) σ = false := by unfold sees isW; rw [h0]; rfl
   have hb : ρ.bad = true := by
    rcases h with h | h
    · exact absurd h.1 he
    · exact h.2.2.1
   rw [bad_wr hb] at hf;rw [hs, if_neg (by decide), if_neg (by omega), if_neg (by omega), hb, if_pos rfl];exact Rq.mk hf fun e => absurd e fail_e
include hK HB in
theorem rs_objL : ∀ (m m' : Nat) (l l' : List Ft) (e0 : Nat) (σ : PS) (ρ : Rx.PS), m ≤ m' → Rl L σ ρ → (σ.e = 0 → e0 = 0 ∧ l = l') → Rq L e0 Eq (objL L call m l σ) (Rx.bnd (Rx.entryM L call' l' ρ) fun l2 ρ2 => Rx.objL L call' m' l2 ρ2)
 | 0, _, l, l', e0, σ, ρ, hm, h, H => Rq.none
 | m + 1, 0, l, l', e0, σ, ρ, hm, h, H => by omega
 | m + 1, m' + 1, l, l', e0, σ, ρ, hm, h, H => by
  rw [objL];dsimp only;refine Rq.bnd (rs_entry hE hK HC HB h H) fun p l2 σ1 ρ1 h1 H1 => ?_
  rw [Rx.objL];refine Rq.sees hE h1 (fun ha => rs_objL m m' _ _ e0 _ _ (by omega) ha H1) (Rq.mk (rl_need hE h1 _) fun e => ?_);obtain ⟨e1, h2⟩ := H1 (need_e e);exact ⟨e1, by rw [h2]⟩
include hn in
theorem rs_call (s : ByteArray) {e0 : Nat} {σ : PS} {ρ : Rx.PS} (h : Rl L σ ρ) (H : σ.e = 0 → e0 = 0) : Rq L e0 Eq (callM L call n s σ) (Rx.callM L call' n' s ρ) := by
 refine Rq.sees hE h (fun ha => ?_) (Rq.ite (fun _ => Rq.mk h fun e => ⟨H e, rfl⟩) (fun _ => Rq.mk h fun e => ⟨H e, rfl⟩));refine Rq.bnd (rs_list hE (HC .filter) hn ha) fun l l' σ1 ρ1 h1 H1 => Rq.mk h1 fun e => ?_
 obtain ⟨e1, rfl⟩ := H1 e;exact ⟨H e1, rfl⟩
theorem rs_branch {σ : PS} {ρ : Rx.PS} (h : Rl L σ ρ) : Rq L σ.e Eq (condM L call σ) (Rx.branchM L call' ρ) := by
 unfold condM beforeM;rw [bnd_bnd];refine Rq.bnd (HC _ _ _ h) fun c c' σ1 ρ1 h1 H1 => ?_
 show Rq L σ.e Eq (bnd (call .filter (needP L _ σ1)) _) _
 refine Rq.bnd (HC _ _ _ (rl_need hE h1 _)) fun a a' σ2 ρ2 h2 H2 => ?_
 unfold otherM;rw [bnd_ite];refine Rq.sees hE h2 (fun ha => ?_) ?_
 · refine Rq.bnd (HC _ _ _ ha) fun b b' σ3 ρ3 h3 H3 => Rq.mk h3 fun e => ?_
   obtain ⟨e1, rfl⟩ := H3 e;obtain ⟨e2, rfl⟩ := H2 e1;obtain ⟨e3, rfl⟩ := H1 (need_e e2);exact ⟨e3, rfl⟩
 · rw [bnd_ite];refine Rq.sees hE h2 (fun ha => ?_) ?_
   · unfold beforeM;rw [bnd_bnd];refine Rq.bnd (HC _ _ _ ha) fun b b' σ3 ρ3 h3 H3 => ?_
     show Rq L σ.e Eq (some _) (some _)
     refine Rq.mk (rl_need hE h3 _) fun e => ?_
     obtain ⟨e1, rfl⟩ := H3 (need_e e);obtain ⟨e2, rfl⟩ := H2 e1;obtain ⟨e3, rfl⟩ := H1 (need_e e2);exact ⟨e3, rfl⟩
   · show Rq L σ.e Eq (some _) (some _)
     refine Rq.mk (rl_need hE h2 _) fun e => ?_
     obtain ⟨e2, rfl⟩ := H2 (need_e e);obtain ⟨e3, rfl⟩ := H1 (need_e e2);exact ⟨e3, rfl⟩
theorem rs_try {e0 : Nat} {σ : PS} {ρ : Rx.PS} (h : Rl L σ ρ) (H : σ.e = 0 → e0 = 0) : Rq L e0 Eq (tryM L call σ) (Rx.bnd (call' .post ρ) fun f σ1 => if Rx.sees L (⟨#[99, 97, 116, 99, 104]⟩ : ByteArray) σ1 = true then Rx.bnd (call' .post (Rx.adv σ1)) fun u σ2 => some (nodeF 19 [f, u], σ2) else some (nodeF 19 [f], σ1)) := by
 refine Rq.bnd (HC _ _ _ h) fun f f' σ1 ρ1 h1 H1 => Rq.sees hE h1 (fun ha => ?_) (Rq.mk h1 fun e => ?_)
 · refine Rq.bnd (HC _ _ _ ha) fun u u' σ2 ρ2 h2 H2 => Rq.mk h2 fun e => ?_
   obtain ⟨e1, rfl⟩ := H2 e;obtain ⟨e2, rfl⟩ := H1 e1;exact ⟨H e2, rfl⟩
 · obtain ⟨e2, rfl⟩ := H1 e;exact ⟨H e2, rfl⟩
theorem rs_reduce {e0 : Nat} {σ : PS} {ρ : Rx.PS} (h : Rl L σ ρ) (H : σ.e = 0 → e0 = 0) : Rq L e0 Eq (reduceM L call σ) (Rx.loopM L call' false ρ) := by
 unfold reduceM sourceM beforeM;rw [bnd_bnd];refine Rq.bnd (HC _ _ _ h) fun f f' σ1 ρ1 h1 H1 => ?_
 have hk := rl_kind hE (rl_need hE h1 (⟨#[97, 115]⟩ : ByteArray)) (K := 3) (by decide);rw [bnd_mk, bnd_bnd];refine Rq.bnd (HC _ _ _ (rl_need hE hk.1 _)) fun a a' σ2 ρ2 h2 H2 => ?_
 rw [bnd_mk, bnd_bnd];refine Rq.bnd (HC _ _ _ (rl_need hE h2 _)) fun b b' σ3 ρ3 h3 H3 => ?_
 rw [bnd_mk, if_pos rfl];refine Rq.mk (rl_need hE h3 _) fun e => ?_
 obtain ⟨e1, rfl⟩ := H3 (need_e e);obtain ⟨e2, rfl⟩ := H2 (need_e e1);obtain ⟨e3, h5⟩ := hk.2 (need_e e2);obtain ⟨e4, rfl⟩ := H1 (need_e e3);exact ⟨H e4, by rw [h5]⟩
theorem rs_foreach {e0 : Nat} {σ : PS} {ρ : Rx.PS} (h : Rl L σ ρ) (H : σ.e = 0 → e0 = 0) : Rq L e0 Eq (foreachM L call σ) (Rx.loopM L call' true ρ) := by
 unfold foreachM sourceM beforeM;rw [bnd_bnd];refine Rq.bnd (HC _ _ _ h) fun f f' σ1 ρ1 h1 H1 => ?_
 have hk := rl_kind hE (rl_need hE h1 (⟨#[97, 115]⟩ : ByteArray)) (K := 3) (by decide);rw [bnd_mk, bnd_bnd];refine Rq.bnd (HC _ _ _ (rl_need hE hk.1 _)) fun a a' σ2 ρ2 h2 H2 => ?_
 rw [bnd_mk];refine Rq.bnd (HC _ _ _ (rl_need hE h2 _)) fun b b' σ3 ρ3 h3 H3 => ?_
 rw [if_neg (show ¬ true = false by decide)];refine Rq.sees hE h3 (fun ha => ?_) (Rq.mk (rl_need hE h3 _) fun e => ?_)
 · refine Rq.bnd (HC _ _ _ ha) fun x x' σ4 ρ4 h4 H4 => Rq.mk (rl_need hE h4 _) fun e => ?_
   obtain ⟨e0, rfl⟩ := H4 (need_e e);obtain ⟨e1, rfl⟩ := H3 e0;obtain ⟨e2, rfl⟩ := H2 (need_e e1);obtain ⟨e3, h5⟩ := hk.2 (need_e e2);obtain ⟨e4, rfl⟩ := H1 (need_e e3);exact ⟨H e4, by rw [h5]⟩
 · obtain ⟨e1, rfl⟩ := H3 (need_e e);obtain ⟨e2, rfl⟩ := H2 (need_e e1);obtain ⟨e3, h5⟩ := hk.2 (need_e e2);obtain ⟨e4, rfl⟩ := H1 (need_e e3);exact ⟨H e4, by rw [h5]⟩
end
theorem sign_no {x : ByteArray} {s : ByteArray} (h : signsL.contains s.data.toList = true) (hx : signsL.contains x.data.toList = false) : ¬ s = x := by
 intro e;rw [e, hx] at h
 cases h
theorem key_no {x : ByteArray} {s : ByteArray} (h : kwB s.data.toList = true) (hx : kwB x.data.toList = false) : ¬ s = x := by
 intro e;rw [e, hx] at h
 cases h
section
variable {L : List Fk} (hE : EndL L) (hK : KndL L) {call : Ru → PM} {call' : Ru → Rx.PM} {n n' : Nat} (hn : n ≤ n')
 (HC : ∀ r σ ρ, Rl L σ ρ → Rq L σ.e Eq (call r σ) (call' r ρ)) (HB : ∀ r ρ, ρ.bad = true → ∃ f, call' r ρ = some (f, ρ))
include hE HC hK hn HB
theorem rs_prim {σ : PS} {ρ : Rx.PS} (h : Rl L σ ρ) : Rq L σ.e Eq (primM L call n σ) (Rx.primM L call' n' ρ) := by
 unfold primM Rx.primM;have hl := h.last hE
 by_cases he : σ.e = 0
 · obtain ⟨hk, hb⟩ := rl_tk hE h he;have h7 := hK.le σ.k;have hsg := hK.sg σ.k;have hkw := hK.kw σ.k;have hz := hE.none σ.k;have hf := rl_fail hE h (τ := readP L σ) (Or.inr rfl);have hr := fun h0 => rl_read hE h (L := L) h0
   rw [hb, if_neg (show ¬ false = true by decide), hk];generalize ht : tk L σ.k = t at *
   refine Rq.ite (fun hc => Rq.mk (hr (by omega)).1 fun _ => ⟨he, rfl⟩) fun h4 => ?_
   refine Rq.ite (fun hc => Rq.mk (hr (by omega)).1 fun _ => ⟨he, rfl⟩) fun h5 => ?_
   refine Rq.ite (fun hc => Rq.mk (hr (by omega)).1 fun _ => ⟨he, rfl⟩) fun h6 => ?_
   refine Rq.ite (fun hc => Rq.mk (hr (by omega)).1 fun _ => ⟨he, rfl⟩) fun h3 => ?_
   refine Rq.ite (fun hc => rs_call hE hn HC _ (hr (by omega)).1 fun _ => he) fun h1 => ?_
   unfold writtenM
   by_cases k7 : t.k = 7
   · have hs := hsg k7;obtain ⟨hr1, hr2⟩ := hr (by omega);rw [if_pos k7];unfold Rx.signedM;refine Rq.ite (fun hc => ?_) fun n1 => ?_
     · unfold pointM;obtain ⟨hk2, hb2⟩ := rl_tk hE hr1 (show (readP L σ).e = 0 by rw [hr2]; exact he);rw [hk2]
       by_cases h6 : (tk L (readP L σ).k).k = 6
       · rw [if_pos h6, if_pos h6];have hh := rl_kind hE hr1 (K := 6) (by decide);have e6 : kindS L 6 (readP L σ) = readP L (readP L σ) := by unfold kindS; rw [if_pos h6]
         rw [e6] at hh;exact Rq.mk hh.1 fun e => ⟨he, by rw [(hh.2 e).2]⟩
       · rw [if_neg h6, if_neg h6];exact Rq.mk hr1 fun _ => ⟨he, rfl⟩
     refine Rq.ite (fun hc => Rq.mk hr1 fun _ => ⟨he, rfl⟩) fun n2 => ?_
     rw [if_neg (sign_no hs (by decide)), if_neg (sign_no hs (by decide)), if_neg (sign_no hs (by decide))];refine Rq.ite (fun hc => (rs_before hE HC _ hr1).weak fun _ => ⟨he, fun _ _ h => h⟩) fun n3 => ?_
     refine Rq.ite (fun hc => ?_) fun n4 => ?_
     · unfold arrayM;refine Rq.sees hE hr1 (fun ha => Rq.mk ha fun _ => ⟨he, rfl⟩) (Rq.bnd (rs_before hE HC _ hr1) fun f f' σ1 ρ1 h1 H1 => Rq.mk h1 fun e => ?_);obtain ⟨_, rfl⟩ := H1 e;exact ⟨he, rfl⟩
     refine Rq.ite (fun hc => ?_) fun n5 => ?_
     · unfold objectM;exact Rq.sees hE hr1 (fun ha => Rq.mk ha fun _ => ⟨he, rfl⟩) (rs_objL hE hK HC HB n n' [] [] σ.e _ _ hn hr1 fun _ => ⟨he, rfl⟩)
     rw [if_neg (sign_no hs (by decide)), if_neg (sign_no hs (by decide)), if_neg (sign_no hs (by decide)), if_neg (sign_no hs (by decide)), if_neg (sign_no hs (by decide))];exact Rq.mk hf fun e => absurd e fail_e
   · rw [if_neg k7]
     by_cases k2 : t.k = 2
     · have hs := hkw k2;obtain ⟨hr1, hr2⟩ := hr (by omega);rw [if_pos k2];unfold Rx.keyedM;rw [if_neg (key_no hs (by decide)), if_neg (key_no hs (by decide))];refine Rq.ite (fun hc => Rq.mk hr1 fun _ => ⟨he, rfl⟩) fun n2 => ?_
       refine Rq.ite (fun hc => Rq.mk hr1 fun _ => ⟨he, rfl⟩) fun n2 => ?_
       refine Rq.ite (fun hc => Rq.mk hr1 fun _ => ⟨he, rfl⟩) fun n2 => ?_
       rw [if_neg (key_no hs (by decide)), if_neg (key_no hs (by decide)), if_neg (key_no hs (by decide))];refine Rq.ite (fun hc => (HC _ _ _ hr1).weak fun _ => ⟨he, fun _ _ h => h⟩) fun n3 => ?_
       refine Rq.ite (fun hc => rs_try hE HC hr1 fun _ => he) fun n3 => ?_
       by_cases nb : t.s = (⟨#[98, 114, 101, 97, 107]⟩ : ByteArray)
       · have hh := rl_kind hE hr1 (K := 3) (by decide);rw [if_pos nb, if_pos nb, nb, if_neg (by decide), if_neg (by decide)];exact Rq.mk hh.1 fun e => ⟨he, by rw [(hh.2 e).2]⟩
       · rw [if_neg nb, if_neg nb];refine Rq.ite (fun hc => rs_reduce hE HC hr1 fun _ => he) fun n3 => ?_
         refine Rq.ite (fun hc => rs_foreach hE HC hr1 fun _ => he) fun n3 => ?_
         exact Rq.mk hf fun e => absurd e fail_e
     · rw [if_neg k2, hz (by omega)]
       repeat rw [if_neg (by decide)]
       exact Rq.mk hf fun e => absurd e fail_e
 · have h0 := hl he;have hf := rl_fail hE h (τ := readP L σ) (Or.inr rfl);have hb : ρ.bad = true := by
    rcases h with h | h
    · exact absurd h.1 he
    · exact h.2.2.1
   rw [bad_wr hb] at hf;rw [hb, if_pos rfl];rw [if_neg (by omega), if_neg (by omega), if_neg (by omega), if_neg (by omega), if_neg (by omega)];unfold writtenM;rw [hE.none _ h0]
   repeat rw [if_neg (by decide)]
   exact Rq.mk hf fun e => absurd e fail_e
theorem rs_oper {σ : PS} {ρ : Rx.PS} (h : Rl L σ ρ) : Rq L σ.e Eq (operM L call n σ) (Rx.operM L call' n' ρ) := by
 refine Rq.sees hE h (fun ha => rs_scope hE HC 22 (subs := []) (subs' := []) ha fun e => ⟨e, rfl⟩) (Rq.sees hE h (fun ha => rs_def hE hn HC ha) ?_);refine Rq.bnd (HC _ _ _ h) fun f f' σ1 ρ1 h1 H1 => Rq.sees hE h1 (fun ha => rs_scope hE HC 24 ha fun e => ?_) (Rq.mk h1 H1)
 obtain ⟨e1, rfl⟩ := H1 e;exact ⟨e1, rfl⟩
theorem rs_body (r : Ru) (σ : PS) (ρ : Rx.PS) (h : Rl L σ ρ) : Rq L σ.e Eq (bodyM L call n r σ) (Rx.bodyM L call' n' r ρ) := by
 cases r
 · exact rs_pair hE _ _ (HC _) (HC _) h
 · exact rs_chain hE _ _ (HC _) hn h
 · exact rs_pair hE _ _ (HC _) (HC _) h
 · exact rs_pair hE _ _ (HC _) (HC _) h
 · exact rs_chain hE _ _ (HC _) hn h
 · exact rs_chain hE _ _ (HC _) hn h
 · exact rs_pair hE _ _ (HC _) (HC _) h
 · exact rs_chain hE _ _ (HC _) hn h
 · exact rs_chain hE _ _ (HC _) hn h
 · refine Rq.sees hE h (fun ha => ?_) (HC _ _ _ h);refine Rq.bnd (HC _ _ _ ha) fun f f' σ1 ρ1 h1 H1 => Rq.mk h1 fun e => ?_
   obtain ⟨e1, rfl⟩ := H1 e;exact ⟨e1, rfl⟩
 · exact rs_oper hE hK hn HC HB h
 · exact Rq.bnd (HC _ _ _ h) fun f f' σ1 ρ1 h1 H1 => rs_post hE HC n n' f f' σ.e σ1 ρ1 hn h1 H1
 · exact rs_prim hE hK hn HC HB h
 · exact rs_branch hE HC h
end
theorem rs_run {L : List Fk} (hE : EndL L) (hK : KndL L) : ∀ (n : Nat) (r : Ru) (σ : PS) (ρ : Rx.PS), Rl L σ ρ → Rq L σ.e Eq (run L n r σ) (Rx.run L (n + 20) r ρ)
 | 0, r, σ, ρ, h => Rq.none
 | n + 1, r, σ, ρ, h => rs_body hE hK (n := n) (n' := n + 20) (by omega) (rs_run hE hK n) (fun r ρ hb => bad_run L (n + 20) r ρ hb (by have := lev_le r; omega)) r σ ρ h
theorem parse_both {L : List Fk} (hE : EndL L) (hK : KndL L) {z : Nat} (hz : ∀ k, k < L.length → (tk L k).k = 0 → (tk L k).o = z) : Rx.parseT L z = parseT L ∧ ∃ f ρ, Rx.run L (40 * L.length + 20) .filter ⟨0, false, 0⟩ = some (f, ρ) ∧ ρ.k < L.length := by
 obtain ⟨f, σ, h1, h2⟩ := parse_ends hE;have hR : Rl L ⟨0, 0, 0, false, 0⟩ ⟨0, false, 0⟩ := Or.inl ⟨rfl, hE.pos, rfl⟩;obtain ⟨g, ρ, h3, h4, h5⟩ := rs_run hE hK _ .filter _ _ hR f σ h1;have hlt : ρ.k < L.length := by
  rcases h4 with ⟨_, h, rfl⟩ | h
  · exact h
  · exact h.2.2.2.1
 refine ⟨?_, g, ρ, h3, hlt⟩;unfold Rx.parseT parseT;rw [h1, h3];dsimp only;have hl := h4.last hE;rcases h4 with ⟨e0, hk, rfl⟩ | ⟨h6, h7, h8, h9, h10, h11⟩
 · obtain ⟨_, rfl⟩ := h5 e0;dsimp only
   by_cases h0 : (tk L σ.k).k = 0
   · have hks : kindS L 0 σ = σ := by
      unfold kindS;rw [if_pos h0];unfold readP;rw [if_pos h0]
     rw [hks, if_pos e0, if_neg (by rw [h0]; simp)]
     by_cases hlg : σ.long = true
     · rw [if_pos hlg, if_pos hlg, if_pos (by omega)]
       simp
     · rw [if_neg hlg, if_neg hlg, if_neg (by omega)]
   · have hks : kindS L 0 σ = failP L (tk L σ.k) (adv σ) := by
      unfold kindS;rw [if_neg h0];unfold readP;rw [if_neg h0]
     rw [hks, if_pos (Or.inr h0), if_neg h0, if_neg fail_e];unfold failP;rw [if_pos (show (adv σ).e = 0 from e0), if_neg h0]
 · have h0 := hl h6;have hks : kindS L 0 σ = σ := by
    unfold kindS;rw [if_pos h0];unfold readP;rw [if_pos h0]
   rw [if_pos (Or.inl h8), hks, if_neg h6];rw [h10, h11]
   by_cases h12 : (tk L ρ.k).k = 0
   · rw [if_pos h12, if_pos h12, hz _ h9 h12]
   · rw [if_neg h12, if_neg h12]
end Go.Proofs.YtoleoimmpggldaaGreatDoor
namespace Go.Proofs.YtoleoimmpggldaaGreatDoor
open Go.RowKit
theorem find_mem {α : Type} {p : α → Bool} {l : List α} {a : α} (h : l.find? p = some a) : a ∈ l := List.mem_of_find?_eq_some h
theorem tokP_kind (l : List UInt8) (a : Nat) (he : (tokP l a).e = 0) : ((tokP l a).t.k = 7 → signsL.contains (tokP l a).t.s.data.toList = true) ∧ ((tokP l a).t.k = 2 → kwB (tokP l a).t.s.data.toList = true) := by
 have hn : ∀ k o f, (namedP l k o f).e = 0 → (namedP l k o f).t.k = k ∧ (namedP l k o f).t.s.data.toList = sub l f (span nmdB l f) := by
  intro k o f h;unfold namedP at h ⊢
  split
  · rename_i hc
    rw [if_pos hc] at h
    cases h
  · exact ⟨rfl, bsF_list _⟩
 unfold tokP at he ⊢
 split
 · rename_i h1
   rw [if_pos h1] at he;unfold wordFP at he ⊢;obtain ⟨h2, h3⟩ := hn _ _ _ he;rw [h2, h3];unfold wordK
   split
   · rename_i hk
     exact ⟨(fun h => by cases h), fun _ => hk⟩
   · exact ⟨(fun h => by cases h), fun h => by cases h⟩
 rename_i h1
 rw [if_neg h1] at he
 split
 · rename_i h2
   rw [if_pos h2] at he;rw [(hn _ _ _ he).1];exact ⟨(fun h => by cases h), fun h => by cases h⟩
 rename_i h2
 rw [if_neg h2] at he
 split
 · rename_i h3
   rw [if_pos h3] at he;rw [(hn _ _ _ he).1];exact ⟨(fun h => by cases h), fun h => by cases h⟩
 rename_i h3
 rw [if_neg h3] at he
 split
 · rename_i h4
   rw [if_pos h4] at he;unfold numFP at he ⊢
   split
   · rename_i h5; rw [if_pos h5] at he; cases he
   rename_i h5
   rw [if_neg h5] at he
   split
   · rename_i h6; rw [if_pos h6] at he; cases he
   rename_i h6
   rw [if_neg h6] at he
   split
   · rename_i h7; rw [h7] at he; cases he
   · exact ⟨(fun h => by cases h), fun h => by cases h⟩
 rename_i h4
 rw [if_neg h4] at he
 split
 · rename_i h5
   rw [if_pos h5] at he;unfold strFP at he ⊢
   split
   · exact ⟨(fun h => by cases h), fun h => by cases h⟩
   · rename_i h6; rw [if_neg h6] at he; exact absurd he h6
 rename_i h5
 rw [if_neg h5] at he;obtain ⟨t, h6, h7, -⟩ := signFP_ok he;rw [h7];refine ⟨fun _ => ?_, fun h => by cases h⟩
 show signsL.contains (bsF t).data.toList = true
 rw [bsF_list];exact List.contains_iff_mem.2 (find_mem h6)
theorem lex_knd {l : List UInt8} {us : List Fk} (h : lexFP l = ⟨some us, 0, 0⟩) : KndL us ∧ ∀ k, k < us.length → (tk us k).k = 0 → (tk us k).o = l.length := by
 obtain ⟨vs, rfl, hO, hT⟩ := lexFP_toks h;have hk : ∀ k, (tk (vs ++ [endK l]) k).k ≤ 7 ∧ ((tk (vs ++ [endK l]) k).k = 7 → signsL.contains (tk (vs ++ [endK l]) k).s.data.toList = true) ∧ ((tk (vs ++ [endK l]) k).k = 2 → kwB (tk (vs ++ [endK l]) k).s.data.toList = true) ∧ (k < (vs ++ [endK l]).length → (tk (vs ++ [endK l]) k).k = 0 → (tk (vs ++ [endK l]) k).o = l.length) := by
  intro k;unfold tk;rcases Nat.lt_or_ge k vs.length with hlt | hge
  · rw [List.getElem?_append_left hlt];obtain ⟨t, ht⟩ : ∃ t, vs[k]? = some t := ⟨_, List.getElem?_eq_getElem hlt⟩
    rw [ht];dsimp only [Option.getD];have h1 := hO k t ht;obtain ⟨-, h3, h4, -⟩ := hT k t ht;have h5 := tokP_kind l t.o h3;rw [h4] at h5;exact ⟨h1.high, h5.1, h5.2, fun _ h0 => absurd h1.low (by omega)⟩
  · rw [List.getElem?_append_right hge]
    cases hz : ([endK l] : List Fk)[k - vs.length]? with
    | none =>
     refine ⟨Nat.zero_le _, (fun h => by cases h), (fun h => by cases h), fun h => ?_⟩;rw [List.length_append] at h;have := List.getElem?_eq_none_iff.1 hz;simp at this h;omega
    | some t =>
     have ht : t = endK l := by
      have := List.mem_of_getElem? hz
      simpa using this
     subst ht;exact ⟨Nat.zero_le _, (fun h => by cases h), (fun h => by cases h), fun _ _ => rfl⟩
 exact ⟨⟨fun k => (hk k).1, fun k => (hk k).2.1, fun k => (hk k).2.2.1⟩, fun k => (hk k).2.2.2⟩
theorem lex_off {l : List UInt8} {us : List Fk} (h : lexFP l = ⟨some us, 0, 0⟩) : ∀ k, (tk us k).o ≤ 8192 := by
 obtain ⟨h8, -⟩ := lexFP_good h;obtain ⟨vs, rfl, hO, -⟩ := lexFP_toks h;intro k;unfold tk;rcases Nat.lt_or_ge k vs.length with hlt | hge
 · rw [List.getElem?_append_left hlt];obtain ⟨t, ht⟩ : ∃ t, vs[k]? = some t := ⟨_, List.getElem?_eq_getElem hlt⟩
   rw [ht];have h1 := hO k t ht;have := h1.lt;have := h1.le
   show t.o ≤ 8192
   omega
 · rw [List.getElem?_append_right hge]
   cases hz : ([endK l] : List Fk)[k - vs.length]? with
   | none => exact Nat.zero_le _
   | some t =>
    have ht : t = endK l := by
     have := List.mem_of_getElem? hz
     simpa using this
    subst ht;exact h8
