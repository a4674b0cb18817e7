import Derived.Test.YtoleoimmpggldaaGreatDoorQB
import Derived.Test.YtoleoimmpggldaaGreatDoorFx
set_option linter.unusedVariables false
set_option linter.unusedSectionVars false
set_option linter.unusedSimpArgs false
namespace Go.Proofs.YtoleoimmpggldaaGreatDoor
open Go.RowKit
inductive Ft where
 | mk (op : Int) (text : ByteArray) (val : V) (params : List ByteArray) (subs : List Ft)
def e0 : ByteArray := ⟨#[]⟩
def vz : V := .mk 0 0 ⟨#[]⟩ [] []
def zf : Ft := .mk 0 ⟨#[]⟩ vz [] []
def nodeF (op : Int) (l : List Ft) : Ft := .mk op ⟨#[]⟩ vz [] l
def identF : Ft := nodeF 1 []
def litF (v : V) : Ft := .mk 7 ⟨#[]⟩ v [] []
def nullF : Ft := litF vz
def textF (s : ByteArray) : Ft := litF (.mk 4 0 s [] [])
def varF (s : ByteArray) : Ft := .mk 8 s vz [] []
def fieldF (f : Ft) (s : ByteArray) : Ft := .mk 3 s vz [] [f]
def opsT (op : Int) (sg : ByteArray) : ByteArray := if op = 17 ∨ op = 27 then sg else ⟨#[]⟩
def joinF (op : Int) (sg : ByteArray) (f u : Ft) : Ft := .mk op (opsT op sg) vz [] [f, u]
structure PS where
 k : Nat
 o : Nat
 e : Nat
 long : Bool
 lo : Nat
deriving DecidableEq
def bnd {α β : Type} (x : Option (α × PS)) (f : α → PS → Option (β × PS)) : Option (β × PS) := match x with
 | none => none
 | some (a, σ) => f a σ
theorem bnd_some {α β : Type} {x : Option (α × PS)} {f : α → PS → Option (β × PS)} {r : β × PS} (h : bnd x f = some r) : ∃ a σ, x = some (a, σ) ∧ f a σ = some r := by
 cases x with
 | none => exact absurd h (by simp [bnd])
 | some p => exact ⟨p.1, p.2, rfl, h⟩
abbrev PM := PS → Option (Ft × PS)
section
variable (L : List Fk)
def tk (k : Nat) : Fk := L[k]?.getD zeroK
def isW (t : Fk) : Bool := t.k == 7 || t.k == 2
def sees (x : ByteArray) (σ : PS) : Bool := isW (tk L σ.k) && decide ((tk L σ.k).s = x)
def adv (σ : PS) : PS := { σ with k := σ.k + 1 }
def readP (σ : PS) : PS := if (tk L σ.k).k = 0 then σ else adv σ
def failP (t : Fk) (σ : PS) : PS := if σ.e = 0 then ⟨L.length - 1, t.o, if t.k = 0 then 5 else 4, σ.long, σ.lo⟩ else σ
def needP (x : ByteArray) (σ : PS) : PS := if sees L x σ = true then adv σ else failP L (tk L σ.k) σ
def kindS (K : Nat) (σ : PS) : PS := if (tk L σ.k).k = K then readP L σ else failP L (tk L σ.k) (readP L σ)
def memB (x : ByteArray) (xs : List ByteArray) : Bool := xs.any fun y => decide (y = x)
def anyP (xs : List ByteArray) (σ : PS) : Bool := isW (tk L σ.k) && memB (tk L σ.k).s xs
def pairM (l r : PM) (op : Int) (sg : List ByteArray) : PM := fun σ =>
 bnd (l σ) fun f σ1 => if anyP L sg σ1 = true then bnd (r (adv σ1)) fun u σ2 => some (joinF op (tk L σ1.k).s f u, σ2) else some (f, σ1)
def chainL (m : PM) (op : Int) (sg : List ByteArray) : Nat → Ft → PM
 | 0, _ => fun _ => none
 | n + 1, f => fun σ => if anyP L sg σ = true then bnd (m (adv σ)) fun u σ2 => chainL m op sg n (joinF op (tk L σ.k).s f u) σ2 else some (f, σ)
def chainM (m : PM) (op : Int) (sg : List ByteArray) (n : Nat) : PM := fun σ => bnd (m σ) fun f σ1 => chainL L m op sg n f σ1
def listL {α : Type} (m : PS → Option (α × PS)) : Nat → List α → PS → Option (List α × PS)
 | 0, _ => fun _ => none
 | n + 1, l => fun σ => if sees L (⟨#[59]⟩ : ByteArray) σ = true then bnd (m (adv σ)) fun a σ1 => listL m n (l ++ [a]) σ1 else some (l, needP L (⟨#[41]⟩ : ByteArray) σ)
def listM {α : Type} (m : PS → Option (α × PS)) (n : Nat) (σ : PS) : Option (List α × PS) := bnd (m σ) fun a σ1 => listL L m n [a] σ1
inductive Ru where
 | filter | comma | update | alt | or_ | and_ | cmp | sum | product | unary | operand | post | primary | condition
section
variable (call : Ru → PM) (n : Nat)
def beforeM (x : ByteArray) : PM := fun σ => bnd (call .filter σ) fun f σ1 => some (f, needP L x σ1)
def scopeM (op : Int) (subs : List Ft) : PM := fun σ =>
 bnd (call .filter (needP L (⟨#[124]⟩ : ByteArray) (kindS L 3 σ))) fun f σ1 => some (.mk op (tk L σ.k).s vz [] (subs ++ [f]), σ1)
def paramM (σ : PS) : Option (ByteArray × PS) :=
 if (tk L σ.k).k = 1 then some ((tk L σ.k).s, readP L σ) else if (tk L σ.k).k = 3 then some ((⟨#[36]⟩ : ByteArray) ++ (tk L σ.k).s, readP L σ) else some (⟨#[]⟩, failP L (tk L σ.k) (readP L σ))
def longP (ps : List ByteArray) (o : Nat) (σ : PS) : PS := if (8 < ps.length) ∧ σ.long = false then { σ with long := true, lo := o } else σ
def paramsM (σ : PS) : Option (List ByteArray × PS) := if sees L (⟨#[40]⟩ : ByteArray) σ = true then listM L (paramM L) n (adv σ) else some ([], σ)
def defM : PM := fun σ =>
 bnd (paramsM L n (kindS L 1 σ)) fun ps σ1 =>
 bnd (call .filter (needP L (⟨#[58]⟩ : ByteArray) (longP ps (tk L σ.k).o σ1))) fun f σ2 =>
 bnd (call .filter (needP L (⟨#[59]⟩ : ByteArray) σ2)) fun u σ3 => some (.mk 26 (tk L σ.k).s vz ps [f, u], σ3)
def bracketM (f : Ft) : PM := fun σ =>
 if sees L (⟨#[93]⟩ : ByteArray) σ = true then some (nodeF 6 [f], adv σ)
 else if sees L (⟨#[58]⟩ : ByteArray) σ = true then bnd (beforeM L call (⟨#[93]⟩ : ByteArray) (adv σ)) fun u σ1 => some (nodeF 5 [f, nullF, u], σ1)
 else bnd (call .filter σ) fun u σ1 =>
  if sees L (⟨#[58]⟩ : ByteArray) σ1 = true then
   if sees L (⟨#[93]⟩ : ByteArray) (adv σ1) = true then some (nodeF 5 [f, u, nullF], adv (adv σ1))
   else bnd (beforeM L call (⟨#[93]⟩ : ByteArray) (adv σ1)) fun v σ2 => some (nodeF 5 [f, u, v], σ2)
  else some (nodeF 4 [f, u], needP L (⟨#[93]⟩ : ByteArray) σ1)
def suffixM (f : Ft) : PM := fun σ =>
 if sees L (⟨#[46]⟩ : ByteArray) σ = true then some (fieldF f (tk L (adv σ).k).s, kindS L 6 (adv σ))
 else if sees L (⟨#[63]⟩ : ByteArray) σ = true then some (nodeF 19 [f], adv σ)
 else if sees L (⟨#[91]⟩ : ByteArray) σ = true then bracketM L call f (adv σ)
 else some (fieldF f (tk L σ.k).s, kindS L 4 σ)
def sufB (σ : PS) : Bool := decide ((tk L σ.k).k = 4) || (sees L (⟨#[46]⟩ : ByteArray) σ || (sees L (⟨#[91]⟩ : ByteArray) σ || sees L (⟨#[63]⟩ : ByteArray) σ))
def postL : Nat → Ft → PM
 | 0, _ => fun _ => none
 | m + 1, f => fun σ => if sufB L σ = true then bnd (suffixM L call f σ) fun u σ1 => postL m u σ1 else some (f, σ)
def pointM : PM := fun σ => if (tk L σ.k).k = 6 then some (fieldF identF (tk L σ.k).s, readP L σ) else some (identF, σ)
def arrayM : PM := fun σ => if sees L (⟨#[93]⟩ : ByteArray) σ = true then some (nodeF 9 [], adv σ) else bnd (beforeM L call (⟨#[93]⟩ : ByteArray) σ) fun f σ1 => some (nodeF 9 [f], σ1)
def entryM (σ : PS) : Option ((Ft × Ft) × PS) :=
 if sees L (⟨#[40]⟩ : ByteArray) σ = true then bnd (beforeM L call (⟨#[41]⟩ : ByteArray) (adv σ)) fun f σ1 => bnd (call .alt (needP L (⟨#[58]⟩ : ByteArray) σ1)) fun u σ2 => some ((f, u), σ2)
 else if (tk L σ.k).k = 3 then some ((textF (tk L σ.k).s, varF (tk L σ.k).s), readP L σ)
 else if (tk L σ.k).k = 1 ∨ (tk L σ.k).k = 2 ∨ (tk L σ.k).k = 6 then
  if sees L (⟨#[58]⟩ : ByteArray) (readP L σ) = true then bnd (call .alt (adv (readP L σ))) fun u σ1 => some ((textF (tk L σ.k).s, u), σ1)
  else some ((textF (tk L σ.k).s, fieldF identF (tk L σ.k).s), readP L σ)
 else some ((zf, zf), failP L (tk L σ.k) (readP L σ))
def objL : Nat → List Ft → PM
 | 0, _ => fun _ => none
 | m + 1, l => fun σ => bnd (entryM L call σ) fun p σ1 => if sees L (⟨#[44]⟩ : ByteArray) σ1 = true then objL m (l ++ [p.1, p.2]) (adv σ1) else some (nodeF 10 (l ++ [p.1, p.2]), needP L (⟨#[125]⟩ : ByteArray) σ1)
def objectM : PM := fun σ => if sees L (⟨#[125]⟩ : ByteArray) σ = true then some (nodeF 10 [], adv σ) else objL L call n [] σ
def otherM : PM := fun σ =>
 if sees L (⟨#[101, 108, 105, 102]⟩ : ByteArray) σ = true then call .condition (adv σ)
 else if sees L (⟨#[101, 108, 115, 101]⟩ : ByteArray) σ = true then beforeM L call (⟨#[101, 110, 100]⟩ : ByteArray) (adv σ)
 else some (identF, needP L (⟨#[101, 110, 100]⟩ : ByteArray) σ)
def condM : PM := fun σ => bnd (beforeM L call (⟨#[116, 104, 101, 110]⟩ : ByteArray) σ) fun q σ1 => bnd (call .filter σ1) fun a σ2 => bnd (otherM L call σ2) fun b σ3 => some (nodeF 18 [q, a, b], σ3)
def tryM : PM := fun σ => bnd (call .post σ) fun f σ1 => if sees L (⟨#[99, 97, 116, 99, 104]⟩ : ByteArray) σ1 = true then bnd (call .post (adv σ1)) fun u σ2 => some (nodeF 19 [f, u], σ2) else some (nodeF 19 [f], σ1)
def sourceM (σ : PS) : Option ((Ft × ByteArray) × PS) := bnd (call .post σ) fun f σ1 => some ((f, (tk L (needP L (⟨#[97, 115]⟩ : ByteArray) σ1).k).s), needP L (⟨#[40]⟩ : ByteArray) (kindS L 3 (needP L (⟨#[97, 115]⟩ : ByteArray) σ1)))
def reduceM : PM := fun σ => bnd (sourceM L call σ) fun p σ1 => bnd (beforeM L call (⟨#[59]⟩ : ByteArray) σ1) fun a σ2 => bnd (beforeM L call (⟨#[41]⟩ : ByteArray) σ2) fun b σ3 => some (.mk 20 p.2 vz [] [p.1, a, b], σ3)
def foreachM : PM := fun σ => bnd (sourceM L call σ) fun p σ1 => bnd (beforeM L call (⟨#[59]⟩ : ByteArray) σ1) fun a σ2 => bnd (call .filter σ2) fun b σ3 =>
 if sees L (⟨#[59]⟩ : ByteArray) σ3 = true then bnd (call .filter (adv σ3)) fun c σ4 => some (.mk 21 p.2 vz [] [p.1, a, b, c], needP L (⟨#[41]⟩ : ByteArray) σ4)
 else some (.mk 21 p.2 vz [] [p.1, a, b, identF], needP L (⟨#[41]⟩ : ByteArray) σ3)
def callM (s : ByteArray) : PM := fun σ =>
 if sees L (⟨#[40]⟩ : ByteArray) σ = true then bnd (listM L (call .filter) n (adv σ)) fun l σ1 => some (.mk 25 s vz [] l, σ1)
 else if s = (⟨#[105, 110, 112, 117, 116, 115]⟩ : ByteArray) then some (nodeF 28 [], σ) else some (.mk 25 s vz [] [], σ)
def writtenM (t : Fk) : PM := fun σ =>
 if t.s = (⟨#[46]⟩ : ByteArray) then pointM L σ
 else if t.s = (⟨#[46, 46]⟩ : ByteArray) then some (nodeF 2 [], σ)
 else if t.s = (⟨#[116, 114, 117, 101]⟩ : ByteArray) then some (litF (.mk 2 0 ⟨#[]⟩ [] []), σ)
 else if t.s = (⟨#[102, 97, 108, 115, 101]⟩ : ByteArray) then some (litF (.mk 1 0 ⟨#[]⟩ [] []), σ)
 else if t.s = (⟨#[110, 117, 108, 108]⟩ : ByteArray) then some (nullF, σ)
 else if t.s = (⟨#[40]⟩ : ByteArray) then beforeM L call (⟨#[41]⟩ : ByteArray) σ
 else if t.s = (⟨#[91]⟩ : ByteArray) then arrayM L call σ
 else if t.s = (⟨#[123]⟩ : ByteArray) then objectM L call n σ
 else if t.s = (⟨#[105, 102]⟩ : ByteArray) then call .condition σ
 else if t.s = (⟨#[116, 114, 121]⟩ : ByteArray) then tryM L call σ
 else if t.s = (⟨#[114, 101, 100, 117, 99, 101]⟩ : ByteArray) then reduceM L call σ
 else if t.s = (⟨#[102, 111, 114, 101, 97, 99, 104]⟩ : ByteArray) then foreachM L call σ
 else if t.s = (⟨#[98, 114, 101, 97, 107]⟩ : ByteArray) then some (.mk 23 (tk L σ.k).s vz [] [], kindS L 3 σ)
 else some (zf, failP L t σ)
def primM : PM := fun σ =>
 if (tk L σ.k).k = 4 then some (fieldF identF (tk L σ.k).s, readP L σ)
 else if (tk L σ.k).k = 5 then some (litF (.mk 3 (tk L σ.k).i ⟨#[]⟩ [] []), readP L σ)
 else if (tk L σ.k).k = 6 then some (textF (tk L σ.k).s, readP L σ)
 else if (tk L σ.k).k = 3 then some (varF (tk L σ.k).s, readP L σ)
 else if (tk L σ.k).k = 1 then callM L call n (tk L σ.k).s (readP L σ)
 else writtenM L call n (tk L σ.k) (readP L σ)
def operM : PM := fun σ =>
 if sees L (⟨#[108, 97, 98, 101, 108]⟩ : ByteArray) σ = true then scopeM L call 22 [] (adv σ)
 else if sees L (⟨#[100, 101, 102]⟩ : ByteArray) σ = true then defM L call n (adv σ)
 else bnd (call .post σ) fun f σ1 => if sees L (⟨#[97, 115]⟩ : ByteArray) σ1 = true then scopeM L call 24 [f] (adv σ1) else some (f, σ1)
def unaryM : PM := fun σ => if sees L (⟨#[45]⟩ : ByteArray) σ = true then bnd (call .unary (adv σ)) fun f σ1 => some (nodeF 11 [f], σ1) else call .operand σ
def bodyM : Ru → PM
 | .filter => pairM L (call .comma) (call .filter) 12 [(⟨#[124]⟩ : ByteArray)]
 | .comma => chainM L (call .update) 13 [(⟨#[44]⟩ : ByteArray)] n
 | .update => pairM L (call .alt) (call .alt) 27 [(⟨#[61]⟩ : ByteArray), (⟨#[124, 61]⟩ : ByteArray), (⟨#[43, 61]⟩ : ByteArray), (⟨#[45, 61]⟩ : ByteArray), (⟨#[42, 61]⟩ : ByteArray), (⟨#[47, 61]⟩ : ByteArray), (⟨#[37, 61]⟩ : ByteArray)]
 | .alt => pairM L (call .or_) (call .alt) 14 [(⟨#[47, 47]⟩ : ByteArray)]
 | .or_ => chainM L (call .and_) 15 [(⟨#[111, 114]⟩ : ByteArray)] n
 | .and_ => chainM L (call .cmp) 16 [(⟨#[97, 110, 100]⟩ : ByteArray)] n
 | .cmp => pairM L (call .sum) (call .sum) 17 [(⟨#[61, 61]⟩ : ByteArray), (⟨#[33, 61]⟩ : ByteArray), (⟨#[60]⟩ : ByteArray), (⟨#[60, 61]⟩ : ByteArray), (⟨#[62]⟩ : ByteArray), (⟨#[62, 61]⟩ : ByteArray)]
 | .sum => chainM L (call .product) 17 [(⟨#[43]⟩ : ByteArray), (⟨#[45]⟩ : ByteArray)] n
 | .product => chainM L (call .unary) 17 [(⟨#[42]⟩ : ByteArray), (⟨#[47]⟩ : ByteArray), (⟨#[37]⟩ : ByteArray)] n
 | .unary => unaryM L call
 | .operand => operM L call n
 | .post => fun σ => bnd (call .primary σ) fun f σ1 => postL L call n f σ1
 | .primary => primM L call n
 | .condition => condM L call
end
def run : Nat → Ru → PM
 | 0, _ => fun _ => none
 | n + 1, r => bodyM L (run n) n r
def parseT : Ft × Nat × Nat := match run L (40 * L.length) .filter ⟨0, 0, 0, false, 0⟩ with
 | none => (zf, 0, 0)
 | some (f, σ) =>
  let σ' := kindS L 0 σ
  if σ'.e = 0 then if σ'.long = true then (zf, σ'.lo, 2) else (f, 0, 0) else (zf, σ'.o, σ'.e)
end
def parseP (l : List UInt8) : Ft × Nat × Nat := match (lexFP l).ts with
 | none => (zf, (lexFP l).p, (lexFP l).e)
 | some ts => parseT ts
end Go.Proofs.YtoleoimmpggldaaGreatDoor
namespace Go.Proofs.YtoleoimmpggldaaGreatDoor
open Go.RowKit
structure EndL (L : List Fk) : Prop where
 pos : 0 < L.length
 last : (tk L (L.length - 1)).k = 0
 none : ∀ k, (tk L k).k = 0 → (tk L k).s = ⟨#[]⟩
section
variable {L : List Fk} (hE : EndL L)
include hE
theorem EndL.next {k : Nat} (hk : k < L.length) (h : (tk L k).k ≠ 0) : k + 1 < L.length := by
 by_cases h2 : k = L.length - 1
 · subst h2; exact absurd hE.last h
 · have := hE.pos; omega
theorem sees_next {x : ByteArray} {σ : PS} (hk : σ.k < L.length) (h : sees L x σ = true) : σ.k + 1 < L.length := by
 refine hE.next hk fun h0 => ?_
 unfold sees isW at h;rw [h0] at h;simp at h
theorem any_next {xs : List ByteArray} {σ : PS} (hk : σ.k < L.length) (h : anyP L xs σ = true) : σ.k + 1 < L.length := by
 refine hE.next hk fun h0 => ?_
 unfold anyP isW at h;rw [h0] at h;simp at h
theorem up_read {σ : PS} (hk : σ.k < L.length) : σ.k ≤ (readP L σ).k ∧ (readP L σ).k < L.length := by
 unfold readP
 split
 · exact ⟨Nat.le_refl _, hk⟩
 · exact ⟨Nat.le_succ _, hE.next hk ‹_›⟩
theorem up_fail {σ : PS} (t : Fk) (hk : σ.k < L.length) : σ.k ≤ (failP L t σ).k ∧ (failP L t σ).k < L.length := by
 unfold failP
 split
 · have := hE.pos; exact ⟨by show _ ≤ L.length - 1; omega, by show L.length - 1 < _; omega⟩
 · exact ⟨Nat.le_refl _, hk⟩
theorem up_need {σ : PS} (x : ByteArray) (hk : σ.k < L.length) : σ.k ≤ (needP L x σ).k ∧ (needP L x σ).k < L.length := by
 unfold needP
 split
 · exact ⟨Nat.le_succ _, sees_next hE hk ‹_›⟩
 · exact up_fail hE _ hk
theorem up_kind {σ : PS} (K : Nat) (hk : σ.k < L.length) : σ.k ≤ (kindS L K σ).k ∧ (kindS L K σ).k < L.length := by
 unfold kindS;have h1 := up_read hE hk
 split
 · exact h1
 · have h2 := up_fail hE (tk L σ.k) h1.2;exact ⟨by omega, h2.2⟩
end
def Tm {α : Type} (L : List Fk) (c : Nat) (x : Option (α × PS)) : Prop := ∃ a σ, x = some (a, σ) ∧ c ≤ σ.k ∧ σ.k < L.length
theorem Tm.mk {α : Type} {L : List Fk} {c : Nat} {a : α} {σ : PS} (h : c ≤ σ.k) (h2 : σ.k < L.length) : Tm L c (some (a, σ)) := ⟨a, σ, rfl, h, h2⟩
theorem Tm.mono {α : Type} {L : List Fk} {c d : Nat} {x : Option (α × PS)} (h : Tm L c x) (hd : d ≤ c) : Tm L d x := by
 obtain ⟨a, σ, h1, h2, h3⟩ := h;exact ⟨a, σ, h1, by omega, h3⟩
theorem Tm.bnd {α β : Type} {L : List Fk} {c d : Nat} {x : Option (α × PS)} {f : α → PS → Option (β × PS)} (h : Tm L d x) (hf : ∀ a σ, d ≤ σ.k → σ.k < L.length → Tm L c (f a σ)) : Tm L c (bnd x f) := by
 obtain ⟨a, σ, rfl, h2, h3⟩ := h;exact hf a σ h2 h3
theorem Tm.ite {α : Type} {L : List Fk} {d : Nat} {c : Prop} [Decidable c] {x y : Option (α × PS)} (h1 : c → Tm L d x) (h2 : ¬ c → Tm L d y) : Tm L d (if c then x else y) := by
 by_cases h : c
 · rw [if_pos h]; exact h1 h
 · rw [if_neg h]; exact h2 h
section
variable {L : List Fk} (hE : EndL L)
include hE
theorem tm_listL {α : Type} {m : PS → Option (α × PS)} {K : Nat} (hm : ∀ σ, K ≤ σ.k → σ.k < L.length → Tm L σ.k (m σ)) : ∀ (n : Nat) (l : List α) (σ : PS), K ≤ σ.k → σ.k < L.length → L.length - 1 - σ.k < n → Tm L σ.k (listL L m n l σ)
 | 0, l, σ, h, h2, h3 => by omega
 | n + 1, l, σ, h, h2, h3 => by
  rw [listL];dsimp only
  split
  · have := sees_next hE h2 ‹_›;refine (Tm.bnd (hm (adv σ) (by show K ≤ σ.k + 1; omega) this) fun a σ1 h4 h5 => ?_);have h4' : σ.k + 1 ≤ σ1.k := h4;exact (tm_listL hm n _ σ1 (by omega) h5 (by omega)).mono (by omega)
  · have := up_need hE ⟨#[41]⟩ h2;exact Tm.mk this.1 this.2
theorem tm_listM {α : Type} {m : PS → Option (α × PS)} {K : Nat} (hm : ∀ σ, K ≤ σ.k → σ.k < L.length → Tm L σ.k (m σ)) {n : Nat} {σ : PS} (h : K ≤ σ.k) (h2 : σ.k < L.length) (h3 : L.length - 1 - σ.k < n) : Tm L σ.k (listM L m n σ) := by
 unfold listM;refine Tm.bnd (hm σ h h2) fun a σ1 h4 h5 => ?_
 exact (tm_listL hE hm n _ σ1 (by omega) h5 (by omega)).mono h4
theorem tm_chainL {m : PM} {K : Nat} (op : Int) (sg : List ByteArray) (hm : ∀ σ, K ≤ σ.k → σ.k < L.length → Tm L σ.k (m σ)) : ∀ (n : Nat) (f : Ft) (σ : PS), K ≤ σ.k → σ.k < L.length → L.length - 1 - σ.k < n → Tm L σ.k (chainL L m op sg n f σ)
 | 0, l, σ, h, h2, h3 => by omega
 | n + 1, l, σ, h, h2, h3 => by
  rw [chainL];dsimp only
  split
  · have := any_next hE h2 ‹_›;refine (Tm.bnd (hm (adv σ) (by show K ≤ σ.k + 1; omega) this) fun a σ1 h4 h5 => ?_);have h4' : σ.k + 1 ≤ σ1.k := h4;exact (tm_chainL op sg hm n _ σ1 (by omega) h5 (by omega)).mono (by omega)
  · exact Tm.mk (Nat.le_refl _) h2
theorem tm_chainM {m : PM} {K : Nat} (op : Int) (sg : List ByteArray) (hm : ∀ σ, K ≤ σ.k → σ.k < L.length → Tm L σ.k (m σ)) {n : Nat} {σ : PS} (h : K ≤ σ.k) (h2 : σ.k < L.length) (h3 : L.length - 1 - σ.k < n) : Tm L σ.k (chainM L m op sg n σ) := by
 unfold chainM;refine Tm.bnd (hm σ h h2) fun a σ1 h4 h5 => ?_
 exact (tm_chainL hE op sg hm n _ σ1 (by omega) h5 (by omega)).mono h4
theorem tm_pairM {l r : PM} {K : Nat} (op : Int) (sg : List ByteArray) (hl : ∀ σ, K ≤ σ.k → σ.k < L.length → Tm L σ.k (l σ)) (hr : ∀ σ, K + 1 ≤ σ.k → σ.k < L.length → Tm L σ.k (r σ)) {σ : PS} (h : K ≤ σ.k) (h2 : σ.k < L.length) : Tm L σ.k (pairM L l r op sg σ) := by
 unfold pairM;refine Tm.bnd (hl σ h h2) fun a σ1 h4 h5 => ?_
 split
 · have := any_next hE h5 ‹_›;refine (Tm.bnd (hr (adv σ1) (by show K + 1 ≤ σ1.k + 1; omega) this) fun u σ2 h6 h7 => ?_);have h6' : σ1.k + 1 ≤ σ2.k := h6;exact Tm.mk (by omega) h7
 · exact Tm.mk h4 h5
theorem tm_param {σ : PS} (h2 : σ.k < L.length) : Tm L σ.k (paramM L σ) := by
 have h1 := up_read hE h2;unfold paramM
 split
 · exact Tm.mk h1.1 h1.2
 · split
   · exact Tm.mk h1.1 h1.2
   · have h3 := up_fail hE (tk L σ.k) h1.2;exact Tm.mk (by omega) h3.2
variable {call : Ru → PM} {n K : Nat} (H : ∀ r σ, K ≤ σ.k → σ.k < L.length → Tm L σ.k (call r σ)) (hn : L.length - 1 - K < n)
include H
theorem tm_before (x : ByteArray) {σ : PS} (h : K ≤ σ.k) (h2 : σ.k < L.length) : Tm L σ.k (beforeM L call x σ) := by
 unfold beforeM;refine Tm.bnd (H _ σ h h2) fun a σ1 h4 h5 => ?_
 have := up_need hE x h5;exact Tm.mk (by omega) this.2
theorem tm_scope (op : Int) (subs : List Ft) {σ : PS} (h : K ≤ σ.k) (h2 : σ.k < L.length) : Tm L σ.k (scopeM L call op subs σ) := by
 unfold scopeM;have h3 := up_kind hE 3 h2;have h4 := up_need hE ⟨#[124]⟩ h3.2;refine Tm.bnd (H _ _ (by omega) h4.2) fun a σ1 h5 h6 => ?_
 exact Tm.mk (by omega) h6
theorem tm_bracket (f : Ft) {σ : PS} (h : K ≤ σ.k) (h2 : σ.k < L.length) : Tm L σ.k (bracketM L call f σ) := by
 unfold bracketM
 split
 · exact Tm.mk (Nat.le_succ _) (sees_next hE h2 ‹_›)
 · split
   · have := sees_next hE h2 ‹_›;refine Tm.bnd (tm_before hE H _ (σ := adv σ) (by show K ≤ σ.k + 1; omega) this) fun a σ1 h5 h6 => ?_
     have h5' : σ.k + 1 ≤ σ1.k := h5;exact Tm.mk (by omega) h6
   · refine Tm.bnd (H _ σ h h2) fun a σ1 h5 h6 => ?_
     split
     · have h7 := sees_next hE h6 ‹_›
       split
       · have h8 := sees_next hE (σ := adv σ1) h7 ‹_›;exact Tm.mk (by show σ.k ≤ σ1.k + 1 + 1; omega) h8
       · refine Tm.bnd (tm_before hE H _ (σ := adv σ1) (by show K ≤ σ1.k + 1; omega) h7) fun a σ2 h8 h9 => ?_
         have h8' : σ1.k + 1 ≤ σ2.k := h8;exact Tm.mk (by omega) h9
     · have := up_need hE ⟨#[93]⟩ h6;exact Tm.mk (by omega) this.2
theorem tm_point {σ : PS} (h2 : σ.k < L.length) : Tm L σ.k (pointM L σ) := by
 unfold pointM;have h1 := up_read hE h2
 split
 · exact Tm.mk h1.1 h1.2
 · exact Tm.mk (Nat.le_refl _) h2
theorem tm_array {σ : PS} (h : K ≤ σ.k) (h2 : σ.k < L.length) : Tm L σ.k (arrayM L call σ) := by
 unfold arrayM
 split
 · exact Tm.mk (Nat.le_succ _) (sees_next hE h2 ‹_›)
 · refine Tm.bnd (tm_before hE H _ h h2) fun a σ1 h5 h6 => Tm.mk h5 h6
theorem tm_entry {σ : PS} (h : K ≤ σ.k) (h2 : σ.k < L.length) : Tm L σ.k (entryM L call σ) := by
 have h1 := up_read hE h2;unfold entryM
 split
 · have h3 := sees_next hE h2 ‹_›;refine Tm.bnd (tm_before hE H _ (σ := adv σ) (by show K ≤ σ.k + 1; omega) h3) fun a σ1 h5 h6 => ?_
   have h5' : σ.k + 1 ≤ σ1.k := h5;have h7 := up_need hE ⟨#[58]⟩ h6;refine Tm.bnd (H _ _ (by omega) h7.2) fun a σ2 h8 h9 => Tm.mk (by omega) h9
 · split
   · exact Tm.mk h1.1 h1.2
   · split
     · split
       · have h3 := sees_next hE h1.2 ‹_›;refine Tm.bnd (H _ (adv (readP L σ)) (by show K ≤ (readP L σ).k + 1; omega) h3) fun a σ2 h8 h9 => ?_
         have h8' : (readP L σ).k + 1 ≤ σ2.k := h8;exact Tm.mk (by omega) h9
       · exact Tm.mk h1.1 h1.2
     · have h3 := up_fail hE (tk L σ.k) h1.2;exact Tm.mk (by omega) h3.2
theorem tm_objL : ∀ (m : Nat) (l : List Ft) (σ : PS), K ≤ σ.k → σ.k < L.length → L.length - 1 - σ.k < m → Tm L σ.k (objL L call m l σ)
 | 0, l, σ, h, h2, h3 => by omega
 | m + 1, l, σ, h, h2, h3 => by
  rw [objL];dsimp only;refine Tm.bnd (tm_entry hE H h h2) fun p σ1 h5 h6 => ?_
  split
  · have h7 := sees_next hE h6 ‹_›;exact (tm_objL m _ (adv σ1) (by show K ≤ σ1.k + 1; omega) h7 (by show L.length - 1 - (σ1.k + 1) < m; omega)).mono (by show σ.k ≤ σ1.k + 1; omega)
  · have := up_need hE ⟨#[125]⟩ h6;exact Tm.mk (by omega) this.2
theorem tm_try {σ : PS} (h : K ≤ σ.k) (h2 : σ.k < L.length) : Tm L σ.k (tryM L call σ) := by
 unfold tryM;refine Tm.bnd (H _ σ h h2) fun a σ1 h5 h6 => ?_
 split
 · have h3 := sees_next hE h6 ‹_›;refine Tm.bnd (H _ (adv σ1) (by show K ≤ σ1.k + 1; omega) h3) fun a σ2 h8 h9 => ?_
   have h8' : σ1.k + 1 ≤ σ2.k := h8;exact Tm.mk (by omega) h9
 · exact Tm.mk h5 h6
theorem tm_source {σ : PS} (h : K ≤ σ.k) (h2 : σ.k < L.length) : Tm L σ.k (sourceM L call σ) := by
 unfold sourceM;refine Tm.bnd (H _ σ h h2) fun a σ1 h5 h6 => ?_
 have h7 := up_need hE ⟨#[97, 115]⟩ h6;have h8 := up_kind hE 3 h7.2;have h9 := up_need hE ⟨#[40]⟩ h8.2;exact Tm.mk (by omega) h9.2
theorem tm_reduce {σ : PS} (h : K ≤ σ.k) (h2 : σ.k < L.length) : Tm L σ.k (reduceM L call σ) := by
 unfold reduceM;refine Tm.bnd (tm_source hE H h h2) fun a σ1 h5 h6 => ?_
 refine Tm.bnd (tm_before hE H _ (by omega) h6) fun a σ2 h7 h8 => ?_
 refine Tm.bnd (tm_before hE H _ (by omega) h8) fun a σ3 h9 h10 => ?_
 exact Tm.mk (by omega) h10
theorem tm_foreach {σ : PS} (h : K ≤ σ.k) (h2 : σ.k < L.length) : Tm L σ.k (foreachM L call σ) := by
 unfold foreachM;refine Tm.bnd (tm_source hE H h h2) fun a σ1 h5 h6 => ?_
 refine Tm.bnd (tm_before hE H _ (by omega) h6) fun a σ2 h7 h8 => ?_
 refine Tm.bnd (H _ _ (by omega) h8) fun a σ3 h9 h10 => ?_
 split
 · have h3 := sees_next hE h10 ‹_›;refine Tm.bnd (H _ (adv σ3) (by show K ≤ σ3.k + 1; omega) h3) fun a σ4 h11 h12 => ?_
   have h11' : σ3.k + 1 ≤ σ4.k := h11;have h13 := up_need hE ⟨#[41]⟩ h12;exact Tm.mk (by omega) h13.2
 · have h13 := up_need hE ⟨#[41]⟩ h10;exact Tm.mk (by omega) h13.2
theorem tm_suffix (f : Ft) {σ : PS} (h : K ≤ σ.k + 1) (h2 : σ.k < L.length) (hs : sufB L σ = true) : Tm L (σ.k + 1) (suffixM L call f σ) := by
 unfold suffixM
 split
 · have h3 := sees_next hE h2 ‹_›;have h4 := up_kind hE (σ := adv σ) 6 h3;exact Tm.mk h4.1 h4.2
 · split
   · have h3 := sees_next hE h2 ‹_›;exact Tm.mk (Nat.le_refl _) h3
   · split
     · have h3 := sees_next hE h2 ‹_›;exact tm_bracket hE H f (σ := adv σ) h h3
     · have h4 : (tk L σ.k).k = 4 := by
        unfold sufB at hs;simp only [Bool.or_eq_true, decide_eq_true_eq] at hs;rcases hs with h | h | h | h
        · exact h
        · contradiction
        · contradiction
        · contradiction
       have h5 := hE.next h2 (by omega)
       refine Tm.mk (σ := kindS L 4 σ) ?_ (up_kind hE 4 h2).2;unfold kindS readP adv;rw [if_pos h4, if_neg (by omega)];exact Nat.le_refl _
theorem tm_postL : ∀ (m : Nat) (f : Ft) (σ : PS), K ≤ σ.k + 1 → σ.k < L.length → L.length - 1 - σ.k < m → Tm L σ.k (postL L call m f σ)
 | 0, l, σ, h, h2, h3 => by omega
 | m + 1, f, σ, h, h2, h3 => by
  rw [postL];dsimp only
  split
  · refine Tm.bnd (tm_suffix hE H f h h2 ‹_›) fun u σ1 h5 h6 => ?_
    exact (tm_postL m u σ1 (by omega) h6 (by omega)).mono (by omega)
  · exact Tm.mk (Nat.le_refl _) h2
include hn
theorem tm_def {σ : PS} (h : K ≤ σ.k) (h2 : σ.k < L.length) : Tm L σ.k (defM L call n σ) := by
 unfold defM;have h3 := up_kind hE 1 h2;have h4 : Tm L (kindS L 1 σ).k (paramsM L n (kindS L 1 σ)) := by
  unfold paramsM
  split
  · have h5 := sees_next hE h3.2 ‹_›;exact (tm_listM hE (K := 0) (m := paramM L) (fun σ _ h => tm_param hE h) (σ := adv (kindS L 1 σ)) (Nat.zero_le _) h5 (by show L.length - 1 - ((kindS L 1 σ).k + 1) < n; omega)).mono (Nat.le_succ _)
  · exact Tm.mk (Nat.le_refl _) h3.2
 refine Tm.bnd h4 fun ps σ1 h5 h6 => ?_
 have h7 : (longP ps (tk L σ.k).o σ1).k = σ1.k := by unfold longP; split <;> rfl
 have h8 := up_need hE (σ := longP ps (tk L σ.k).o σ1) ⟨#[58]⟩ (by omega);refine Tm.bnd (H _ _ (by omega) h8.2) fun f σ2 h9 h10 => ?_
 have h11 := up_need hE (σ := σ2) ⟨#[59]⟩ h10;refine Tm.bnd (H _ _ (by omega) h11.2) fun f σ3 h12 h13 => ?_
 exact Tm.mk (by omega) h13
theorem tm_object {σ : PS} (h : K ≤ σ.k) (h2 : σ.k < L.length) : Tm L σ.k (objectM L call n σ) := by
 unfold objectM
 split
 · exact Tm.mk (Nat.le_succ _) (sees_next hE h2 ‹_›)
 · exact tm_objL hE H n _ σ h h2 (by omega)
theorem tm_call (s : ByteArray) {σ : PS} (h : K ≤ σ.k) (h2 : σ.k < L.length) : Tm L σ.k (callM L call n s σ) := by
 unfold callM
 split
 · have h3 := sees_next hE h2 ‹_›;refine Tm.bnd (tm_listM hE (K := K) (fun σ h1 h => H _ σ h1 h) (σ := adv σ) (by show K ≤ σ.k + 1; omega) h3 (by show L.length - 1 - (σ.k + 1) < n; omega)) fun l σ1 h4 h5 => ?_
   have h4' : σ.k + 1 ≤ σ1.k := h4;exact Tm.mk (by omega) h5
 · split
   · exact Tm.mk (Nat.le_refl _) h2
   · exact Tm.mk (Nat.le_refl _) h2
theorem tm_written (t : Fk) (ht : t.k = 0 → t.s = ⟨#[]⟩) {c : Nat} {σ : PS} (hc : c ≤ σ.k) (h : t.k ≠ 0 → K ≤ σ.k) (h2 : σ.k < L.length) : Tm L c (writtenM L call n t σ) := by
 by_cases h0 : t.k = 0
 · have h3 := ht h0;have h4 := up_fail hE t h2;have e : writtenM L call n t σ = some (zf, failP L t σ) := by
    unfold writtenM;rw [h3]
    repeat rw [if_neg (by decide)]
   rw [e];exact Tm.mk (by omega) h4.2
 · have h := h h0;refine Tm.mono ?_ hc;unfold writtenM;refine Tm.ite (fun _ => ?_) (fun _ => ?_)
   · exact tm_point hE H h2
   refine Tm.ite (fun _ => ?_) (fun _ => ?_)
   · exact Tm.mk (Nat.le_refl _) h2
   refine Tm.ite (fun _ => ?_) (fun _ => ?_)
   · exact Tm.mk (Nat.le_refl _) h2
   refine Tm.ite (fun _ => ?_) (fun _ => ?_)
   · exact Tm.mk (Nat.le_refl _) h2
   refine Tm.ite (fun _ => ?_) (fun _ => ?_)
   · exact Tm.mk (Nat.le_refl _) h2
   refine Tm.ite (fun _ => ?_) (fun _ => ?_)
   · exact tm_before hE H _ h h2
   refine Tm.ite (fun _ => ?_) (fun _ => ?_)
   · exact tm_array hE H h h2
   refine Tm.ite (fun _ => ?_) (fun _ => ?_)
   · exact tm_object hE H hn h h2
   refine Tm.ite (fun _ => ?_) (fun _ => ?_)
   · exact H _ σ h h2
   refine Tm.ite (fun _ => ?_) (fun _ => ?_)
   · exact tm_try hE H h h2
   refine Tm.ite (fun _ => ?_) (fun _ => ?_)
   · exact tm_reduce hE H h h2
   refine Tm.ite (fun _ => ?_) (fun _ => ?_)
   · exact tm_foreach hE H h h2
   refine Tm.ite (fun _ => ?_) (fun _ => ?_)
   · have h4 := up_kind hE 3 h2;exact Tm.mk h4.1 h4.2
   · have h4 := up_fail hE t h2;exact Tm.mk h4.1 h4.2
end
def lev : Ru → Nat
 | .filter => 14 | .comma => 13 | .update => 12 | .alt => 11 | .or_ => 10 | .and_ => 9 | .cmp => 8 | .sum => 7 | .product => 6 | .unary => 5 | .operand => 4 | .post => 3 | .primary => 2 | .condition => 15
theorem lev_le (r : Ru) : lev r ≤ 15 := by cases r <;> decide
theorem tm_run {L : List Fk} (hE : EndL L) : ∀ (n : Nat) (r : Ru) (σ : PS), σ.k < L.length → 40 * (L.length - 1 - σ.k) + lev r < n → Tm L σ.k (run L n r σ)
 | 0, r, σ, h, h2 => by omega
 | n + 1, r, σ, h, h2 => by
  have IH := tm_run hE n;have H : ∀ r' σ', σ.k + 1 ≤ σ'.k → σ'.k < L.length → Tm L σ'.k (run L n r' σ') := fun r' σ' h3 h4 => IH r' σ' h4 (by have := lev_le r'; omega)
  have hn : L.length - 1 - (σ.k + 1) < n ∨ L.length - 1 - σ.k = 0 := by omega
  have hlow : ∀ r', lev r' < lev r → ∀ σ', σ.k ≤ σ'.k → σ'.k < L.length → Tm L σ'.k (run L n r' σ') := fun r' h5 σ' h3 h4 => IH r' σ' h4 (by omega)
  have hn1 : L.length - 1 - σ.k < n := by
   cases r <;> simp only [lev] at h2 <;> omega
  have hn2 : L.length - 1 - (σ.k + 1) < n := by omega
  rw [run]
  cases r with
  | filter => exact tm_pairM hE _ _ (K := σ.k) (hlow _ (by decide)) (H _) (Nat.le_refl _) h
  | comma => exact tm_chainM hE _ _ (K := σ.k) (hlow _ (by decide)) (Nat.le_refl _) h hn1
  | update => exact tm_pairM hE _ _ (K := σ.k) (hlow _ (by decide)) (H _) (Nat.le_refl _) h
  | alt => exact tm_pairM hE _ _ (K := σ.k) (hlow _ (by decide)) (H _) (Nat.le_refl _) h
  | or_ => exact tm_chainM hE _ _ (K := σ.k) (hlow _ (by decide)) (Nat.le_refl _) h hn1
  | and_ => exact tm_chainM hE _ _ (K := σ.k) (hlow _ (by decide)) (Nat.le_refl _) h hn1
  | cmp => exact tm_pairM hE _ _ (K := σ.k) (hlow _ (by decide)) (H _) (Nat.le_refl _) h
  | sum => exact tm_chainM hE _ _ (K := σ.k) (hlow _ (by decide)) (Nat.le_refl _) h hn1
  | product => exact tm_chainM hE _ _ (K := σ.k) (hlow _ (by decide)) (Nat.le_refl _) h hn1
  | unary =>
   show Tm L σ.k (unaryM L (run L n) σ)
   unfold unaryM
   split
   · have h3 := sees_next hE h ‹_›;refine Tm.bnd (H _ (adv σ) (Nat.le_refl _) h3) fun a σ1 h5 h6 => ?_
     have h5' : σ.k + 1 ≤ σ1.k := h5;exact Tm.mk (by omega) h6
   · exact hlow _ (by decide) _ (Nat.le_refl _) h
  | operand =>
   show Tm L σ.k (operM L (run L n) n σ)
   unfold operM
   split
   · have h3 := sees_next hE h ‹_›;exact (tm_scope hE H _ _ (σ := adv σ) (Nat.le_refl _) h3).mono (Nat.le_succ _)
   · split
     · have h3 := sees_next hE h ‹_›;exact (tm_def hE H hn2 (σ := adv σ) (Nat.le_refl _) h3).mono (Nat.le_succ _)
     · refine Tm.bnd (hlow _ (by decide) σ (Nat.le_refl _) h) fun a σ1 h5 h6 => ?_
       split
       · have h3 := sees_next hE h6 ‹_›;exact (tm_scope hE H _ _ (σ := adv σ1) (by show σ.k + 1 ≤ σ1.k + 1; omega) h3).mono (by show σ.k ≤ σ1.k + 1; omega)
       · exact Tm.mk h5 h6
  | post =>
   show Tm L σ.k (bnd (run L n .primary σ) fun f σ1 => postL L (run L n) n f σ1)
   refine Tm.bnd (hlow _ (by decide) σ (Nat.le_refl _) h) fun a σ1 h5 h6 => ?_
   exact (tm_postL hE H n a σ1 (by omega) h6 (by omega)).mono h5
  | primary =>
   show Tm L σ.k (primM L (run L n) n σ)
   have h1 := up_read hE h;unfold primM
   split
   · exact Tm.mk h1.1 h1.2
   split
   · exact Tm.mk h1.1 h1.2
   split
   · exact Tm.mk h1.1 h1.2
   split
   · exact Tm.mk h1.1 h1.2
   split
   · have h3 : σ.k + 1 ≤ (readP L σ).k := by unfold readP; rw [if_neg (by omega)]; exact Nat.le_refl _
     exact (tm_call hE H hn2 _ h3 h1.2).mono h1.1
   · refine tm_written hE H hn2 _ (hE.none _) h1.1 (fun h0 => ?_) h1.2;unfold readP; rw [if_neg h0]; exact Nat.le_refl _
  | condition =>
   show Tm L σ.k (condM L (run L n) σ)
   unfold condM;have hf := hlow .filter (by decide);have hb : Tm L σ.k (beforeM L (run L n) ⟨#[116, 104, 101, 110]⟩ σ) := by
    unfold beforeM;refine Tm.bnd (hf σ (Nat.le_refl _) h) fun a σ1 h4 h5 => ?_
    have := up_need hE ⟨#[116, 104, 101, 110]⟩ h5;exact Tm.mk (by omega) this.2
   refine Tm.bnd hb fun q σ1 h3 h4 => ?_
   refine Tm.bnd (hf σ1 h3 h4) fun a σ2 h5 h6 => ?_
   have ho : Tm L σ2.k (otherM L (run L n) σ2) := by
    unfold otherM
    split
    · have h7 := sees_next hE h6 ‹_›;exact (H _ (adv σ2) (by show σ.k + 1 ≤ σ2.k + 1; omega) h7).mono (Nat.le_succ _)
    · split
      · have h7 := sees_next hE h6 ‹_›;exact (tm_before hE H _ (σ := adv σ2) (by show σ.k + 1 ≤ σ2.k + 1; omega) h7).mono (Nat.le_succ _)
      · have := up_need hE ⟨#[101, 110, 100]⟩ h6;exact Tm.mk this.1 this.2
   refine Tm.bnd ho fun b σ3 h7 h8 => ?_
   exact Tm.mk (by omega) h8
