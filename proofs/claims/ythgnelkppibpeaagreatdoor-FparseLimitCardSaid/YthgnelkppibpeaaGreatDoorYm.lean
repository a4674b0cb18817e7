/- The parser of filters as functions on the list of tokens: what each method does, as the program's text says it. Nothing of the program is named here. -/
import Derived.Test.YthgnelkppibpeaaGreatDoorVal
import Derived.Test.YthgnelkppibpeaaGreatDoorFx
set_option linter.unusedVariables false
set_option linter.unusedSimpArgs false
namespace Go.Proofs.YthgnelkppibpeaaGreatDoor
open Go.RowKit
/-- A filter: its operator, its text, its value, its parameters, its parts; nothing is asked of them. -/
inductive Ft where
  | mk (op : Int) (text : ByteArray) (val : V) (params : List ByteArray) (subs : List Ft)
def e0 : ByteArray := ⟨#[]⟩
def vz : V := .mk 0 0 ⟨#[]⟩ [] []
def zf : Ft := .mk 0 ⟨#[]⟩ vz [] []
def nodeF (op : Int) (l : List Ft) : Ft := .mk op ⟨#[]⟩ vz [] l
def identF : Ft := nodeF 1 []
def litF (v : V) : Ft := .mk 7 ⟨#[]⟩ v [] []
def nullF : Ft := litF vz
def textF (s : ByteArray) : Ft := litF (.mk 4 0 s [] [])
def varF (s : ByteArray) : Ft := .mk 8 s vz [] []
def fieldF (f : Ft) (s : ByteArray) : Ft := .mk 3 s vz [] [f]
def opsT (op : Int) (sg : ByteArray) : ByteArray := if op = 17 ∨ op = 27 then sg else ⟨#[]⟩
def joinF (op : Int) (sg : ByteArray) (f u : Ft) : Ft := .mk op (opsT op sg) vz [] [f, u]
/-- The state: the index of the next token, the offset of the error, the error, what is known of too many parameters. -/
structure PS where
  k : Nat
  o : Nat
  e : Nat
  long : Bool
  lo : Nat
deriving DecidableEq
def bnd {α β : Type} (x : Option (α × PS)) (f : α → PS → Option (β × PS)) : Option (β × PS) := match x with
  | none => none
  | some (a, σ) => f a σ
theorem bnd_some {α β : Type} {x : Option (α × PS)} {f : α → PS → Option (β × PS)} {r : β × PS} (h : bnd x f = some r) : ∃ a σ, x = some (a, σ) ∧ f a σ = some r := by
  cases x with
  | none => exact absurd h (by simp [bnd])
  | some p => exact ⟨p.1, p.2, rfl, h⟩
abbrev PM := PS → Option (Ft × PS)
section
variable (L : List Fk)
def tk (k : Nat) : Fk := L[k]?.getD zeroK
def isW (t : Fk) : Bool := t.k == 7 || t.k == 2
def sees (x : ByteArray) (σ : PS) : Bool := isW (tk L σ.k) && decide ((tk L σ.k).s = x)
def adv (σ : PS) : PS := { σ with k := σ.k + 1 }
def readP (σ : PS) : PS := if (tk L σ.k).k = 0 then σ else adv σ
def failP (t : Fk) (σ : PS) : PS := if σ.e = 0 then ⟨L.length - 1, t.o, if t.k = 0 then 5 else 4, σ.long, σ.lo⟩ else σ
def takeP (x : ByteArray) (σ : PS) : PS := if sees L x σ = true then adv σ else σ
def needP (x : ByteArray) (σ : PS) : PS := if sees L x σ = true then adv σ else failP L (tk L σ.k) σ
def kindS (K : Nat) (σ : PS) : PS := if (tk L σ.k).k = K then readP L σ else failP L (tk L σ.k) (readP L σ)
def memB (x : ByteArray) (xs : List ByteArray) : Bool := xs.any fun y => decide (y = x)
def anyP (xs : List ByteArray) (σ : PS) : Bool := isW (tk L σ.k) && memB (tk L σ.k).s xs
def pairM (l r : PM) (op : Int) (sg : List ByteArray) : PM := fun σ =>
  bnd (l σ) fun f σ1 => if anyP L sg σ1 = true then bnd (r (adv σ1)) fun u σ2 => some (joinF op (tk L σ1.k).s f u, σ2) else some (f, σ1)
def chainL (m : PM) (op : Int) (sg : List ByteArray) : Nat → Ft → PM
  | 0, _ => fun _ => none
  | n + 1, f => fun σ => if anyP L sg σ = true then bnd (m (adv σ)) fun u σ2 => chainL m op sg n (joinF op (tk L σ.k).s f u) σ2 else some (f, σ)
def chainM (m : PM) (op : Int) (sg : List ByteArray) (n : Nat) : PM := fun σ => bnd (m σ) fun f σ1 => chainL L m op sg n f σ1
def listL {α : Type} (m : PS → Option (α × PS)) : Nat → List α → PS → Option (List α × PS)
  | 0, _ => fun _ => none
  | n + 1, l => fun σ => if sees L (⟨#[59]⟩ : ByteArray) σ = true then bnd (m (adv σ)) fun a σ1 => listL m n (l ++ [a]) σ1 else some (l, needP L (⟨#[41]⟩ : ByteArray) σ)
def listM {α : Type} (m : PS → Option (α × PS)) (n : Nat) (σ : PS) : Option (List α × PS) := bnd (m σ) fun a σ1 => listL L m n [a] σ1
inductive Ru where
  | filter | comma | update | alt | or_ | and_ | cmp | sum | product | unary | operand | post | primary | condition
section
variable (call : Ru → PM) (n : Nat)
def beforeM (x : ByteArray) : PM := fun σ => bnd (call .filter σ) fun f σ1 => some (f, needP L x σ1)
def scopeM (op : Int) (subs : List Ft) : PM := fun σ =>
  bnd (call .filter (needP L (⟨#[124]⟩ : ByteArray) (kindS L 3 σ))) fun f σ1 => some (.mk op (tk L σ.k).s vz [] (subs ++ [f]), σ1)
def paramM (σ : PS) : Option (ByteArray × PS) :=
  if (tk L σ.k).k = 1 then some ((tk L σ.k).s, readP L σ) else if (tk L σ.k).k = 3 then some ((⟨#[36]⟩ : ByteArray) ++ (tk L σ.k).s, readP L σ) else some (⟨#[]⟩, failP L (tk L σ.k) (readP L σ))
def longP (ps : List ByteArray) (o : Nat) (σ : PS) : PS := if (8 < ps.length) ∧ σ.long = false then { σ with long := true, lo := o } else σ
def paramsM (σ : PS) : Option (List ByteArray × PS) := if sees L (⟨#[40]⟩ : ByteArray) σ = true then listM L (paramM L) n (adv σ) else some ([], σ)
def defM : PM := fun σ =>
  bnd (paramsM L n (kindS L 1 σ)) fun ps σ1 =>
  bnd (call .filter (needP L (⟨#[58]⟩ : ByteArray) (longP ps (tk L σ.k).o σ1))) fun f σ2 =>
  bnd (call .filter (needP L (⟨#[59]⟩ : ByteArray) σ2)) fun u σ3 => some (.mk 26 (tk L σ.k).s vz ps [f, u], σ3)
def bracketM (f : Ft) : PM := fun σ =>
  if sees L (⟨#[93]⟩ : ByteArray) σ = true then some (nodeF 6 [f], adv σ)
  else if sees L (⟨#[58]⟩ : ByteArray) σ = true then bnd (beforeM L call (⟨#[93]⟩ : ByteArray) (adv σ)) fun u σ1 => some (nodeF 5 [f, nullF, u], σ1)
  else bnd (call .filter σ) fun u σ1 =>
    if sees L (⟨#[58]⟩ : ByteArray) σ1 = true then
      if sees L (⟨#[93]⟩ : ByteArray) (adv σ1) = true then some (nodeF 5 [f, u, nullF], adv (adv σ1))
      else bnd (beforeM L call (⟨#[93]⟩ : ByteArray) (adv σ1)) fun v σ2 => some (nodeF 5 [f, u, v], σ2)
    else some (nodeF 4 [f, u], needP L (⟨#[93]⟩ : ByteArray) σ1)
def suffixM (f : Ft) : PM := fun σ =>
  if sees L (⟨#[46]⟩ : ByteArray) σ = true then some (fieldF f (tk L (adv σ).k).s, kindS L 6 (adv σ))
  else if sees L (⟨#[63]⟩ : ByteArray) σ = true then some (nodeF 19 [f], adv σ)
  else if sees L (⟨#[91]⟩ : ByteArray) σ = true then bracketM L call f (adv σ)
  else some (fieldF f (tk L σ.k).s, kindS L 4 σ)
def sufB (σ : PS) : Bool := decide ((tk L σ.k).k = 4) || (sees L (⟨#[46]⟩ : ByteArray) σ || (sees L (⟨#[91]⟩ : ByteArray) σ || sees L (⟨#[63]⟩ : ByteArray) σ))
def postL : Nat → Ft → PM
  | 0, _ => fun _ => none
  | m + 1, f => fun σ => if sufB L σ = true then bnd (suffixM L call f σ) fun u σ1 => postL m u σ1 else some (f, σ)
def pointM : PM := fun σ => if (tk L σ.k).k = 6 then some (fieldF identF (tk L σ.k).s, readP L σ) else some (identF, σ)
def arrayM : PM := fun σ => if sees L (⟨#[93]⟩ : ByteArray) σ = true then some (nodeF 9 [], adv σ) else bnd (beforeM L call (⟨#[93]⟩ : ByteArray) σ) fun f σ1 => some (nodeF 9 [f], σ1)
def entryM (σ : PS) : Option ((Ft × Ft) × PS) :=
  if sees L (⟨#[40]⟩ : ByteArray) σ = true then bnd (beforeM L call (⟨#[41]⟩ : ByteArray) (adv σ)) fun f σ1 => bnd (call .alt (needP L (⟨#[58]⟩ : ByteArray) σ1)) fun u σ2 => some ((f, u), σ2)
  else if (tk L σ.k).k = 3 then some ((textF (tk L σ.k).s, varF (tk L σ.k).s), readP L σ)
  else if (tk L σ.k).k = 1 ∨ (tk L σ.k).k = 2 ∨ (tk L σ.k).k = 6 then
    if sees L (⟨#[58]⟩ : ByteArray) (readP L σ) = true then bnd (call .alt (adv (readP L σ))) fun u σ1 => some ((textF (tk L σ.k).s, u), σ1)
    else some ((textF (tk L σ.k).s, fieldF identF (tk L σ.k).s), readP L σ)
  else some ((zf, zf), failP L (tk L σ.k) (readP L σ))
def objL : Nat → List Ft → PM
  | 0, _ => fun _ => none
  | m + 1, l => fun σ => bnd (entryM L call σ) fun p σ1 => if sees L (⟨#[44]⟩ : ByteArray) σ1 = true then objL m (l ++ [p.1, p.2]) (adv σ1) else some (nodeF 10 (l ++ [p.1, p.2]), needP L (⟨#[125]⟩ : ByteArray) σ1)
def objectM : PM := fun σ => if sees L (⟨#[125]⟩ : ByteArray) σ = true then some (nodeF 10 [], adv σ) else objL L call n [] σ
def otherM : PM := fun σ =>
  if sees L (⟨#[101, 108, 105, 102]⟩ : ByteArray) σ = true then call .condition (adv σ)
  else if sees L (⟨#[101, 108, 115, 101]⟩ : ByteArray) σ = true then beforeM L call (⟨#[101, 110, 100]⟩ : ByteArray) (adv σ)
  else some (identF, needP L (⟨#[101, 110, 100]⟩ : ByteArray) σ)
def condM : PM := fun σ => bnd (beforeM L call (⟨#[116, 104, 101, 110]⟩ : ByteArray) σ) fun q σ1 => bnd (call .filter σ1) fun a σ2 => bnd (otherM L call σ2) fun b σ3 => some (nodeF 18 [q, a, b], σ3)
def tryM : PM := fun σ => bnd (call .post σ) fun f σ1 => if sees L (⟨#[99, 97, 116, 99, 104]⟩ : ByteArray) σ1 = true then bnd (call .post (adv σ1)) fun u σ2 => some (nodeF 19 [f, u], σ2) else some (nodeF 19 [f], σ1)
def sourceM (σ : PS) : Option ((Ft × ByteArray) × PS) := bnd (call .post σ) fun f σ1 => some ((f, (tk L (needP L (⟨#[97, 115]⟩ : ByteArray) σ1).k).s), needP L (⟨#[40]⟩ : ByteArray) (kindS L 3 (needP L (⟨#[97, 115]⟩ : ByteArray) σ1)))
def reduceM : PM := fun σ => bnd (sourceM L call σ) fun p σ1 => bnd (beforeM L call (⟨#[59]⟩ : ByteArray) σ1) fun a σ2 => bnd (beforeM L call (⟨#[41]⟩ : ByteArray) σ2) fun b σ3 => some (.mk 20 p.2 vz [] [p.1, a, b], σ3)
def foreachM : PM := fun σ => bnd (sourceM L call σ) fun p σ1 => bnd (beforeM L call (⟨#[59]⟩ : ByteArray) σ1) fun a σ2 => bnd (call .filter σ2) fun b σ3 =>
  if sees L (⟨#[59]⟩ : ByteArray) σ3 = true then bnd (call .filter (adv σ3)) fun c σ4 => some (.mk 21 p.2 vz [] [p.1, a, b, c], needP L (⟨#[41]⟩ : ByteArray) σ4)
  else some (.mk 21 p.2 vz [] [p.1, a, b, identF], needP L (⟨#[41]⟩ : ByteArray) σ3)
def callM (s : ByteArray) : PM := fun σ =>
  if sees L (⟨#[40]⟩ : ByteArray) σ = true then bnd (listM L (call .filter) n (adv σ)) fun l σ1 => some (.mk 25 s vz [] l, σ1)
  else if s = (⟨#[105, 110, 112, 117, 116, 115]⟩ : ByteArray) then some (nodeF 28 [], σ) else some (.mk 25 s vz [] [], σ)
def writtenM (t : Fk) : PM := fun σ =>
  if t.s = (⟨#[46]⟩ : ByteArray) then pointM L σ
  else if t.s = (⟨#[46, 46]⟩ : ByteArray) then some (nodeF 2 [], σ)
  else if t.s = (⟨#[116, 114, 117, 101]⟩ : ByteArray) then some (litF (.mk 2 0 ⟨#[]⟩ [] []), σ)
  else if t.s = (⟨#[102, 97, 108, 115, 101]⟩ : ByteArray) then some (litF (.mk 1 0 ⟨#[]⟩ [] []), σ)
  else if t.s = (⟨#[110, 117, 108, 108]⟩ : ByteArray) then some (nullF, σ)
  else if t.s = (⟨#[40]⟩ : ByteArray) then beforeM L call (⟨#[41]⟩ : ByteArray) σ
  else if t.s = (⟨#[91]⟩ : ByteArray) then arrayM L call σ
  else if t.s = (⟨#[123]⟩ : ByteArray) then objectM L call n σ
  else if t.s = (⟨#[105, 102]⟩ : ByteArray) then call .condition σ
  else if t.s = (⟨#[116, 114, 121]⟩ : ByteArray) then tryM L call σ
  else if t.s = (⟨#[114, 101, 100, 117, 99, 101]⟩ : ByteArray) then reduceM L call σ
  else if t.s = (⟨#[102, 111, 114, 101, 97, 99, 104]⟩ : ByteArray) then foreachM L call σ
  else if t.s = (⟨#[98, 114, 101, 97, 107]⟩ : ByteArray) then some (.mk 23 (tk L σ.k).s vz [] [], kindS L 3 σ)
  else some (zf, failP L t σ)
def primM : PM := fun σ =>
  if (tk L σ.k).k = 4 then some (fieldF identF (tk L σ.k).s, readP L σ)
  else if (tk L σ.k).k = 5 then some (litF (.mk 3 (tk L σ.k).i ⟨#[]⟩ [] []), readP L σ)
  else if (tk L σ.k).k = 6 then some (textF (tk L σ.k).s, readP L σ)
  else if (tk L σ.k).k = 3 then some (varF (tk L σ.k).s, readP L σ)
  else if (tk L σ.k).k = 1 then callM L call n (tk L σ.k).s (readP L σ)
  else writtenM L call n (tk L σ.k) (readP L σ)
def operM : PM := fun σ =>
  if sees L (⟨#[108, 97, 98, 101, 108]⟩ : ByteArray) σ = true then scopeM L call 22 [] (adv σ)
  else if sees L (⟨#[100, 101, 102]⟩ : ByteArray) σ = true then defM L call n (adv σ)
  else bnd (call .post σ) fun f σ1 => if sees L (⟨#[97, 115]⟩ : ByteArray) σ1 = true then scopeM L call 24 [f] (adv σ1) else some (f, σ1)
def unaryM : PM := fun σ => if sees L (⟨#[45]⟩ : ByteArray) σ = true then bnd (call .unary (adv σ)) fun f σ1 => some (nodeF 11 [f], σ1) else call .operand σ
def bodyM : Ru → PM
  | .filter => pairM L (call .comma) (call .filter) 12 [(⟨#[124]⟩ : ByteArray)]
  | .comma => chainM L (call .update) 13 [(⟨#[44]⟩ : ByteArray)] n
  | .update => pairM L (call .alt) (call .alt) 27 [(⟨#[61]⟩ : ByteArray), (⟨#[124, 61]⟩ : ByteArray), (⟨#[43, 61]⟩ : ByteArray), (⟨#[45, 61]⟩ : ByteArray), (⟨#[42, 61]⟩ : ByteArray), (⟨#[47, 61]⟩ : ByteArray), (⟨#[37, 61]⟩ : ByteArray)]
  | .alt => pairM L (call .or_) (call .alt) 14 [(⟨#[47, 47]⟩ : ByteArray)]
  | .or_ => chainM L (call .and_) 15 [(⟨#[111, 114]⟩ : ByteArray)] n
  | .and_ => chainM L (call .cmp) 16 [(⟨#[97, 110, 100]⟩ : ByteArray)] n
  | .cmp => pairM L (call .sum) (call .sum) 17 [(⟨#[61, 61]⟩ : ByteArray), (⟨#[33, 61]⟩ : ByteArray), (⟨#[60]⟩ : ByteArray), (⟨#[60, 61]⟩ : ByteArray), (⟨#[62]⟩ : ByteArray), (⟨#[62, 61]⟩ : ByteArray)]
  | .sum => chainM L (call .product) 17 [(⟨#[43]⟩ : ByteArray), (⟨#[45]⟩ : ByteArray)] n
  | .product => chainM L (call .unary) 17 [(⟨#[42]⟩ : ByteArray), (⟨#[47]⟩ : ByteArray), (⟨#[37]⟩ : ByteArray)] n
  | .unary => unaryM L call
  | .operand => operM L call n
  | .post => fun σ => bnd (call .primary σ) fun f σ1 => postL L call n f σ1
  | .primary => primM L call n
  | .condition => condM L call
end
def run : Nat → Ru → PM
  | 0, _ => fun _ => none
  | n + 1, r => bodyM L (run n) n r
/-- What is found of the list of tokens: the filter, or an error and its offset. -/
def parseT : Ft × Nat × Nat := match run L (40 * L.length) .filter ⟨0, 0, 0, false, 0⟩ with
  | none => (zf, 0, 0)
  | some (f, σ) =>
    let σ' := kindS L 0 σ
    if σ'.e = 0 then if σ'.long = true then (zf, σ'.lo, 2) else (f, 0, 0) else (zf, σ'.o, σ'.e)
end
def parseP (l : List UInt8) : Ft × Nat × Nat := match (lexFP l).ts with
  | none => (zf, (lexFP l).p, (lexFP l).e)
  | some ts => parseT ts
end Go.Proofs.YthgnelkppibpeaaGreatDoor
