/- slices.Values at values: the iterator's contract. slices.Values, AppendSeq and Collect at values. slices.SortFunc at values: the contract. slices.BinarySearchFunc at values. The closure of arith.without, and slices.IndexFunc over it. -/
import Derived.RangeFuncNested
import Derived.RangeFuncBound
import Derived.RangeFuncCalls
import Derived.RangeFuncLeaves
import Derived.RangeFuncBox
import Derived.Shelf.Abstract
import Derived.Shelf.RegionOpen
import Derived.WalkKit
import Derived.OwnWalkIn
import Derived.TacticsInMore
import Derived.LoopNIn
import Derived.LoopIn
import Derived.Lib.Hide
import Derived.Test.YtjafmdngbphacaaGreatDoorRows
import Derived.Test.YtjafmdngbphacaaGreatDoorC07
import Derived.Test.YtjafmdngbphacaaGreatDoorC02
import Derived.RangeFuncFrom
import Derived.OneCell
import Derived.Shelf.SlSortCmp.WholeK
import Derived.Ground.SlsfProg
import Derived.Test.YtjafmdngbphacaaGreatDoorC16
import Derived.Test.YtjafmdngbphacaaGreatDoorC15
import Derived.Test.YtjafmdngbphacaaGreatDoorC31
import Derived.Shelf.AbstractIn
import Derived.Deep.LoopGhost
import Derived.Deep.RegionHeld3
import Derived.Deep.QuietTactic
set_option linter.unusedVariables false
set_option linter.unusedSimpArgs false
namespace Go.Proofs.YtjafmdngbphacaaGreatDoor
open Go.RowKit Go.Shelf
attribute [local go_sem] Oper.semAt_some
/-- Five cells that can hold a value. -/
structure Fv where
  k : Int
  n : Int
  s : ByteArray
  A : Option Addr
  la : Nat
  a : Nat
  C : Option Addr
  lc : Nat
  c : Nat
def Fv.cs (x : Fv) : List Value := [.int .i64 x.k, .int .i64 x.n, .string x.s, .slice x.A x.la x.a, .slice x.C x.lc x.c]
instance : Inhabited Fv := ⟨⟨0, 0, ⟨#[]⟩, none, 0, 0, none, 0, 0⟩⟩
theorem Fv.len (x : Fv) : x.cs.length = 5 := rfl
theorem Fv.one (x : Fv) : ∀ u ∈ x.cs, u.oneCell' = true := by
  intro u hu
  simp only [Fv.cs, List.mem_cons, List.not_mem_nil, or_false] at hu
  rcases hu with rfl | rfl | rfl | rfl | rfl <;> rfl
/-- The five cells from o on in block b hold x. -/
def FiveAt (W : World) (b o : Nat) (x : Fv) : Prop :=
  W.cell? ⟨b, o, none⟩ = some (.int .i64 x.k) ∧ W.cell? ⟨b, o + 1, none⟩ = some (.int .i64 x.n) ∧ W.cell? ⟨b, o + 2, none⟩ = some (.string x.s) ∧ W.cell? ⟨b, o + 3, none⟩ = some (.slice x.A x.la x.a) ∧ W.cell? ⟨b, o + 4, none⟩ = some (.slice x.C x.lc x.c)
theorem FiveAt.below {W W' : World} {b o B : Nat} {x : Fv} (h : FiveAt W b o x) (hb : Below B W W') (hlt : b < B) : FiveAt W' b o x :=
  ⟨(hb.cell (p := ⟨b, o, none⟩) hlt).trans h.1, (hb.cell (p := ⟨b, o + 1, none⟩) hlt).trans h.2.1, (hb.cell (p := ⟨b, o + 2, none⟩) hlt).trans h.2.2.1, (hb.cell (p := ⟨b, o + 3, none⟩) hlt).trans h.2.2.2.1, (hb.cell (p := ⟨b, o + 4, none⟩) hlt).trans h.2.2.2.2⟩
end Go.Proofs.YtjafmdngbphacaaGreatDoor
namespace Go.Proofs.YtjafmdngbphacaaGreatDoor
open Go.RowKit Go.Shelf
attribute [local go_sem] Oper.semAt_some
def fvZero : Fv := ⟨0, 0, ⟨#[]⟩, none, 0, 0, none, 0, 0⟩
/-- The slice value reads as the five-cell rows zs, in blocks below n₀. -/
def FvRow (n₀ : Nat) (W : World) (A : Option Addr) (zs : List Fv) : Prop := ∀ j x, zs[j]? = some x → ∃ b o, A = some ⟨b, o, none⟩ ∧ b < n₀ ∧ FiveAt W b (o + j * 5) x
theorem FvRow.below {n₀ B : Nat} {W W' : World} {A : Option Addr} {zs : List Fv} (h : FvRow n₀ W A zs) (hb : Below B W W') (hB : n₀ ≤ B) : FvRow n₀ W' A zs := fun j x hx =>
  let ⟨b, o, e, hlt, hf⟩ := h j x hx
  ⟨b, o, e, hlt, hf.below hb (by omega)⟩
/-- One cell of a row of the call's own turned. -/
theorem own_set {w : World} {base g i n size cap : Nat} {e : TypeId} {xs : List Value} (h : w.ownsRow base e size (.slice (some ⟨g, 0, none⟩) n cap) n xs) (hi : i < n * size) (u : Value) :
    (w.setCell ⟨g, i, none⟩ u).ownsRow base e size (.slice (some ⟨g, 0, none⟩) n cap) n (xs.set i u) := by
  refine ⟨by rw [List.length_set]; exact h.1, ?_⟩
  rcases h.2 with ⟨h0, _⟩ | ⟨g', cap', cur, hv, hbg, hg, hnc, hcm, hcs, ht⟩
  · cases h0
  · cases hv
    refine .inr ⟨g, cap, cur.setIfInBounds i u, rfl, hbg, ?_, hnc, hcm, by rw [Array.size_setIfInBounds]; exact hcs, ?_⟩
    · have := (show Box w g e cur from hg).put i u
      exact this
    · rw [Array.toList_setIfInBounds, List.take_set, ht]
theorem flat_len (xs : List Fv) : (xs.flatMap Fv.cs).length = xs.length * 5 := by
  induction xs with
  | nil => rfl
  | cons x r ih => rw [List.flatMap_cons, List.length_append, ih, Fv.len, List.length_cons]; omega
end Go.Proofs.YtjafmdngbphacaaGreatDoor
namespace Go.Proofs.YtjafmdngbphacaaGreatDoor
open Go.RowKit Go.Shelf Go.Sort
/-- A value that lies below B, valid, with the five cells that hold it. -/
def Sv (w0 : World) (B : Nat) : Type := {p : V × Fv // Lies w0 (· < B) p.1 p.2.cs ∧ valid p.1 = true}
def Sv.v {w0 : World} {B : Nat} (x : Sv w0 B) : V := x.1.1
def Sv.enc {w0 : World} {B : Nat} (x : Sv w0 B) : List Value := x.1.2.cs
theorem Sv.lies {w0 : World} {B : Nat} (x : Sv w0 B) : Lies w0 (· < B) x.v x.enc := x.2.1
theorem Sv.ok {w0 : World} {B : Nat} (x : Sv w0 B) : valid x.v = true := x.2.2
theorem five_get (x : Fv) (c : Nat) (hc : c < 5) : x.cs[c]? = some (x.cs[c]!) := by
  rw [getElem!_pos x.cs c (by rw [Fv.len]; exact hc)]
  exact List.getElem?_eq_getElem _
theorem flat_get : ∀ (xs : List Fv) (t : Nat), t < xs.length * 5 → (xs.flatMap Fv.cs)[t]? = some ((xs[t / 5]!).cs[t % 5]!)
  | [], t, h => by simp at h
  | x :: r, t, h => by
    rw [List.flatMap_cons]
    rcases Nat.lt_or_ge t 5 with h5 | h5
    · rw [List.getElem?_append_left (by rw [Fv.len]; exact h5), Nat.div_eq_of_lt h5, Nat.mod_eq_of_lt h5]
      exact five_get x t h5
    · obtain ⟨u, rfl⟩ : ∃ u, t = u + 5 := ⟨t - 5, by omega⟩
      rw [List.getElem?_append_right (by rw [Fv.len]; omega), Fv.len, Nat.add_sub_cancel, flat_get r u (by simp at h; omega), Nat.add_mod_right, Nat.add_div_right _ (by omega)]
      simp
end Go.Proofs.YtjafmdngbphacaaGreatDoor
namespace Go.Proofs.YtjafmdngbphacaaGreatDoor
open Go.RowKit Go.Shelf Go.Sort
/-- A row of valid values that lies below B. -/
structure Rw (w : World) (B : Nat) (A : Option Addr) (l : List (V × Fv)) : Prop where
  row : FvRow B w A (l.map Prod.snd)
  lies : ∀ p ∈ l, Lies w (· < B) p.1 p.2.cs
  ok : ∀ p ∈ l, valid p.1 = true
  len : l.length ≤ 1000000
theorem Rw.below {w W : World} {B C : Nat} {A : Option Addr} {l : List (V × Fv)} (h : Rw w B A l) (hb : Below C w W) (hB : B ≤ C) : Rw W B A l :=
  ⟨h.row.below hb hB, fun p hp => (h.lies p hp).move fun b hlt => ⟨hlt, hb.block b (Nat.lt_of_lt_of_le hlt hB)⟩, h.ok, h.len⟩
theorem Rw.at {w : World} {B : Nat} {A : Option Addr} {l : List (V × Fv)} (h : Rw w B A l) {j : Nat} {p : V × Fv} (hj : l[j]? = some p) : ∃ b o, A = some ⟨b, o, none⟩ ∧ b < B ∧ FiveAt w b (o + j * 5) p.2 :=
  h.row j p.2 (by rw [List.getElem?_map, hj]; rfl)
end Go.Proofs.YtjafmdngbphacaaGreatDoor
namespace Go.Proofs.YtjafmdngbphacaaGreatDoor
open Go.RowKit Go.Shelf Go.Sort
theorem FvRow.mono {n₀ n₁ : Nat} {W : World} {A : Option Addr} {zs : List Fv} (h : FvRow n₀ W A zs) (hB : n₀ ≤ n₁) : FvRow n₁ W A zs := fun j x hx => by
  obtain ⟨b, o, e, hb, hf⟩ := h j x hx
  exact ⟨b, o, e, Nat.lt_of_lt_of_le hb hB, hf⟩
theorem Rw.mono {w : World} {B C : Nat} {A : Option Addr} {l : List (V × Fv)} (h : Rw w B A l) (hB : B ≤ C) : Rw w C A l :=
  ⟨h.row.mono hB, fun p hp => (h.lies p hp).move fun b hlt => ⟨Nat.lt_of_lt_of_le hlt hB, rfl⟩, h.ok, h.len⟩
/-- Is a value among the sorted ones? -/
def goneB (l : List (V × Fv)) (t : V) : Bool := l.any fun p => decide (vcmp p.1 t = 0)
end Go.Proofs.YtjafmdngbphacaaGreatDoor
