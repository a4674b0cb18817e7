/- ArithStrings. -/
import Derived.Test.YtjafmdngbphacaaGreatDoorC28
import Derived.Test.YtjafmdngbphacaaGreatDoorC25
import Derived.Test.YtjafmdngbphacaaGreatDoorC07
import Derived.Lib.AppendZerosOnto
import Derived.WalkSpells
import Derived.WalkLawsBesides
import Derived.Outline
import Derived.Shelf.Lays
import Derived.Shelf.Strings.Repeat
import Derived.Ground.NamesProg
import Derived.Test.YtjafmdngbphacaaGreatDoorRows
import Derived.WalkKit
import Derived.Lib.Hide
import Derived.Deep.RegionHeld3
set_option linter.unusedVariables false
set_option linter.unusedSimpArgs false
namespace Go.Proofs.YtjafmdngbphacaaGreatDoor
open Go.RowKit Go.Sort
theorem below_dr {w0 W : World} (h : Below w0.heap.size w0 W) : Below w0.heap.size w0 W.drew := h.drew
/-- What stands in the middle of a region that lays one value's box: nothing old has turned; the box, if it is laid, is zero. -/
structure Sb (w0 W : World) (z : Option Nat) : Prop where
  below : Below w0.heap.size w0 W
  box : ∀ g, z = some g → w0.heap.size ≤ g ∧ Box W g 25 #[.int .i64 0, .int .i64 0, .string ⟨#[]⟩, .slice none 0 0, .slice none 0 0]
theorem Sb.start (w : World) : Sb w w none := ⟨Below.refl _ _, fun g h => by cases h⟩
theorem Sb.drew {w0 W : World} {z : Option Nat} (h : Sb w0 W z) : Sb w0 W.drew z := ⟨below_dr h.below, fun g e => h.box g e⟩
theorem Sb.zbox {w0 W : World} (h : Sb w0 W none) : Sb w0 (W.alloc (.cells #[.int .i64 0, .int .i64 0, .string ⟨#[]⟩, .slice none 0 0, .slice none 0 0] 25)) (some W.heap.size) :=
  ⟨chain h.below (below1 _ _), fun g e => by injection e with e; subst e; exact ⟨h.below.size, Box.laid _ _ _⟩⟩
theorem Sb.call {w0 W W' : World} {z : Option Nat} (hb : Below W.heap.size W W') (h : Sb w0 W z) : Sb w0 W' z :=
  ⟨chain h.below hb, fun g e => ⟨(h.box g e).1, (h.box g e).2.below hb (h.box g e).2.lt⟩⟩
/-- A value that a call has handed back lies in a box of its own. -/
def GotB (w0 : World) (r : V) (er : Int) (t u : Value) (wx : World) : Prop :=
  Below w0.heap.size w0 wx ∧ u = .int .i64 er ∧ ∃ (g : Nat) (k n : Int) (s : ByteArray) (A : Option Addr) (la a : Nat) (C : Option Addr) (lc c : Nat), t = .pointer (some ⟨g, 0, none⟩) ∧ Vx wx g r [.int .i64 k, .int .i64 n, .string s, .slice A la a, .slice C lc c]
/-- What a call hands back in the middle of such a region. -/
def OpS (w0 : World) (z : Option Nat) (r : V) (er : Int) (e : Ending) (w' : World) : Prop :=
  ∃ (k n : Int) (s : ByteArray) (A : Option Addr) (la a : Nat) (C : Option Addr) (lc c : Nat), e = .returned (.tuple #[.agg #[.int .i64 k, .int .i64 n, .string s, .slice A la a, .slice C lc c], .int .i64 er]) ∧ Sb w0 w' z ∧
    Lies w' (fun b => (∀ g, z = some g → b ≠ g) ∧ b < w'.heap.size) r [.int .i64 k, .int .i64 n, .string s, .slice A la a, .slice C lc c]
theorem opS_of {w0 W : World} {z : Option Nat} {r : V} {er : Int} {f : FuncId} {args : Array Value} (h : Sb w0 W z) (hc : Calls Tryz.prog f args W (RetPost r er W)) : Calls Tryz.prog f args W (OpS w0 z r er) := by
  refine (ret_open hc).mono fun e w' hp => ?_
  obtain ⟨k, n, s, ks, es, A, a, C, c, hv, rfl, hb, hl⟩ := hp
  exact ⟨k, n, s, A, ks.length, a, C, es.length, c, rfl, Sb.call hb h, hl.move fun b hb => ⟨⟨fun g e => by have := (h.box g e).2.lt; omega, hb.2⟩, rfl⟩⟩
theorem gotB_last {w0 w3 : World} {r : V} {er k n : Int} {s : ByteArray} {A C : Option Addr} {la a lc c : Nat} {z : Option Nat} (hs : Sb w0 w3 z)
    (hl : Lies w3 (fun b => (∀ g, z = some g → b ≠ g) ∧ b < w3.heap.size) r [.int .i64 k, .int .i64 n, .string s, .slice A la a, .slice C lc c]) :
    GotB w0 r er (.pointer (some ⟨w3.heap.size, 0, none⟩)) (.int .i64 er) (w3.alloc (.cells #[.int .i64 k, .int .i64 n, .string s, .slice A la a, .slice C lc c] 25)) :=
  ⟨chain hs.below (below1 _ _), rfl, _, k, n, s, A, la, a, C, lc, c, rfl, Vx.new (hl.move fun b hb => ⟨hb.2, rfl⟩)⟩
theorem gotB_fill {w0 w3 : World} {r : V} {er k n : Int} {s : ByteArray} {A C : Option Addr} {la a lc c g : Nat} (hs : Sb w0 w3 (some g))
    (hl : Lies w3 (fun b => (∀ g', some g = some g' → b ≠ g') ∧ b < w3.heap.size) r [.int .i64 k, .int .i64 n, .string s, .slice A la a, .slice C lc c]) :
    GotB w0 r er (.pointer (some ⟨g, 0, none⟩)) (.int .i64 er) (((((w3.setCell ⟨g, 0, none⟩ (.int .i64 k)).setCell ⟨g, 1, none⟩ (.int .i64 n)).setCell ⟨g, 2, none⟩ (.string s)).setCell ⟨g, 3, none⟩ (.slice A la a)).setCell ⟨g, 4, none⟩ (.slice C lc c)) := by
  have hx := (hs.box g rfl).2
  have hz := (hs.box g rfl).1
  refine ⟨below_five_m hz hs.below _ _ _ _ _, rfl, g, k, n, s, A, la, a, C, lc, c, rfl, ((((hx.put 0 _).put 1 _).put 2 _).put 3 _).put 4 _, ?_⟩
  refine hl.move fun b hb => ⟨by simp [World.setCell]; exact hb.2, ?_⟩
  have hne : b ≠ g := hb.1 g rfl
  rw [Below.heap_setCell _ _ _ _ hne, Below.heap_setCell _ _ _ _ hne, Below.heap_setCell _ _ _ _ hne, Below.heap_setCell _ _ _ _ hne, Below.heap_setCell _ _ _ _ hne]
theorem valid_str {s : ByteArray} (h : okS s = true) (hs : s.size ≤ 4096) : valid (strV s) = true := by
  rw [valid_iff]
  unfold strV
  refine ⟨?_, ?_, ?_, ?_⟩
  · rw [good, goodL]
    have h1 : fits 4 0 s ([] : List ByteArray).length ([] : List V).length = true := by
      unfold fits
      simp
    rw [h1]
    simp [h, hs, keysOk]
  · rw [dep]; simp
  · rw [V.sz, V.szL]; decide
  · rw [vbyt, vbytL]; simp [kb]; omega
theorem str_ok {s : ByteArray} (h : okS s = true) (hs : s.size ≤ 4096) : strR s = strV s ∧ strE s = 0 := by
  rw [(strR_ok h).1, (strR_ok h).2, finV_ok (valid_str h hs), finE_ok (valid_str h hs)]
  exact ⟨rfl, rfl⟩
/-- A string that a call hands back. -/
theorem str_open {f : FuncId} {args : Array Value} {w : World} {s : ByteArray} {err : Int} (h : Calls Tryz.prog f args w (RetPost (strV s) err w)) :
    Calls Tryz.prog f args w fun e w' => ∃ (A : Option Addr) (a : Nat) (B : Option Addr) (b : Nat), e = .returned (.tuple #[.agg #[.int .i64 4, .int .i64 0, .string s, .slice A 0 a, .slice B 0 b], .int .i64 err]) ∧ Below w.heap.size w w' ∧
      Lies w' (· < w'.heap.size) (strV s) [.int .i64 4, .int .i64 0, .string s, .slice A 0 a, .slice B 0 b] := by
  refine h.mono fun e w' hp => ?_
  obtain ⟨hb, ds, rfl, hl⟩ := hp
  have hl2 := hl
  unfold strV at hl2
  obtain ⟨A, a, B, b, xs, rfl, _⟩ := lies_open hl2
  exact ⟨A, a, B, b, rfl, hb, hl.move fun b hb => ⟨hb.2, rfl⟩⟩
theorem prefix_any (s t : ByteArray) (w : World) (hs : s.size ≤ 1048576) (ht : t.size ≤ 1048576) (hp : s.size ≤ t.size ∧ t.extract 0 s.size = s) : Calls Tryz.prog 66 #[.string s, .string t] w fun e w' => e = .returned (.bool true) ∧ w' = w := by
  obtain ⟨h1, h2⟩ := hp
  have f1 : (s.toList == s.toList) = true := by simp
  have f2 : (s.size : Int) ≤ (t.size : Int) := by omega
  go_enter Tryz.func66, Tryz.ntmps66
  go_wp2_with fail
  go_ret
  exact ⟨rfl, rfl⟩
end Go.Proofs.YtjafmdngbphacaaGreatDoor
