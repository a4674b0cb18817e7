/- arith.subtract on any two valid values, and Binary at "-". arith.stringArray. -/
import Derived.Test.YtjafmdngbphacaaGreatDoorC33
import Derived.Test.YtjafmdngbphacaaGreatDoorC25
import Derived.Test.YtjafmdngbphacaaGreatDoorC07
import Derived.Lib.AppendZerosOnto
import Derived.WalkSpells
import Derived.WalkLawsBesides
import Derived.Outline
import Derived.Lib.SliceRun
import Derived.Test.YtjafmdngbphacaaGreatDoorC28
import Derived.Deep.RegionHeld3
import Derived.Test.YtjafmdngbphacaaGreatDoorC24
import Derived.Laws.MakeOwn
set_option linter.unusedVariables false
set_option linter.unusedSimpArgs false
namespace Go.Proofs.YtjafmdngbphacaaGreatDoor
open Go.RowKit Go.Shelf Go.Sort
theorem liesL_of {w : World} {S : Nat → Prop} : ∀ (l : List (V × Fv)), (∀ p ∈ l, Lies w S p.1 p.2.cs) → LiesL w S (l.map Prod.fst) ((l.map Prod.snd).flatMap Fv.cs)
  | [], _ => by rw [List.map_nil, LiesL]; rfl
  | p :: r, h => by
    rw [List.map_cons, LiesL]
    exact ⟨p.2.cs, _, rfl, h p (by simp), liesL_of r fun q hq => h q (by simp [hq])⟩
end Go.Proofs.YtjafmdngbphacaaGreatDoor
namespace Go.Proofs.YtjafmdngbphacaaGreatDoor
open Go.RowKit Go.Shelf Go.Sort
def zl : Nat → List Value
  | 0 => []
  | n + 1 => [.int .i64 0, .int .i64 0, .string ⟨#[]⟩, .slice none 0 0, .slice none 0 0] ++ zl n
theorem zl_len : ∀ n, (zl n).length = n * 5
  | 0 => rfl
  | n + 1 => by rw [zl, List.length_append, zl_len n]; simp; omega
theorem zl_get : ∀ (n j : Nat), j < n * 5 → (zl n)[j]? = ([Value.int .i64 0, .int .i64 0, .string ⟨#[]⟩, .slice none 0 0, .slice none 0 0] : List Value)[j % 5]?
  | 0, j, h => by omega
  | n + 1, j, h => by
    rw [zl]
    by_cases hj : j < 5
    · rw [List.getElem?_append_left (by simpa using hj), Nat.mod_eq_of_lt hj]
    · rw [List.getElem?_append_right (by simp; omega), zl_get n _ (by simp; omega)]
      congr 1
      simp
      omega
set_option maxRecDepth 100000 in
theorem made_nulls (n : Nat) (hn : n ≤ 1000000) : ∀ W, (Instr.makeSlice 23 (.int .i64 (n : Int)) (.int .i64 (n : Int))).run Tryz.prog W = .ok (.slice (some ⟨W.heap.size, 0, none⟩) n n) (W.alloc (.cells (zl n).toArray 25)) := by
  obtain ⟨i, hi, hz, hs, hb⟩ := info_parts inf_value
  intro W
  have := run_make W 23 25 i zeroVal Tryz.underlying23 hi hz .i64 .i64 n n (by omega) (by omega) (by rw [hb]; omega) (by omega)
  rw [hs] at this
  have hC : madeCells zeroVal.cells (n * 5) = (zl n).toArray := by
    refine Array.ext (by simp [madeCells, zl_len]) fun j h1 h2 => ?_
    have hj : j < n * 5 := by simpa [madeCells] using h1
    have hm : j % 5 < 5 := Nat.mod_lt _ (by omega)
    have hz2 := zl_get n j hj
    have : (madeCells zeroVal.cells (n * 5))[j] = ([Value.int .i64 0, .int .i64 0, .string ⟨#[]⟩, .slice none 0 0, .slice none 0 0] : List Value)[j % 5] := by
      simp only [madeCells, zeroVal, Value.cells]
      simp
      rw [List.getElem?_eq_getElem hm, Option.getD_some]
    rw [this]
    rw [List.getElem?_eq_getElem (by rw [zl_len]; exact hj), List.getElem?_eq_getElem hm] at hz2
    injection hz2 with hz2
    rw [← hz2]
    simp
  simp only [Int.toNat_natCast] at this
  rw [hC] at this
  exact this
/-- The cells of a string as a value. -/
def strF (s : ByteArray) : Fv := ⟨4, 0, s, none, 0, 0, none, 0, 0⟩
theorem zl_flat : ∀ n, zl n = (List.replicate n fvZero).flatMap Fv.cs
  | 0 => rfl
  | n + 1 => by
    rw [List.replicate_succ, List.flatMap_cons, ← zl_flat n]
    rfl
/-- Between two rounds. -/
structure SaSt (g n : Nat) (ps : List ByteArray) (w0 w : World) (i : Nat) (ys : List Fv) : Prop where
  own : w.ownsRow w0.heap.size 25 5 (.slice (some ⟨g, 0, none⟩) n n) n (ys.flatMap Fv.cs)
  len : ys.length = n
  head : ys.take i = (ps.take i).map strF
  res : Box w w0.heap.size 25 #[.int .i64 0, .int .i64 0, .string ⟨#[]⟩, .slice none 0 0, .slice none 0 0]
  ne : w0.heap.size < g
  below : Below w0.heap.size w0 w
theorem SaSt.put {g n i : Nat} {ps : List ByteArray} {w0 w : World} {ys : List Fv} {s : ByteArray} (h : SaSt g n ps w0 w i ys) (hs : ps[i]? = some s) (hi : i < n) :
    SaSt g n ps w0 (((((w.setCell ⟨g, i * 5, none⟩ (.int .i64 4)).setCell ⟨g, i * 5 + 1, none⟩ (.int .i64 0)).setCell ⟨g, i * 5 + 2, none⟩ (.string s)).setCell ⟨g, i * 5 + 3, none⟩ (.slice none 0 0)).setCell ⟨g, i * 5 + 4, none⟩ (.slice none 0 0)) (i + 1) (ys.set i (strF s)) := by
  have hl := h.len
  have hg : w0.heap.size ≤ g := Nat.le_of_lt h.ne
  have hne : w0.heap.size ≠ g := Nat.ne_of_lt h.ne
  refine ⟨?_, by rw [List.length_set]; exact hl, ?_, ((((h.res.far hne _).far hne _).far hne _).far hne _).far hne _, h.ne, ((((h.below.setCell hg _).setCell hg _).setCell hg _).setCell hg _).setCell hg _⟩
  · rw [← flat_set (strF s) ys i (by omega)]
    exact own_set (own_set (own_set (own_set (own_set h.own (i := i * 5) (by omega) _) (i := i * 5 + 1) (by omega) _) (i := i * 5 + 2) (by omega) _) (i := i * 5 + 3) (by omega) _) (i := i * 5 + 4) (by omega) _
  · rw [List.take_add_one, List.getElem?_set_self (by omega), List.take_set_of_le (Nat.le_refl _), h.head, List.take_add_one, hs, List.map_append]
    rfl
theorem SaSt.free {g n i : Nat} {ps : List ByteArray} {w0 w : World} {ys : List Fv} (h : SaSt g n ps w0 w i ys) (k : Nat) : w.frozen? ⟨g, k, none⟩ = false := by
  rcases h.own.2 with ⟨h0, _⟩ | ⟨g', cap', cur, hv, hbg, hgg, _⟩
  · cases h0
  · cases hv
    exact (show Box w g _ cur from hgg).free k
theorem SaSt.there {g n i : Nat} {ps : List ByteArray} {w0 w : World} {ys : List Fv} (h : SaSt g n ps w0 w i ys) (k : Nat) (hk : k < n * 5) : ∃ u, w.cell? ⟨g, k, none⟩ = some u := by
  have h1 := h.own.1
  rw [h.own.cellAt k hk]
  exact ⟨_, List.getElem?_eq_getElem (by omega)⟩
end Go.Proofs.YtjafmdngbphacaaGreatDoor
