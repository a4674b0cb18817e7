/- strings.Split: the library's contract, laid at this program. arith.Split at a separator that is not empty; the laws' sanity check. -/
import Derived.Shelf.LaysM
import Derived.Shelf.Strings.Split
import Derived.Ground.NamesProg
import Derived.Test.YtjafmdngbphacaaGreatDoorM07
import Derived.Test.YtjafmdngbphacaaGreatDoorRows
import Derived.Test.YtjafmdngbphacaaGreatDoorM01
import Derived.Test.YtjafmdngbphacaaGreatDoorM29
import Derived.Test.YtjafmdngbphacaaGreatDoorM09
set_option linter.unusedVariables false
set_option linter.unusedSimpArgs false
namespace Go.Proofs
open Go.Shelf Go.RowKit
def Tryz.spl_ren : Go.Shelf.Ren := ⟨fun | 146 => 91 | 221 => 139 | 268 => 178 | 138 => 179 | 143 => 180 | 195 => 221 | 197 => 222 | 218 => 223 | 219 => 224 | 260 => 259 | 217 => 260 | 225 => 261 | 224 => 262 | 267 => 263 | 266 => 302 | 314 => 303 | n => n, fun | 9 => 9 | 31 => 22 | 3 => 3 | 4 => 4 | 0 => 0 | 105 => 176 | 21 => 21 | 5 => 5 | 46 => 111 | 119 => 230 | 139 => 233 | 138 => 232 | 146 => 200 | 51 => 199 | n => n, fun | 1 => 0 | 3 => 1 | 4 => 2 | n => n⟩
theorem Tryz.spl : Go.Proofs.LaysM.n146 Tryz.prog Tryz.spl_ren := {
  mixed := by kernel_rfl
  f138 := Tryz.func179.trans (congrArg some (by kernel_rfl))
  f143 := Tryz.func180.trans (congrArg some (by kernel_rfl))
  f146 := Tryz.func91.trans (congrArg some (by kernel_rfl))
  f195 := Tryz.func221.trans (congrArg some (by kernel_rfl))
  f197 := Tryz.func222.trans (congrArg some (by kernel_rfl))
  f217 := Tryz.func260.trans (congrArg some (by kernel_rfl))
  f218 := Tryz.func223.trans (congrArg some (by kernel_rfl))
  f219 := Tryz.func224.trans (congrArg some (by kernel_rfl))
  f221 := Tryz.func139.trans (congrArg some (by kernel_rfl))
  f224 := Tryz.func262.trans (congrArg some (by kernel_rfl))
  f225 := Tryz.func261.trans (congrArg some (by kernel_rfl))
  f260 := Tryz.func259.trans (congrArg some (by kernel_rfl))
  f266 := Tryz.func302.trans (congrArg some (by kernel_rfl))
  f267 := Tryz.func263.trans (congrArg some (by kernel_rfl))
  f268 := Tryz.func178.trans (congrArg some (by kernel_rfl))
  f314 := Tryz.func303.trans (congrArg some (by kernel_rfl))
  t0 := Tryz.underlying0
  a0 := Tryz.isAgg0
  z0 := Tryz.sizeOf0
  v0 := Tryz.zeroValue0
  t3 := Tryz.underlying3
  a3 := Tryz.isAgg3
  z3 := Tryz.sizeOf3
  v3 := Tryz.zeroValue3
  t4 := Tryz.underlying4
  a4 := Tryz.isAgg4
  z4 := Tryz.sizeOf4
  v4 := Tryz.zeroValue4
  t5 := Tryz.underlying5
  a5 := Tryz.isAgg5
  z5 := Tryz.sizeOf5
  v5 := Tryz.zeroValue5
  t9 := Tryz.underlying9
  a9 := Tryz.isAgg9
  z9 := Tryz.sizeOf9
  v9 := Tryz.zeroValue9
  t21 := Tryz.underlying21
  a21 := Tryz.isAgg21
  z21 := Tryz.sizeOf21
  v21 := Tryz.zeroValue21
  t31 := Tryz.underlying22
  a31 := Tryz.isAgg22
  z31 := Tryz.sizeOf22
  v31 := Tryz.zeroValue22
  t46 := Tryz.underlying111
  a46 := Tryz.isAgg111
  z46 := Tryz.sizeOf111
  v46 := Tryz.zeroValue111
  t51 := Tryz.underlying199
  a51 := Tryz.isAgg199
  z51 := Tryz.sizeOf199
  v51 := Tryz.zeroValue199
  t105 := Tryz.underlying176
  a105 := Tryz.isAgg176
  z105 := Tryz.sizeOf176
  v105 := Tryz.zeroValue176
  t119 := Tryz.underlying230
  a119 := Tryz.isAgg230
  z119 := Tryz.sizeOf230
  t138 := Tryz.underlying232
  a138 := Tryz.isAgg232
  z138 := Tryz.sizeOf232
  v138 := Tryz.zeroValue232
  t139 := Tryz.underlying233
  a139 := Tryz.isAgg233
  z139 := Tryz.sizeOf233
  v139 := Tryz.zeroValue233
  t146 := Tryz.underlying200
  a146 := Tryz.isAgg200
  z146 := Tryz.sizeOf200
  v146 := Tryz.zeroValue200
  g1 := by kernel_rfl
  g3 := by kernel_rfl
  g4 := by kernel_rfl
  i0 := by kernel_rfl
  i3 := by kernel_rfl
  i4 := by kernel_rfl
  i5 := by kernel_rfl
  i9 := by kernel_rfl
  i21 := by kernel_rfl
  i31 := by kernel_rfl
  i46 := by kernel_rfl
  i51 := by kernel_rfl
  i105 := by kernel_rfl
  i138 := by kernel_rfl
  i139 := by kernel_rfl
  i146 := by kernel_rfl
  m1 := by kernel_rfl
  s1_3 := fun w h => Go.Proofs.cell_of_shapedOpen_int (zero := #[.int .i64 0]) (t := 3) h (of_decide_eq_true (by kernel_rfl)) (by kernel_rfl) rfl (by kernel_rfl) (by kernel_rfl) Tryz.underlying3
  m3 := by kernel_rfl
  m4 := by kernel_rfl }


end Go.Proofs
namespace Go.Proofs.YtjafmdngbphacaaGreatDoor
open Go.RowKit
/-- internal/bytealg.MaxLen holds some int. -/
def MaxL (w : World) : Prop := ∃ m, w.cell? ⟨0, 0, none⟩ = some (.int .i64 m)
theorem MaxL.next {w W : World} (h : MaxL w) (hb : Below w.heap.size w W) : MaxL W := by
  obtain ⟨m, hm⟩ := h
  have hl := World.block_lt_of_cell? w _ hm
  exact ⟨m, (hb.cell (p := ⟨0, 0, none⟩) hl).trans hm⟩
theorem maxl_shaped {w : World} (h : w.ShapedOpen Tryz.prog) : MaxL w := Tryz.spl.s1_3 w h
/-- The pieces of a string between the occurrences of another. -/
def pieces (s sep : ByteArray) : List ByteArray := Lib.splitB sep 0 (Lib.countB s sep) s
theorem pieces_len (s sep : ByteArray) (h : 1 ≤ sep.size) : (pieces s sep).length = Lib.countB s sep + 1 := Lib.splitB_all sep h 0 _ s rfl
theorem split_lib (s sep : ByteArray) (w : World) (hm : MaxL w) (hs : s.size < 4294967281) (h1 : 1 ≤ sep.size) :
    Calls Tryz.prog 91 #[.string s, .string sep] w fun e w' => e = .returned (.slice (some ⟨w.heap.size, 0, none⟩) (pieces s sep).length (pieces s sep).length) ∧ w' = w.alloc (.cells (kv (pieces s sep)).toArray 9) := by
  obtain ⟨m, hm⟩ := hm
  rw [pieces_len s sep h1]
  exact Go.Proofs.Any.strings_Split { Tryz.spl with } Tryz.spl.i9 s sep m w hs hm h1
end Go.Proofs.YtjafmdngbphacaaGreatDoor
namespace Go.Proofs.YtjafmdngbphacaaGreatDoor
open Go.RowKit Go.Sort
/-- What Split hands back. -/
def SplitPost (l : List ByteArray) (ok : Bool) (w : World) (e : Ending) (w' : World) : Prop :=
  Below w.heap.size w w' ∧ ∃ A c, e = .returned (.tuple #[.slice A l.length c, .bool ok]) ∧ Rs w' (fun b => w.heap.size ≤ b ∧ b < w'.heap.size) A (kv l) ∧ (A = none → c = 0) ∧ l.length ≤ c ∧ c ≤ maxLen
theorem rs_newbox {w : World} {t : TypeId} {l : List ByteArray} : Rs (w.alloc (.cells (kv l).toArray t)) (fun b => w.heap.size ≤ b ∧ b < (w.alloc (.cells (kv l).toArray t)).heap.size) (some ⟨w.heap.size, 0, none⟩) (kv l) := by
  intro j u hj
  refine ⟨w.heap.size, 0, rfl, ⟨Nat.le_refl _, by simp⟩, ?_⟩
  rw [Nat.zero_add]
  exact (Box.laid w t (kv l).toArray).cell (by simpa using hj)
theorem splitB_le (s sep : ByteArray) (h : 1 ≤ sep.size) : (pieces s sep).length ≤ s.size + 1 := by
  rw [pieces_len s sep h]
  have := Lib.countB_le sep h s.size s (Nat.le_refl _)
  omega
set_option maxHeartbeats 1000000 in
set_option maxRecDepth 100000 in
theorem split_sep (s sep : ByteArray) (w : World) (hm : MaxL w) (hs : s.size ≤ 1048576) (hsep : sep.size ≤ 1048576) (h1 : 1 ≤ sep.size) (ho : okS s = true) (hp : okS sep = true) (hne : s.size ≠ 0) :
    Calls Tryz.prog 23 #[.string s, .string sep] w (SplitPost (pieces s sep) true w) := by
  have hv := Lib.hid (fun W => val_any s (by unfold maxLen; omega) W)
  have hu := Lib.hid (fun W => val_any sep (by unfold maxLen; omega) W)
  have e1 : (runes s.data.toList).isSome = true := ho
  have e2 : (runes sep.data.toList).isSome = true := hp
  rw [e1] at hv
  rw [e2] at hu
  have hl := Lib.hid (split_lib s sep w hm (by omega) h1)
  have hle := splitB_le s sep h1
  have hE : s.toList.isEmpty = false := by
    cases h : s.toList.isEmpty with
    | false => rfl
    | true =>
      rw [Lib.toList_data] at h
      have h3 : s.data.toList = [] := by simpa using h
      exact absurd (by rw [Lib.size_eq, h3]; rfl) hne
  generalize pieces s sep = l at hl hle ⊢
  clear e1 e2 ho hp
  go_enter Tryz.func23, Tryz.ntmps23
  go_wp2_with (first
    | (go_at_call 90; with_reducible refine (hv.out _).mono ?_; rintro e1 w1 ⟨rfl, rfl⟩)
    | (go_at_call 90; with_reducible refine (hu.out _).mono ?_; rintro e2 w2 ⟨rfl, rfl⟩)
    | (go_at_call 91; refine hl.out.mono ?_; rintro e3 w3 ⟨rfl, rfl⟩))
  go_ret2
  refine ⟨below1 _ _, _, _, rfl, rs_newbox, (fun h => by cases h), Nat.le_refl _, by unfold maxLen; omega⟩
end Go.Proofs.YtjafmdngbphacaaGreatDoor
