/- slices.Values at values: the iterator's contract. slices.Grow onto nil. -/
import Derived.RangeFuncNested
import Derived.RangeFuncBound
import Derived.RangeFuncCalls
import Derived.RangeFuncLeaves
import Derived.RangeFuncBox
import Derived.Shelf.Abstract
import Derived.Shelf.RegionOpen
import Derived.WalkKit
import Derived.OwnWalkIn
import Derived.TacticsInMore
import Derived.LoopNIn
import Derived.LoopIn
import Derived.Lib.Hide
import Derived.Test.YtgdnkankleoaoaaGreatDoorRows
import Derived.Test.YtgdnkankleoaoaaGreatDoorA03
import Derived.Test.YtgdnkankleoaoaaGreatDoorA01
import Derived.Test.YtgdnkankleoaoaaGreatDoorA06
import Derived.Lib.AppendZerosOnto
import Derived.WalkSpells
import Derived.WalkLawsBesides
import Derived.Outline
set_option linter.unusedVariables false
set_option linter.unusedSimpArgs false
namespace Go.Proofs.YtgdnkankleoaoaaGreatDoor
open Go.RowKit Go.Shelf
attribute [local go_sem] Oper.semAt_some
/-- Five cells that can hold a value. -/
structure Fv where
  k : Int
  n : Int
  s : ByteArray
  A : Option Addr
  la : Nat
  a : Nat
  C : Option Addr
  lc : Nat
  c : Nat
def Fv.cs (x : Fv) : List Value := [.int .i64 x.k, .int .i64 x.n, .string x.s, .slice x.A x.la x.a, .slice x.C x.lc x.c]
instance : Inhabited Fv := ⟨⟨0, 0, ⟨#[]⟩, none, 0, 0, none, 0, 0⟩⟩
theorem Fv.len (x : Fv) : x.cs.length = 5 := rfl
theorem Fv.one (x : Fv) : ∀ u ∈ x.cs, u.oneCell' = true := by
  intro u hu
  simp only [Fv.cs, List.mem_cons, List.not_mem_nil, or_false] at hu
  rcases hu with rfl | rfl | rfl | rfl | rfl <;> rfl
/-- The five cells from o on in block b hold x. -/
def FiveAt (W : World) (b o : Nat) (x : Fv) : Prop :=
  W.cell? ⟨b, o, none⟩ = some (.int .i64 x.k) ∧ W.cell? ⟨b, o + 1, none⟩ = some (.int .i64 x.n) ∧ W.cell? ⟨b, o + 2, none⟩ = some (.string x.s) ∧ W.cell? ⟨b, o + 3, none⟩ = some (.slice x.A x.la x.a) ∧ W.cell? ⟨b, o + 4, none⟩ = some (.slice x.C x.lc x.c)
theorem FiveAt.below {W W' : World} {b o B : Nat} {x : Fv} (h : FiveAt W b o x) (hb : Below B W W') (hlt : b < B) : FiveAt W' b o x :=
  ⟨(hb.cell (p := ⟨b, o, none⟩) hlt).trans h.1, (hb.cell (p := ⟨b, o + 1, none⟩) hlt).trans h.2.1, (hb.cell (p := ⟨b, o + 2, none⟩) hlt).trans h.2.2.1, (hb.cell (p := ⟨b, o + 3, none⟩) hlt).trans h.2.2.2.1, (hb.cell (p := ⟨b, o + 4, none⟩) hlt).trans h.2.2.2.2⟩
set_option maxRecDepth 100000 in
set_option maxHeartbeats 2000000 in
theorem values1_any (F : Fence) (n : Nat) (h7 : F.fn 290) (hro : F.round = none) (hn : 1 ≤ n) (l Bs n₀ b off len cap : Nat) (zs : List Fv) (hlen : zs.length = len) (hreach : len ≤ 1000000) (hb : b < n₀) (J Jx : List Fv → World → Prop)
    (hJa : ∀ pre W o, J pre W → J pre (W.alloc o))
    (hY : ∀ pre x W, J pre W → pre.length < len → YieldAt F (n - 1) Tryz.prog l #[.agg #[.int .i64 x.k, .int .i64 x.n, .string x.s, .slice x.A x.la x.a, .slice x.C x.lc x.c]] W fun e W' =>
      (e = .returned (.bool true) ∧ J (pre ++ [x]) W' ∧ Below n₀ W W') ∨ (e = .returned (.bool false) ∧ Jx (pre ++ [x]) W'))
    (W : World) (hn0 : n₀ ≤ W.heap.size) (hBs : W.cell? ⟨Bs, 0, none⟩ = some (.slice (some ⟨b, off, none⟩) len cap)) (hc : ∀ j x, zs[j]? = some x → FiveAt W b (off + j * 5) x) (h0 : J [] W) :
    CallsIn F n Tryz.prog 290 #[.func (.yield l) #[] #[], .pointer (some ⟨Bs, 0, none⟩)] W fun e W' => (∃ v, e = .returned v) ∧
      ((∃ ys, ys = zs ∧ J ys W') ∨ (∃ pre, pre <+: zs ∧ Jx pre W')) := by
  have HC := Lib.hid hc
  have HJ := Lib.hid hJa
  clear hc hJa
  refine callsIn_of_wp Tryz.func290 rfl h7 ?_ hro
  simp only [Tryz.ntmps290, List.size_toArray, List.length_cons, List.length_nil, Nat.reduceAdd, Nat.reduceSub, Array.replicate_succ, Array.replicate_zero, List.push_toArray, List.append_toArray, List.nil_append, List.cons_append]
  gi_wp2
  gi_loopw [7] (fun i wr => ∃ k : Nat, k ≤ len ∧ i = .int .i64 k ∧ J (zs.take k) wr ∧ Below n₀ W wr)
    (fun i _ => len - (intOf i).toNat)
  case atStart => exact ⟨0, Nat.zero_le _, rfl, h0, Below.refl _ _⟩
  case round =>
    obtain ⟨k, hk, rfl, hJs, hnx⟩ := hrel
    by_cases hlt : k < len
    · obtain ⟨x, hx⟩ : ∃ x, zs[k]? = some x := ⟨_, List.getElem?_eq_getElem (by omega)⟩
      obtain ⟨c0, c1, c2, c3, c4⟩ := (HC.out k x hx).below hnx hb
      have htk : zs.take (k + 1) = zs.take k ++ [x] := by rw [List.take_add_one, hx]; rfl
      have HTK := Lib.hid htk
      have hsz : n₀ ≤ wr.heap.size := Nat.le_trans hn0 hnx.size
      obtain ⟨xk, xn, xs, xA, xla, xa, xC, xlc, xc⟩ := x
      simp only at c0 c1 c2 c3 c4
      obtain ⟨fn, tmps, assign, body, hy, hR⟩ := hY _ ⟨xk, xn, xs, xA, xla, xa, xC, xlc, xc⟩ (wr.alloc (.cells #[.int .i64 xk, .int .i64 xn, .string xs, .slice xA xla xa, .slice xC xlc xc] 25)) (HJ.out _ _ _ hJs) (by rw [List.length_take]; omega)
      dsimp only at hy
      have HX := Lib.hid hx
      clear htk hx
      have hi1 : (k : Int) < (len : Int) := by omega
      gi_wp2
      refine hR.mono ?_
      rintro e W3 (⟨rfl, hJ3, hk3⟩ | ⟨rfl, hJx3⟩)
      · gi_wp2
        go_roundw
        case rel => exact ⟨k + 1, by omega, by simp, by rw [HTK.out]; exact hJ3, hnx.trans (((Below.refl n₀ wr).alloc hsz _).trans hk3)⟩
        case measure => simp [intOf]; omega
      · gi_wp2
        refine bodyPost_ret (results_none rfl _ _ _) rfl ?_
        exact ⟨⟨_, rfl⟩, .inr ⟨_, by rw [← HTK.out]; exact List.take_prefix _ _, hJx3⟩⟩
    · obtain rfl : k = len := by omega
      gi_wp2
      go_end0
      exact ⟨⟨_, rfl⟩, .inl ⟨_, by rw [List.take_of_length_le (by omega)], hJs⟩⟩
end Go.Proofs.YtgdnkankleoaoaaGreatDoor
namespace Go.Proofs.YtgdnkankleoaoaaGreatDoor
open Go.RowKit
/-- The zero value. -/
def zeroVal : Value := .agg #[.int .i64 0, .int .i64 0, .string ⟨#[]⟩, .slice none 0 0, .slice none 0 0]
theorem inf_value : (Tryz.prog.info? 25).map (fun i => (i.zero, i.size, i.bytes)) = some (some zeroVal, 5, 80) := by kernel_rfl
theorem inf_string : (Tryz.prog.info? 9).map (fun i => (i.zero, i.size, i.bytes)) = some (some (.string ⟨#[]⟩), 1, 16) := by kernel_rfl
def GrowPost (w : World) (e : Ending) (w' : World) : Prop := Below w.heap.size w w' ∧ ∃ v, e = .returned v ∧ w'.ownsRow w.heap.size 25 5 v 0 []
set_option maxHeartbeats 2000000 in
set_option maxRecDepth 100000 in
theorem grow_nil (n : Nat) (w : World) (hn : n ≤ 1000000) : Calls Tryz.prog 232 #[.slice none 0 0, .int .i64 n] w (GrowPost w) := by
  obtain ⟨i0, hi, hz0, hz1, hz2⟩ := info_parts inf_value
  by_cases hz : n = 0
  · subst hz
    go_enter Tryz.func232, Tryz.ntmps232
    go_wp2_with fail
    go_ret
    exact ⟨Below.refl _ _, _, rfl, World.ownsRow_nil _ _ _ _⟩
  · have hz' : 0 < n := by omega
    have hold : (Builtin.firstCells i0.size 0 (.slice none 0 0)).run Tryz.prog w.drew = .ok ([] : List Value).toArray w.drew := run_firstCells_none w.drew i0.size 0 0 0
    have hrz : ∀ ty, (Builtin.append_ #[23, 3] ty #[.slice none 0 0, .int .i64 (n : Int)]).run Tryz.prog w =
        .ok (.slice (some ⟨w.heap.size, 0, none⟩) (0 + n) (grownCap w (0 + n) 0 25)) (w.drew.alloc (.cells (([] : List Value).toArray ++ Builtin.zeroCells zeroVal.cells n ++ Builtin.zeroCells zeroVal.cells (grownCap w (0 + n) 0 25 - (0 + n))) 25)) := fun ty => by
      exact Lib.run_append_grow_zeros w 23 3 ty 25 i0 zeroVal .i64 .i64 Tryz.underlying23 Tryz.underlying3 hi hz0 none 0 0 ([] : List Value) hold n hz' (by rw [hz1]; omega) (by omega) (by omega)
        (by rw [hz2]; omega) (growslice_fits (by omega) (by rw [hz2]; omega))
    have hGn : 0 + n ≤ grownCap w (0 + n) 0 25 := grownCap_ge w _ _ _
    have hG63 : grownCap w (0 + n) 0 25 ≤ maxLen := grownCap_le_maxLen w (0 + n) 0 25 (by unfold maxLen; omega)
    generalize hG : grownCap w (0 + n) 0 25 = G at hrz hGn hG63
    have hG63' : G ≤ 9223372036854775807 := by unfold maxLen at hG63; omega
    have HM := Lib.hid hG63
    clear hold hG hG63
    obtain ⟨C, hC⟩ : ∃ C : Array Value, C = ([] : List Value).toArray ++ Builtin.zeroCells zeroVal.cells n ++ Builtin.zeroCells zeroVal.cells (G - (0 + n)) := ⟨_, rfl⟩
    have hsz : Hid (C.size = G * 5) := Lib.hid (by
      rw [hC, Array.size_append, Array.size_append, size_zeroCells, size_zeroCells, show zeroVal.cells.size = 5 from rfl]
      simp
      omega)
    rw [← hC] at hrz
    have HRZ := Lib.hid hrz
    clear hrz hC
    go_enter Tryz.func232, Tryz.ntmps232
    go_wp2_with (at_builtin; refine Lib.wpList_append_run _ rfl _ _ _ _ rfl _ _ rfl rfl _ _ (HRZ.out _) ?_)
    go_ret
    refine ⟨((Below.refl _ _).drew).alloc (Nat.le_refl _) _, _, rfl, ?_⟩
    exact World.ownsRow_made (base := w.heap.size) (e := 25) (size := 5) w.drew C G (Nat.le_refl _) HM.out hsz.out
end Go.Proofs.YtgdnkankleoaoaaGreatDoor
