/- slices.Values at values: the iterator's contract. -/
import Derived.RangeFuncNested
import Derived.RangeFuncBound
import Derived.RangeFuncCalls
import Derived.RangeFuncLeaves
import Derived.RangeFuncBox
import Derived.Shelf.Abstract
import Derived.Shelf.RegionOpen
import Derived.WalkKit
import Derived.OwnWalkIn
import Derived.TacticsInMore
import Derived.LoopNIn
import Derived.LoopIn
import Derived.Lib.Hide
import Derived.Test.YtjafmdngbphacaaGreatDoorRows
import Derived.Test.YtjafmdngbphacaaGreatDoorM07
import Derived.Test.YtjafmdngbphacaaGreatDoorM01
set_option linter.unusedVariables false
set_option linter.unusedSimpArgs false
namespace Go.Proofs.YtjafmdngbphacaaGreatDoor
open Go.RowKit Go.Shelf
attribute [local go_sem] Oper.semAt_some
/-- Five cells that can hold a value. -/
structure Fv where
  k : Int
  n : Int
  s : ByteArray
  A : Option Addr
  la : Nat
  a : Nat
  C : Option Addr
  lc : Nat
  c : Nat
def Fv.cs (x : Fv) : List Value := [.int .i64 x.k, .int .i64 x.n, .string x.s, .slice x.A x.la x.a, .slice x.C x.lc x.c]
instance : Inhabited Fv := ⟨⟨0, 0, ⟨#[]⟩, none, 0, 0, none, 0, 0⟩⟩
theorem Fv.len (x : Fv) : x.cs.length = 5 := rfl
theorem Fv.one (x : Fv) : ∀ u ∈ x.cs, u.oneCell' = true := by
  intro u hu
  simp only [Fv.cs, List.mem_cons, List.not_mem_nil, or_false] at hu
  rcases hu with rfl | rfl | rfl | rfl | rfl <;> rfl
/-- The five cells from o on in block b hold x. -/
def FiveAt (W : World) (b o : Nat) (x : Fv) : Prop :=
  W.cell? ⟨b, o, none⟩ = some (.int .i64 x.k) ∧ W.cell? ⟨b, o + 1, none⟩ = some (.int .i64 x.n) ∧ W.cell? ⟨b, o + 2, none⟩ = some (.string x.s) ∧ W.cell? ⟨b, o + 3, none⟩ = some (.slice x.A x.la x.a) ∧ W.cell? ⟨b, o + 4, none⟩ = some (.slice x.C x.lc x.c)
theorem FiveAt.below {W W' : World} {b o B : Nat} {x : Fv} (h : FiveAt W b o x) (hb : Below B W W') (hlt : b < B) : FiveAt W' b o x :=
  ⟨(hb.cell (p := ⟨b, o, none⟩) hlt).trans h.1, (hb.cell (p := ⟨b, o + 1, none⟩) hlt).trans h.2.1, (hb.cell (p := ⟨b, o + 2, none⟩) hlt).trans h.2.2.1, (hb.cell (p := ⟨b, o + 3, none⟩) hlt).trans h.2.2.2.1, (hb.cell (p := ⟨b, o + 4, none⟩) hlt).trans h.2.2.2.2⟩
set_option maxRecDepth 100000 in
set_option maxHeartbeats 2000000 in
theorem values1_any (F : Fence) (n : Nat) (h7 : F.fn 216) (hro : F.round = none) (hn : 1 ≤ n) (l Bs n₀ b off len cap : Nat) (zs : List Fv) (hlen : zs.length = len) (hreach : len ≤ 1000000) (hb : b < n₀) (J Jx : List Fv → World → Prop)
    (hJa : ∀ pre W o, J pre W → J pre (W.alloc o))
    (hY : ∀ pre x W, J pre W → pre.length < len → YieldAt F (n - 1) Tryz.prog l #[.agg #[.int .i64 x.k, .int .i64 x.n, .string x.s, .slice x.A x.la x.a, .slice x.C x.lc x.c]] W fun e W' =>
      (e = .returned (.bool true) ∧ J (pre ++ [x]) W' ∧ Below n₀ W W') ∨ (e = .returned (.bool false) ∧ Jx (pre ++ [x]) W'))
    (W : World) (hn0 : n₀ ≤ W.heap.size) (hBs : W.cell? ⟨Bs, 0, none⟩ = some (.slice (some ⟨b, off, none⟩) len cap)) (hc : ∀ j x, zs[j]? = some x → FiveAt W b (off + j * 5) x) (h0 : J [] W) :
    CallsIn F n Tryz.prog 216 #[.func (.yield l) #[] #[], .pointer (some ⟨Bs, 0, none⟩)] W fun e W' => (∃ v, e = .returned v) ∧
      ((∃ ys, ys = zs ∧ J ys W') ∨ (∃ pre, pre <+: zs ∧ Jx pre W')) := by
  have HC := Lib.hid hc
  have HJ := Lib.hid hJa
  clear hc hJa
  refine callsIn_of_wp Tryz.func216 rfl h7 ?_ hro
  simp only [Tryz.ntmps216, List.size_toArray, List.length_cons, List.length_nil, Nat.reduceAdd, Nat.reduceSub, Array.replicate_succ, Array.replicate_zero, List.push_toArray, List.append_toArray, List.nil_append, List.cons_append]
  gi_wp2
  gi_loopw [7] (fun i wr => ∃ k : Nat, k ≤ len ∧ i = .int .i64 k ∧ J (zs.take k) wr ∧ Below n₀ W wr)
    (fun i _ => len - (intOf i).toNat)
  case atStart => exact ⟨0, Nat.zero_le _, rfl, h0, Below.refl _ _⟩
  case round =>
    obtain ⟨k, hk, rfl, hJs, hnx⟩ := hrel
    by_cases hlt : k < len
    · obtain ⟨x, hx⟩ : ∃ x, zs[k]? = some x := ⟨_, List.getElem?_eq_getElem (by omega)⟩
      obtain ⟨c0, c1, c2, c3, c4⟩ := (HC.out k x hx).below hnx hb
      have htk : zs.take (k + 1) = zs.take k ++ [x] := by rw [List.take_add_one, hx]; rfl
      have HTK := Lib.hid htk
      have hsz : n₀ ≤ wr.heap.size := Nat.le_trans hn0 hnx.size
      obtain ⟨xk, xn, xs, xA, xla, xa, xC, xlc, xc⟩ := x
      simp only at c0 c1 c2 c3 c4
      obtain ⟨fn, tmps, assign, body, hy, hR⟩ := hY _ ⟨xk, xn, xs, xA, xla, xa, xC, xlc, xc⟩ (wr.alloc (.cells #[.int .i64 xk, .int .i64 xn, .string xs, .slice xA xla xa, .slice xC xlc xc] 25)) (HJ.out _ _ _ hJs) (by rw [List.length_take]; omega)
      dsimp only at hy
      have HX := Lib.hid hx
      clear htk hx
      have hi1 : (k : Int) < (len : Int) := by omega
      gi_wp2
      refine hR.mono ?_
      rintro e W3 (⟨rfl, hJ3, hk3⟩ | ⟨rfl, hJx3⟩)
      · gi_wp2
        go_roundw
        case rel => exact ⟨k + 1, by omega, by simp, by rw [HTK.out]; exact hJ3, hnx.trans (((Below.refl n₀ wr).alloc hsz _).trans hk3)⟩
        case measure => simp [intOf]; omega
      · gi_wp2
        refine bodyPost_ret (results_none rfl _ _ _) rfl ?_
        exact ⟨⟨_, rfl⟩, .inr ⟨_, by rw [← HTK.out]; exact List.take_prefix _ _, hJx3⟩⟩
    · obtain rfl : k = len := by omega
      gi_wp2
      go_end0
      exact ⟨⟨_, rfl⟩, .inl ⟨_, by rw [List.take_of_length_le (by omega)], hJs⟩⟩
end Go.Proofs.YtjafmdngbphacaaGreatDoor
