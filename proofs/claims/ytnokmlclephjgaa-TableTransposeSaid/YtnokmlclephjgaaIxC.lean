/- table.ascending's comparison: a closure over the keys. -/
import Derived.Test.YtnokmlclephjgaaIxS
import Derived.Test.YtnokmlclephjgaaDr
import Derived.StillTailTactics
import Derived.Deep.QuietTactic
set_option linter.unusedVariables false
set_option linter.unusedSimpArgs false
set_option linter.unusedSectionVars false
namespace Go.Proofs.Ytnokmlclephjgaa.Ix
open Go.Shelf Go.RowKit Go.Lib Go.Sort Go.Proofs.Ytnokmlclephjgaa
theorem srt1_grown {α : Type} [Inhabited α] {enc : α → Value} {w : World} {g off n : Nat} {d : Array α} {os : Array Obj} : w.grownBy (sortWorld enc w g off n d os) (some g) := by
  unfold sortWorld
  refine ⟨rfl, rfl, rfl, by simp, fun k hk hne => ?_⟩
  rw [heap_grow_old _ _ (by simpa using hk)]
  have : g ≠ k := fun e => hne (by rw [e])
  simp [putRow, mapBlock, Sort.ahead, Array.getElem?_modify, this]
theorem key_get {K : List V} (x : Ik K) : K[x.1]? = some x.key := List.getElem?_eq_getElem x.2
theorem key_ok {K : List V} (h : K.all valid = true) (x : Ik K) : valid x.key = true := List.all_eq_true.1 h _ (List.mem_of_getElem? (key_get x))
set_option maxHeartbeats 4000000 in
set_option maxRecDepth 100000 in
theorem asc_cmp {K : List V} [Inhabited (Ik K)] {gk blk size c : Nat} {B : Option Addr} {xs : List Value} {S : Nat → Prop} {w : World} (hbox : Box w gk 24 #[.slice B K.length c]) (hgk : gk ≠ blk) (hR : Rs w S B xs) (hL : LiesL w S K xs) (hS : ∀ b, S b → b < w.heap.size ∧ b ≠ blk) (hval : K.all valid = true) :
    CmpLays1 Try.prog 42 #[.pointer (some ⟨gk, 0, none⟩)] (Ik.enc (K := K)) (mcI (K := K)) blk 0 size w := by
  intro m os dk hdk x y
  have hgr : w.grownBy (sortWorld Ik.enc w blk 0 m dk os) (some blk) := srt1_grown
  generalize sortWorld Ik.enc w blk 0 m dk os = X at hgr ⊢
  have hmv : ∀ b, S b → S b ∧ X.heap[b]? = w.heap[b]? := fun b hb => ⟨hb, hgr.block b (hS b hb).1 (by simp; exact (hS b hb).2)⟩
  have hSX : ∀ b, S b → b < X.heap.size := fun b hb => Nat.lt_of_lt_of_le (hS b hb).1 hgr.size
  have hbX : Box X gk 24 #[.slice B K.length c] := hbox.grown hgr (by simp; exact hgk)
  have hRX := hR.move hmv
  have hLX := hL.move hmv
  have hx1 : (0 : Int) ≤ (x.1 : Int) := by omega
  have hx2 : (x.1 : Int) < (K.length : Int) := by have := x.2; omega
  have hy1 : (0 : Int) ≤ (y.1 : Int) := by omega
  have hy2 : (y.1 : Int) < (K.length : Int) := by have := y.2; omega
  obtain ⟨b, o, v0, v1, v2, v3, v4, rfl, hb, hlx, hcx⟩ := elem_cells hRX hLX (key_get x)
  obtain ⟨b2, o2, u0, u1, u2, u3, u4, hBe, hb2, hly, hcy⟩ := elem_cells hRX hLX (key_get y)
  cases hBe
  have HC := Lib.hid (Dr.cmp_any x.key y.key _ _ X.drew (hlx.move fun b hb => ⟨hSX b hb, rfl⟩) (hly.move fun b hb => ⟨hSX b hb, rfl⟩))
  have HV : Hid (Dr.cmpV x.key y.key = mcI x y) := Lib.hid (by unfold Dr.cmpV; rw [if_pos (key_ok hval x), if_pos (key_ok hval y)]; rfl)
  rw [HV.out] at HC
  generalize mcI x y = r at HC ⊢
  obtain ⟨p0, p1, p2, p3, p4⟩ := hcx
  obtain ⟨q0, q1, q2, q3, q4⟩ := hcy
  have k0 := hbX.cell (i := 0) (u := .slice (some ⟨b, o, none⟩) K.length c) rfl
  have e : (#[Ik.enc x, Ik.enc y] ++ #[Value.pointer (some ⟨gk, 0, none⟩)]) = #[.int .i64 (x.1 : Int), .int .i64 (y.1 : Int), .pointer (some ⟨gk, 0, none⟩)] := rfl
  rw [e]
  clear e hlx hly hLX hRX hmv hSX hbox hR hL hgr hbX HV hS
  generalize x.val = i at hx1 hx2 p0 p1 p2 p3 p4 ⊢
  generalize y.val = j at hy1 hy2 q0 q1 q2 q3 q4 ⊢
  generalize K.length = n at hx2 hy2 k0
  go_enter Try.func42, Try.ntmps42
  go_wp2_with fail
  go_still_tail 8, (by kernel_rfl)
  change wpList _ _ _ _ _ X.drew
  go_wp2_with fail
  refine HC.out.mono ?_
  rintro e w' ⟨rfl, hb'⟩
  go_wp2_with fail
  go_ret
  exact ⟨rfl, Dr.below_grow (Dr.chain (Dr.Below.refl _ _).drew hb')⟩
end Go.Proofs.Ytnokmlclephjgaa.Ix
