/- text.Implode at an array of numbers. -/
import Derived.Test.YtfmpdcmedaiooaaGreatDoorU39
import Derived.Test.YtfmpdcmedaiooaaGreatDoorU44
import Derived.Test.YtfmpdcmedaiooaaGreatDoorU45
import Derived.Laws.MakeOwn
set_option linter.unusedVariables false
set_option linter.unusedSimpArgs false
namespace Go.Proofs.YtfmpdcmedaiooaaGreatDoor
open Go.RowKit Go.Shelf Go.Sort
theorem inf_intH : (Tryz.prog.info? 3).map (fun i => (i.zero, i.size, i.bytes)) = some (some (.int .i64 0), 1, 8) := by kernel_rfl
set_option maxRecDepth 100000 in
theorem made_intsH (n : Nat) (hn : n ≤ 1000000) : ∀ W, (Instr.makeSlice 47 (.int .i64 (n : Int)) (.int .i64 (n : Int))).run Tryz.prog W = .ok (.slice (some ⟨W.heap.size, 0, none⟩) n n) (W.alloc (.cells (zvs (List.replicate n 0)).toArray 3)) := by
  obtain ⟨i, hi, hz, hs, hb⟩ := info_parts inf_intH
  intro W
  have := run_make W 47 3 i (.int .i64 0) Tryz.underlying47 hi hz .i64 .i64 n n (by omega) (by omega) (by rw [hb]; omega) (by omega)
  rw [hs] at this
  have hC : madeCells (Value.int .i64 0).cells (n * 1) = (zvs (List.replicate n 0)).toArray := by
    refine Array.ext (by simp [madeCells, zvs]) fun j h1 h2 => ?_
    have e : j % 1 = 0 := Nat.mod_one j
    simp [madeCells, zvs, Value.cells, e]
  simp only [Int.toNat_natCast] at this
  rw [hC] at this
  exact this
/-- A number cut to what every int holds. -/
def clampR (z : Int) : Int := min (max z (-1)) 1114112
theorem clamp_cp (z : Int) : cp (clampR z) = cp z ∧ (cp z = true → clampR z = z) := by
  unfold cp clampR
  refine ⟨?_, fun h => ?_⟩
  · rw [decide_eq_decide]; omega
  · simp at h; omega
theorem clamp_all (ps : List Int) : allCp (ps.map clampR) = allCp ps ∧ (allCp ps = true → ps.map clampR = ps) := by
  induction ps with
  | nil => exact ⟨rfl, fun _ => rfl⟩
  | cons z r ih =>
    unfold allCp at ih ⊢
    rw [List.map_cons, List.all_cons, List.all_cons, (clamp_cp z).1, ih.1]
    refine ⟨rfl, fun h => ?_⟩
    rw [Bool.and_eq_true] at h
    rw [(clamp_cp z).2 h.1, ih.2 h.2]
/-- Between two rounds; w0: the world where the row is made. -/
structure ImSt (n : Nat) (ps : List Int) (w0 w : World) (i : Nat) (ys : List Int) : Prop where
  own : w.ownsRow w0.heap.size 3 1 (.slice (some ⟨w0.heap.size, 0, none⟩) n n) n (zvs ys)
  len : ys.length = n
  head : ys.take i = (ps.take i).map clampR
  below : Below w0.heap.size w0 w
theorem ImSt.next {n i : Nat} {ps ys : List Int} {w0 w w' : World} (h : ImSt n ps w0 w i ys) (hb : Below w.heap.size w w') : ImSt n ps w0 w' i ys :=
  ⟨own_belowV h.own hb, h.len, h.head, chain h.below hb⟩
theorem ImSt.put {n i : Nat} {ps ys : List Int} {w0 w : World} {z : Int} (h : ImSt n ps w0 w i ys) (hs : ps[i]? = some z) (hi : i < n) :
    ImSt n ps w0 (w.setCell ⟨w0.heap.size, i, none⟩ (.int .i64 (clampR z))) (i + 1) (ys.set i (clampR z)) := by
  have hl := h.len
  refine ⟨?_, by rw [List.length_set]; exact hl, ?_, h.below.setCell (Nat.le_refl _) _⟩
  · have := own_set h.own (i := i) (by omega) (.int .i64 (clampR z))
    unfold zvs at this ⊢
    rw [List.map_set]
    exact this
  · rw [List.take_add_one, List.getElem?_set_self (by omega), List.take_set_of_le (Nat.le_refl _), h.head, List.take_add_one, hs, List.map_append]
    rfl
theorem ImSt.free {n i : Nat} {ps ys : List Int} {w0 w : World} (h : ImSt n ps w0 w i ys) (k : Nat) : w.frozen? ⟨w0.heap.size, k, none⟩ = false := by
  rcases h.own.2 with ⟨h0, _⟩ | ⟨g', cap', cur, hv, hbg, hgg, _⟩
  · cases h0
  · cases hv
    exact (show Box w w0.heap.size _ cur from hgg).free k
theorem ImSt.there {n i : Nat} {ps ys : List Int} {w0 w : World} (h : ImSt n ps w0 w i ys) (k : Nat) (hk : k < n) : ∃ u, w.cell? ⟨w0.heap.size, k, none⟩ = some u := by
  have h1 := h.own.1
  rw [h.own.cellAt k (by omega)]
  exact ⟨_, List.getElem?_eq_getElem (by omega)⟩
theorem ImSt.start (n : Nat) (ps : List Int) (w0 : World) (hn : n ≤ 1000000) : ImSt n ps w0 (w0.alloc (.cells (zvs (List.replicate n 0)).toArray 3)) 0 (List.replicate n 0) := by
  refine ⟨⟨by simp [zvs], .inr ⟨w0.heap.size, n, (zvs (List.replicate n 0)).toArray, rfl, Nat.le_refl _, Box.laid w0 _ _, Nat.le_refl _, by unfold maxLen; omega, by simp [zvs], ?_⟩⟩, List.length_replicate, rfl, below1 _ _⟩
  rw [List.toList_toArray, List.take_of_length_le (by simp [zvs])]
/-- The cells of a number among numbers. -/
theorem elem_cellsN {w : World} {S T : Nat → Prop} {A : Option Addr} {ps : List Int} {xs : List Value} (hA : Rs w S A xs) (hL : LiesL w T (ps.map numV) xs) {i : Nat} {z : Int} (hs : ps[i]? = some z) :
    ∃ (b o : Nat) (A' C' : Option Addr) (a' c' : Nat), A = some ⟨b, o, none⟩ ∧ S b ∧ w.cell? ⟨b, o + i * 5, none⟩ = some (.int .i64 3) ∧ w.cell? ⟨b, o + i * 5 + 1, none⟩ = some (.int .i64 z) ∧ w.cell? ⟨b, o + i * 5 + 2, none⟩ = some (.string ⟨#[]⟩) ∧
      w.cell? ⟨b, o + i * 5 + 3, none⟩ = some (.slice A' 0 a') ∧ w.cell? ⟨b, o + i * 5 + 4, none⟩ = some (.slice C' 0 c') := by
  obtain ⟨cs, hc, hat⟩ := hL.at_ (i := i) (e := numV z) (by rw [List.getElem?_map, hs]; rfl)
  unfold numV at hc
  obtain ⟨A3, a3, B3, b3, ys, rfl, _⟩ := lies_open hc
  obtain ⟨b, o, rfl, hb, h0⟩ := hA.at_ (hat 0 (by decide))
  have k : ∀ j u, xs[i * 5 + j]? = some u → w.cell? ⟨b, o + (i * 5 + j), none⟩ = some u := fun j u hj => by
    obtain ⟨b2, o2, e, _, hc2⟩ := hA.at_ hj
    injection e with e
    injection e with e1 e2
    subst e1 e2
    exact hc2
  refine ⟨b, o, A3, B3, a3, b3, rfl, hb, ?_, ?_, ?_, ?_, ?_⟩
  · exact k 0 _ (hat 0 (by decide))
  · rw [Nat.add_assoc]; exact k 1 _ (hat 1 (by decide))
  · rw [Nat.add_assoc]; exact k 2 _ (hat 2 (by decide))
  · rw [Nat.add_assoc]; exact k 3 _ (hat 3 (by decide))
  · rw [Nat.add_assoc]; exact k 4 _ (hat 4 (by decide))
theorem all_nums {w : World} {S : Nat → Prop} {ps : List Int} {l : List (V × Fv)} (h1 : l.map Prod.fst = ps.map numV) (h2 : ∀ p ∈ l, Lies w S p.1 p.2.cs) : ((l.map Prod.snd).any fun x => nonumK x.k) = false := by
  rw [List.any_eq_false]
  intro x hx
  obtain ⟨p, hp, rfl⟩ := List.mem_map.1 hx
  have hm : p.1 ∈ ps.map numV := by rw [← h1]; exact List.mem_map.2 ⟨p, hp, rfl⟩
  obtain ⟨z, _, hz⟩ := List.mem_map.1 hm
  have hl := h2 p hp
  rw [← hz] at hl
  unfold numV at hl
  obtain ⟨A, a, B, b, xs, e, _⟩ := lies_open hl
  unfold Fv.cs at e
  injection e with e1 _
  injection e1 with _ e2
  rw [e2]
  decide
/-- What Implode gives for numbers. -/
def imR (ps : List Int) : V × Int := if allCp ps = true then (strR ⟨(encs (ps.map Int.toNat)).toArray⟩, strE ⟨(encs (ps.map Int.toNat)).toArray⟩) else (vnull, 3)
end Go.Proofs.YtfmpdcmedaiooaaGreatDoor
