/- table.ascending: the indexes of the keys in the stable order of the keys. -/
import Derived.Test.YtnokmlclephjgaaIxC
import Derived.Test.YtnokmlclephjgaaMem
import Derived.Test.YtnokmlclephjgaaCalm
import Derived.Test.YtnokmlclephjgaaBox
import Derived.Test.YtnokmlclephjgaaGrow
import Derived.Laws.MakeOwn
import Derived.Deep.LoopGhost
set_option linter.unusedVariables false
set_option linter.unusedSimpArgs false
set_option linter.unusedSectionVars false
namespace Go.Proofs.Ytnokmlclephjgaa.Ix
open Go.Shelf Go.RowKit Go.Lib Go.Sort Go.Proofs.Ytnokmlclephjgaa
/-- The row while it is filled. -/
def cellsA (i n : Nat) : Array Value := Array.ofFn fun j : Fin n => .int .i64 (if j.1 < i then (j.1 : Int) else 0)
theorem cellsA_at {i n j : Nat} (h : j < n) : (cellsA i n)[j]? = some (.int .i64 (if j < i then (j : Int) else 0)) := by
  unfold cellsA
  rw [Array.getElem?_ofFn, dif_pos h]
theorem cellsA_set {i n : Nat} (h : i < n) : (cellsA i n).setIfInBounds i (.int .i64 i) = cellsA (i + 1) n := by
  apply Array.ext_getElem?
  intro j
  by_cases hj : j < n
  · rw [Array.getElem?_setIfInBounds, cellsA_at hj, cellsA_at hj]
    by_cases e : i = j
    · subst e
      rw [if_pos rfl, if_pos (by unfold cellsA; simpa using h), if_pos (by omega)]
    · rw [if_neg e]
      by_cases h2 : j < i
      · rw [if_pos h2, if_pos (by omega)]
      · rw [if_neg h2, if_neg (by omega)]
  · rw [Array.getElem?_eq_none (by simp [cellsA]; omega), Array.getElem?_eq_none (by simp [cellsA]; omega)]
theorem inf_intI : (Try.prog.info? 3).map (fun i => (i.zero, i.size, i.bytes)) = some (some (.int .i64 0), 1, 8) := by kernel_rfl
set_option maxRecDepth 100000 in
theorem made_ints (n : Nat) (hn : n ≤ 1000000) : ∀ W, (Instr.makeSlice 22 (.int .i64 (n : Int)) (.int .i64 (n : Int))).run Try.prog W = .ok (.slice (some ⟨W.heap.size, 0, none⟩) n n) (W.alloc (.cells (cellsA 0 n) 3)) := by
  obtain ⟨i, hi, hz, hs, hb⟩ := info_parts inf_intI
  intro W
  have := run_make W 22 3 i (.int .i64 0) Try.underlying22 hi hz .i64 .i64 n n (by omega) (by omega) (by rw [hb]; omega) (by omega)
  rw [hs] at this
  have hC : madeCells (Value.int .i64 0).cells (n * 1) = cellsA 0 n := by
    refine Array.ext (by simp [madeCells, cellsA]) fun j h1 h2 => ?_
    simp [madeCells, cellsA, Value.cells, Nat.mod_one]
  simp only [Int.toNat_natCast] at this
  rw [hC] at this
  exact this
/-- The indexes in their own order, and in the keys'. -/
def Ik.at (K : List V) (j : Fin K.length) : Ik K := ⟨j.1, j.2⟩
def idxA (K : List V) : Array (Ik K) := Array.ofFn (Ik.at K)
def ordA (K : List V) [Inhabited (Ik K)] : Array (Ik K) := insertionSort (Go.Proofs.ltOf mcI) (idxA K) 0 (idxA K).size
theorem idxA_size (K : List V) : (idxA K).size = K.length := by unfold idxA; exact Array.size_ofFn
/-- Between two rounds. -/
structure AsSt (n c : Nat) (B : Option Addr) (w0 w : World) (i : Nat) : Prop where
  row : Box w (w0.heap.size + 1) 3 (cellsA i n)
  box : Box w w0.heap.size 24 #[.slice B n c]
  below : Below w0.heap.size w0 w
theorem AsSt.put {n c : Nat} {B : Option Addr} {w0 w : World} {i : Nat} (h : AsSt n c B w0 w i) (hi : i < n) : AsSt n c B w0 (w.setCell ⟨w0.heap.size + 1, i, none⟩ (.int .i64 i)) (i + 1) :=
  ⟨by rw [← cellsA_set hi]; exact h.row.put i _, h.box.far (by show _ ≠ _; simp) _, h.below.setCell (by show _ ≤ _; simp) _⟩
theorem AsSt.holds {K : List V} [Inhabited (Ik K)] {c : Nat} {B : Option Addr} {w0 w : World} (h : AsSt K.length c B w0 w K.length) : Holds Ik.enc w (w0.heap.size + 1) 0 (idxA K) := fun j hj => by
  have hj2 : j < K.length := by rw [idxA_size] at hj; exact hj
  refine ⟨?_, h.row.free _⟩
  rw [Nat.zero_add]
  refine h.row.cell ?_
  rw [cellsA_at hj2, if_pos hj2]
  have e : (idxA K)[j]! = ⟨j, hj2⟩ := by
    have e2 : (idxA K)[j]? = some (Ik.at K ⟨j, hj2⟩) := by unfold idxA; rw [Array.getElem?_ofFn, dif_pos hj2]
    rw [getElem!_def, e2]
    rfl
  rw [e]
  rfl
set_option maxHeartbeats 4000000 in
set_option maxRecDepth 100000 in
theorem ascending_any (K : List V) [Inhabited (Ik K)] {c : Nat} {B : Option Addr} {xs : List Value} {S : Nat → Prop} {w : World} (hR : Rs w S B xs) (hL : LiesL w S K xs) (hS : ∀ b, S b → b < w.heap.size) (hval : K.all valid = true) (hlen : K.length ≤ 1000000) :
    Calls Try.prog 30 #[.slice B K.length c] w fun e w' => e = .returned (.slice (some ⟨w.heap.size + 1, 0, none⟩) K.length K.length) ∧ Below w.heap.size w w' ∧ Holds Ik.enc w' (w.heap.size + 1) 0 (ordA K) := by
  have hmk := made_ints K.length hlen
  have HSORT := Lib.hid (fun (wr : World) (h : AsSt K.length c B w wr K.length) => sortStable_any 42 #[.pointer (some ⟨w.heap.size, 0, none⟩)] (enters_of Try.func42 (by kernel_rfl) rfl) (w.heap.size + 1) K.length (idxA K) wr
    (asc_cmp h.box (by simp) (hR.move fun b hb => ⟨hb, h.below.block b (hS b hb)⟩) (hL.move fun b hb => ⟨hb, h.below.block b (hS b hb)⟩) (fun b hb => ⟨Nat.lt_of_lt_of_le (hS b hb) h.below.size, by have := hS b hb; omega⟩) hval) h.holds h.row.lt (by rw [idxA_size]; exact hlen))
  have HEND := Lib.hid (fun (wr : World) (h : AsSt K.length c B w wr K.length) (m : Nat) (os : Array Obj) => show Below w.heap.size w (sortWorld Ik.enc wr (w.heap.size + 1) 0 m (ordA K) os) ∧ Holds Ik.enc (sortWorld Ik.enc wr (w.heap.size + 1) 0 m (ordA K) os) (w.heap.size + 1) 0 (ordA K) from
    ⟨h.below.trans ((grown_below srt1_grown (by have := h.row.lt; omega)).mono (by omega)), holds_sortWorld Ik.enc wr (w.heap.size + 1) 0 m (idxA K) (ordA K) os h.row.lt h.holds (sort_size (idxA K) 0 _ (Nat.zero_le _) (Nat.le_refl _))⟩)
  rw [idxA_size] at HSORT
  have e9 : insertionSort (Go.Proofs.ltOf mcI) (idxA K) 0 K.length = ordA K := by unfold ordA; rw [idxA_size]
  rw [e9] at HSORT
  clear e9 hR hL hS hval
  generalize ordA K = res at HSORT HEND ⊢
  generalize K.length = n at *
  have HS0 : Hid (AsSt n c B w ((w.alloc (.cells #[.slice B n c] 24)).alloc (.cells (cellsA 0 n) 3)) 0) := Lib.hid ⟨by
    have := Box.laid (w.alloc (.cells #[.slice B n c] 24)) 3 (cellsA 0 n)
    have e : (w.alloc (.cells #[.slice B n c] 24)).heap.size = w.heap.size + 1 := by simp
    rw [e] at this
    exact this, (Box.laid w _ _).alloc _, ((Below.refl _ _).alloc (Nat.le_refl _) _).alloc (by simp) _⟩
  have k0 := HS0.out.box.cell (i := 0) (u := .slice B n c) rfl
  clear k0
  go_enter Try.func30, Try.ntmps30
  go_wp2_with fail
  go_loopg [4, 10] n (fun gg _ s10 wr => ∃ i : Nat, s10 = .int .i64 i ∧ i ≤ n ∧ n - i ≤ gg ∧ Hid (AsSt n c B w wr i))
  case atStart => exact ⟨0, rfl, Nat.zero_le _, by omega, HS0⟩
  case round =>
    clear HS0
    obtain ⟨i, rfl, hin, hg, HS⟩ := hrel
    by_cases hlt : i < n
    · have hi0 : (0 : Int) ≤ (i : Int) := by omega
      have hil : (i : Int) < (n : Int) := by omega
      have hc := HS.out.row.cell (cellsA_at (i := i) hlt)
      have hf := HS.out.row.free i
      have HS2 := Lib.hid (HS.out.put hlt)
      clear HS
      go_wp2_with fail
      go_roundg (n - (i + 1))
      case measure => omega
      case rel => exact ⟨i + 1, by first | rfl | go_num, by omega, Nat.le_refl _, HS2⟩
    · obtain rfl : i = n := by omega
      have hil : ¬ ((i : Int) < (i : Int)) := by omega
      have HC := Lib.hid (HSORT.out wr HS.out)
      have HE := Lib.hid (HEND.out wr HS.out)
      clear HSORT HEND
      go_wp2_with fail
      refine HC.out.mono ?_
      rintro e w2 ⟨rfl, m, os, rfl⟩
      go_wp2_with fail
      go_ret
      exact ⟨rfl, HE.out m os⟩
end Go.Proofs.Ytnokmlclephjgaa.Ix
