/- TableTranspose, plain: arrays of rows of numbers. Regions 'x, e := f(..)' that draw their order and lay the result's box: as in AsA. A cut behind a region that draws its order: what the region has put into its temporaries, written as puts onto the state ahead of it. Nothing of the program is named here. -/
import Derived.Test.YtnokmlclephjgaaTF
import Derived.Test.YtnokmlclephjgaaTE
import Derived.Test.YtnokmlclephjgaaTC
import Derived.Deep.RegionHeld3
set_option linter.unusedVariables false
set_option linter.unusedSimpArgs false
namespace Go.Proofs.Ytnokmlclephjgaa
open Go.RowKit
theorem dep_nums (ps : List Int) : dep (arrV (ps.map numV)) ≤ 1 := by
  obtain ⟨a, b, c, d⟩ := nums_goodT ps
  unfold arrV
  rw [dep, b]
  simp
theorem sz_nums (ps : List Int) : (arrV (ps.map numV)).sz = 1 + ps.length := by
  obtain ⟨a, b, c, d⟩ := nums_goodT ps
  unfold arrV
  rw [V.sz, c]
theorem vb_nums (ps : List Int) : vbyt (arrV (ps.map numV)) = 0 := by
  obtain ⟨a, b, c, d⟩ := nums_goodT ps
  unfold arrV
  rw [vbyt, kb, d]
  rfl
/-- Rows of numbers. -/
def NumRows (l : List V) : Prop := ∀ e ∈ l, ∃ ps : List Int, e = arrV (ps.map numV) ∧ ps.length ≤ 24
theorem rows_good : ∀ l : List V, NumRows l → goodL l = true ∧ depL l ≤ 1 ∧ V.szL l ≤ l.length * 25 ∧ vbytL l = 0
  | [], _ => ⟨rfl, by rw [depL]; omega, by rw [V.szL]; omega, rfl⟩
  | e :: r, h => by
    obtain ⟨a, b, c, d⟩ := rows_good r (fun x hx => h x (by simp [hx]))
    obtain ⟨ps, rfl, hps⟩ := h e (by simp)
    have g := (valid_iff _).1 (arr_numsT (ps := ps) (by omega))
    refine ⟨?_, ?_, ?_, ?_⟩
    · rw [goodL, g.1, a]; rfl
    · have h1 := dep_nums ps
      rw [depL]
      omega
    · rw [V.szL, sz_nums, List.length_cons]; omega
    · rw [vbytL, d, vb_nums]
theorem rows_valid {l : List V} (h : NumRows l) (hn : l.length ≤ 100) : valid (arrV l) = true := by
  obtain ⟨a, b, c, d⟩ := rows_good l h
  have hz : (⟨#[]⟩ : ByteArray).size = 0 := rfl
  rw [valid_iff]
  unfold arrV
  refine ⟨?_, ?_, ?_, ?_⟩
  · rw [good, a]
    have h1 : fits 5 0 (⟨#[]⟩ : ByteArray) ([] : List ByteArray).length l.length = true := by unfold fits; simp; rfl
    rw [h1]
    have h2 : okS (⟨#[]⟩ : ByteArray) = true := by decide +kernel
    rw [h2]
    simp [keysOk]
    omega
  · rw [dep]; simp; omega
  · rw [V.sz]; omega
  · rw [vbyt, kb, d]; simp; omega
theorem rows_all {l : List V} (h : NumRows l) : l.all valid = true := by
  rw [List.all_eq_true]
  intro v hv
  obtain ⟨ps, rfl, hps⟩ := h v hv
  exact arr_numsT (by omega)
theorem tab_rows {l : List V} (h : NumRows l) (hn : l.length ≤ 100) : tabR l = arrV l ∧ tabE l = 0 := by
  have h1 : arrE l = 0 := by
    unfold arrE finE
    rw [if_pos (rows_all h), if_pos (rows_valid h hn)]
  have h2 : arrR l = arrV l := by
    unfold arrR finV
    rw [if_pos (rows_all h), if_pos (rows_valid h hn)]
  unfold tabR tabE
  rw [if_pos h1, if_pos h1, h2]
  exact ⟨rfl, rfl⟩
/-- A matrix of numbers. -/
def matV (f : Nat → Nat → Int) (r n : Nat) : List V := (List.range r).map fun q => arrV (((List.range n).map fun i => f q i).map numV)
theorem matV_len (f : Nat → Nat → Int) (r n : Nat) : (matV f r n).length = r := by simp [matV]
theorem matV_rows {f : Nat → Nat → Int} {r n : Nat} (hn : n ≤ 24) : NumRows (matV f r n) := fun e he => by
  unfold matV at he
  obtain ⟨q, _, rfl⟩ := List.mem_map.1 he
  exact ⟨_, rfl, by simp; exact hn⟩
theorem matV_succ (f : Nat → Nat → Int) (r n : Nat) : matV f (r + 1) n = matV f r n ++ [arrV (((List.range n).map fun i => f r i).map numV)] := by simp [matV, List.range_succ]
theorem matV_kd {f : Nat → Nat → Int} {r n : Nat} : ∀ e ∈ matV f r n, kdV e = 5 := fun e he => by
  unfold matV at he
  obtain ⟨q, _, rfl⟩ := List.mem_map.1 he
  rfl
theorem lng_mat (f : Nat → Nat → Int) (n : Nat) : ∀ r i, i ≤ r → lng (matV f r n) i = if i = 0 then 0 else n := by
  intro r i
  induction i with
  | zero => intro _; rfl
  | succ i ih =>
    intro h
    have he : (matV f r n)[i]? = some (arrV (((List.range n).map fun j => f i j).map numV)) := by
      unfold matV
      rw [List.getElem?_map, List.getElem?_range (by omega)]
      rfl
    have hl : (elemsV (arrV (((List.range n).map fun j => f i j).map numV))).length = n := by unfold elemsV arrV; simp
    rw [lng_succ he, ih (by omega), hl]
    by_cases h0 : i = 0
    · simp [h0]
    · simp [h0]
theorem cell_mat {f : Nat → Nat → Int} {q n i : Nat} (hi : i < n) : cellV i (arrV (((List.range n).map fun j => f q j).map numV)) = numV (f q i) := by
  unfold cellV elemsV arrV
  simp [hi]
theorem cols_mat (f : Nat → Nat → Int) (r n : Nat) : colsV (matV f r n) n = matV (fun i q => f q i) n r := by
  unfold colsV
  have h : ∀ i, i < n → arrV ((matV f r n).map (cellV i)) = arrV (((List.range r).map fun q => f q i).map numV) := fun i hi => by
    congr 1
    unfold matV
    rw [List.map_map, List.map_map]
    apply List.map_congr_left
    intro q _
    exact cell_mat hi
  have : (List.range n).map (fun i => arrV ((matV f r n).map (cellV i))) = (List.range n).map fun i => arrV (((List.range r).map fun q => f q i).map numV) := List.map_congr_left fun i hi => h i (List.mem_range.1 hi)
  rw [this]
  rfl
theorem cols_none (l : List V) : colsV l 0 = [] := rfl
theorem flat_mat (f : Nat → Nat → Int) (n : Nat) : ∀ r, (matV f r n).flatMap elemsV = ((List.range r).flatMap fun q => (List.range n).map fun i => f q i).map numV := by
  intro r
  unfold matV
  rw [List.flatMap_map, List.map_flatMap]
  rfl
theorem flat_mat_len (f : Nat → Nat → Int) (n : Nat) : ∀ r, ((List.range r).flatMap fun q => (List.range n).map fun i => f q i).length = r * n
  | 0 => by simp
  | r + 1 => by
    rw [List.range_succ, List.flatMap_append, List.length_append, flat_mat_len f n r]
    simp
    rw [Nat.add_mul, Nat.one_mul]
end Go.Proofs.Ytnokmlclephjgaa
namespace Go.Proofs.Ytnokmlclephjgaa
open Go.RowKit
structure Vx (w : World) (g : Nat) (v : V) (c : List Value) : Prop where
  box : Box w g 27 c.toArray
  lies : Lies w (· < w.heap.size) v c
theorem Vx.next {w w' : World} {g : Nat} {v : V} {c : List Value} (h : Vx w g v c) (hb : Below w.heap.size w w') : Vx w' g v c := ⟨h.box.below hb h.box.lt, below_lies hb h.lies⟩
theorem Vx.new {w : World} {v : V} {c : List Value} (h : Lies w (· < w.heap.size) v c) : Vx (w.alloc (.cells c.toArray 27)) w.heap.size v c := ⟨Box.laid _ _ _, below_lies (below1 _ _) h⟩
theorem below_five_m {w0 w : World} {B : Nat} (hB : w0.heap.size ≤ B) (h : Below w0.heap.size w0 w) (a b c d e : Value) :
    Below w0.heap.size w0 (((((w.setCell ⟨B, 0, none⟩ a).setCell ⟨B, 1, none⟩ b).setCell ⟨B, 2, none⟩ c).setCell ⟨B, 3, none⟩ d).setCell ⟨B, 4, none⟩ e) :=
  (((((h.setCell (by simpa using hB) _).setCell (by simpa using hB) _).setCell (by simpa using hB) _).setCell (by simpa using hB) _).setCell (by simpa using hB) _)
theorem below_dr {w0 W : World} (h : Below w0.heap.size w0 W) : Below w0.heap.size w0 W.drew := h.drew
/-- What stands in the middle of a region that lays one value's box: nothing old has turned; the box, if it is laid, is zero. -/
structure Sb (w0 W : World) (z : Option Nat) : Prop where
  below : Below w0.heap.size w0 W
  box : ∀ g, z = some g → w0.heap.size ≤ g ∧ Box W g 27 #[.int .i64 0, .int .i64 0, .string ⟨#[]⟩, .slice none 0 0, .slice none 0 0]
theorem Sb.start (w : World) : Sb w w none := ⟨Below.refl _ _, fun g h => by cases h⟩
theorem Sb.drew {w0 W : World} {z : Option Nat} (h : Sb w0 W z) : Sb w0 W.drew z := ⟨below_dr h.below, fun g e => h.box g e⟩
theorem Sb.zbox {w0 W : World} (h : Sb w0 W none) : Sb w0 (W.alloc (.cells #[.int .i64 0, .int .i64 0, .string ⟨#[]⟩, .slice none 0 0, .slice none 0 0] 27)) (some W.heap.size) :=
  ⟨chain h.below (below1 _ _), fun g e => by injection e with e; subst e; exact ⟨h.below.size, Box.laid _ _ _⟩⟩
theorem Sb.call {w0 W W' : World} {z : Option Nat} (hb : Below W.heap.size W W') (h : Sb w0 W z) : Sb w0 W' z :=
  ⟨chain h.below hb, fun g e => ⟨(h.box g e).1, (h.box g e).2.below hb (h.box g e).2.lt⟩⟩
/-- A value that a call has handed back lies in a box of its own. -/
def GotB (w0 : World) (r : V) (er : Int) (t u : Value) (wx : World) : Prop :=
  Below w0.heap.size w0 wx ∧ u = .int .i64 er ∧ ∃ (g : Nat) (k n : Int) (s : ByteArray) (A : Option Addr) (la a : Nat) (C : Option Addr) (lc c : Nat), t = .pointer (some ⟨g, 0, none⟩) ∧ Vx wx g r [.int .i64 k, .int .i64 n, .string s, .slice A la a, .slice C lc c]
/-- What a call hands back in the middle of such a region. -/
def OpS (w0 : World) (z : Option Nat) (r : V) (er : Int) (e : Ending) (w' : World) : Prop :=
  ∃ (k n : Int) (s : ByteArray) (A : Option Addr) (la a : Nat) (C : Option Addr) (lc c : Nat), e = .returned (.tuple #[.agg #[.int .i64 k, .int .i64 n, .string s, .slice A la a, .slice C lc c], .int .i64 er]) ∧ Sb w0 w' z ∧
    Lies w' (fun b => (∀ g, z = some g → b ≠ g) ∧ b < w'.heap.size) r [.int .i64 k, .int .i64 n, .string s, .slice A la a, .slice C lc c]
theorem opS_of {w0 W : World} {z : Option Nat} {r : V} {er : Int} {f : FuncId} {args : Array Value} (h : Sb w0 W z) (hc : Calls Try.prog f args W (RetPost r er W)) : Calls Try.prog f args W (OpS w0 z r er) := by
  refine (ret_open hc).mono fun e w' hp => ?_
  obtain ⟨k, n, s, ks, es, A, a, C, c, hv, rfl, hb, hl⟩ := hp
  exact ⟨k, n, s, A, ks.length, a, C, es.length, c, rfl, Sb.call hb h, hl.move fun b hb => ⟨⟨fun g e => by have := (h.box g e).2.lt; omega, hb.2⟩, rfl⟩⟩
theorem gotB_last {w0 w3 : World} {r : V} {er k n : Int} {s : ByteArray} {A C : Option Addr} {la a lc c : Nat} {z : Option Nat} (hs : Sb w0 w3 z)
    (hl : Lies w3 (fun b => (∀ g, z = some g → b ≠ g) ∧ b < w3.heap.size) r [.int .i64 k, .int .i64 n, .string s, .slice A la a, .slice C lc c]) :
    GotB w0 r er (.pointer (some ⟨w3.heap.size, 0, none⟩)) (.int .i64 er) (w3.alloc (.cells #[.int .i64 k, .int .i64 n, .string s, .slice A la a, .slice C lc c] 27)) :=
  ⟨chain hs.below (below1 _ _), rfl, _, k, n, s, A, la, a, C, lc, c, rfl, Vx.new (hl.move fun b hb => ⟨hb.2, rfl⟩)⟩
theorem gotB_fill {w0 w3 : World} {r : V} {er k n : Int} {s : ByteArray} {A C : Option Addr} {la a lc c g : Nat} (hs : Sb w0 w3 (some g))
    (hl : Lies w3 (fun b => (∀ g', some g = some g' → b ≠ g') ∧ b < w3.heap.size) r [.int .i64 k, .int .i64 n, .string s, .slice A la a, .slice C lc c]) :
    GotB w0 r er (.pointer (some ⟨g, 0, none⟩)) (.int .i64 er) (((((w3.setCell ⟨g, 0, none⟩ (.int .i64 k)).setCell ⟨g, 1, none⟩ (.int .i64 n)).setCell ⟨g, 2, none⟩ (.string s)).setCell ⟨g, 3, none⟩ (.slice A la a)).setCell ⟨g, 4, none⟩ (.slice C lc c)) := by
  have hx := (hs.box g rfl).2
  have hz := (hs.box g rfl).1
  refine ⟨below_five_m hz hs.below _ _ _ _ _, rfl, g, k, n, s, A, la, a, C, lc, c, rfl, ((((hx.put 0 _).put 1 _).put 2 _).put 3 _).put 4 _, ?_⟩
  refine hl.move fun b hb => ⟨by simp [World.setCell]; exact hb.2, ?_⟩
  have hne : b ≠ g := hb.1 g rfl
  rw [Below.heap_setCell _ _ _ _ hne, Below.heap_setCell _ _ _ _ hne, Below.heap_setCell _ _ _ _ hne, Below.heap_setCell _ _ _ _ hne, Below.heap_setCell _ _ _ _ hne]
end Go.Proofs.Ytnokmlclephjgaa
namespace Go.Proofs.Ytnokmlclephjgaa
def putsL (a : Act) : List (Nat × Value) → Act
  | [] => a
  | p :: r => putsL (a.put (some p.1) p.2) r
theorem putsL_nil (a : Act) : putsL a [] = a := rfl
theorem putsL_cons (a : Act) (d : Nat) (v : Value) (r : List (Nat × Value)) : putsL a ((d, v) :: r) = putsL (a.put (some d) v) r := rfl
/-- The rest is walked once, whatever order the region has taken. -/
theorem cut_code {P : Program} {Q : Exit → Act → World → Prop} {c : Code} {a : Act} {w : World} (R : List (Nat × Value) → World → Prop)
    (h1 : c.wp P (fun e a' w' => e = .normal ∧ ∃ vs, a' = putsL a vs ∧ R vs w') a w) (h2 : ∀ vs w', R vs w' → Q .normal (putsL a vs) w') : c.wp P Q a w :=
  Code.wp_mono (fun e a' w' h => by
    obtain ⟨he, vs, ha, hr⟩ := h
    subst he ha
    exact h2 vs w' hr) h1
end Go.Proofs.Ytnokmlclephjgaa
