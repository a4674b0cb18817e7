/- The parser's state in memory, and what its smallest methods do with it. -/
import Derived.Test.YthgnelkppibpeaaGreatDoorYl
import Derived.Test.YthgnelkppibpeaaGreatDoorYn
import Derived.Lib.Hide
import Derived.Deep.QuietTactic
import Derived.BigQuiet
import Derived.StillTailTactics
import Derived.Deep.RegionHeld3
import Derived.Deep.CutBlock
import Derived.Deep.DeepCutAuto
import Derived.Deep.LoopGhost
import Derived.Test.YthgnelkppibpeaaGreatDoorProg
set_option linter.unusedVariables false
set_option linter.unusedSimpArgs false
set_option linter.unusedSectionVars false
namespace Go.Proofs.YthgnelkppibpeaaGreatDoor
open Go.RowKit
def rowK (ts : List Fk) : List Value := ts.flatMap Fk.cs
theorem rowK_len (ts : List Fk) : (rowK ts).length = ts.length * 4 := by
  induction ts with
  | nil => rfl
  | cons t r ih => rw [show rowK (t :: r) = t.cs ++ rowK r from rfl, List.length_append, ih, List.length_cons]; show 4 + _ = _; omega
theorem rowK_at (ts : List Fk) (k : Nat) (hk : k < ts.length) (j : Nat) (hj : j < 4) : (rowK ts)[k * 4 + j]? = (tk ts k).cs[j]? := by
  induction ts generalizing k with
  | nil => simp at hk
  | cons t r ih =>
    rw [show rowK (t :: r) = t.cs ++ rowK r from rfl]
    cases k with
    | zero =>
      rw [List.getElem?_append_left (by show _ < 4; omega)]
      rw [Nat.zero_mul, Nat.zero_add]
      rfl
    | succ k =>
      rw [List.getElem?_append_right (by show 4 ≤ _; omega)]
      have e : (k + 1) * 4 + j - t.cs.length = k * 4 + j := by show _ - 4 = _; omega
      rw [e, ih k (by simpa using hk)]
      rfl
/-- The tokens are such as Lex gives. -/
structure TokL (L : List Fk) : Prop where
  e : EndL L
  size : ∀ k, (tk L k).s.size ≤ 1048576
  len : L.length ≤ 4096
def pcells (L : List Fk) (gt C : Nat) (σ : PS) : Array Value := #[.slice (some ⟨gt, σ.k * 4, none⟩) (L.length - σ.k) (C - σ.k), .int .i64 σ.o, .int .i64 σ.e, .bool σ.long, .int .i64 σ.lo]
/-- The parser lies in block g, its tokens in block gt. -/
structure PAt (L : List Fk) (gt C g : Nat) (w : World) (σ : PS) : Prop where
  lt : σ.k < L.length
  ne : gt ≠ g
  gtlt : gt < w.heap.size
  cap : L.length ≤ C
  capm : L.length ≤ 4096
  box : Box w g 50 (pcells L gt C σ)
  row : ∀ j u, (rowK L)[j]? = some u → w.cell? ⟨gt, j, none⟩ = some u
section
variable {L : List Fk} {gt C g : Nat} {w w' : World} {σ : PS}
theorem PAt.glt (h : PAt L gt C g w σ) : g < w.heap.size := h.box.lt
theorem PAt.below (h : PAt L gt C g w σ) {B : Nat} (hb : Below B w w') (hB : w.heap.size ≤ B) : PAt L gt C g w' σ :=
  ⟨h.lt, h.ne, Nat.lt_of_lt_of_le h.gtlt hb.size, h.cap, h.capm, h.box.below hb (by have := h.glt; omega), fun j u hj => (hb.cell (p := ⟨gt, j, none⟩) (by have := h.gtlt; show gt < _; omega)).trans (h.row j u hj)⟩
theorem PAt.next (h : PAt L gt C g w σ) (hb : Below w.heap.size w w') : PAt L gt C g w' σ := h.below hb (Nat.le_refl _)
theorem PAt.alloc (h : PAt L gt C g w σ) (o : Obj) : PAt L gt C g (w.alloc o) σ := h.next ((Below.refl _ _).alloc (Nat.le_refl _) o)
/-- The cells of the token at k. -/
theorem PAt.tok (h : PAt L gt C g w σ) {k : Nat} (hk : k < L.length) : w.cell? ⟨gt, k * 4, none⟩ = some (.int .i64 (tk L k).k) ∧ w.cell? ⟨gt, k * 4 + 1, none⟩ = some (.int .i64 (tk L k).o) ∧ w.cell? ⟨gt, k * 4 + 2, none⟩ = some (.string (tk L k).s) ∧ w.cell? ⟨gt, k * 4 + 3, none⟩ = some (.int .i64 (tk L k).i) :=
  ⟨h.row _ _ (rowK_at L k hk 0 (by omega)), h.row _ _ (rowK_at L k hk 1 (by omega)), h.row _ _ (rowK_at L k hk 2 (by omega)), h.row _ _ (rowK_at L k hk 3 (by omega))⟩
theorem box5f {t : TypeId} {x0 x1 x2 x3 x4 : Value} (h : Box w g t #[x0, x1, x2, x3, x4]) : w.frozen? ⟨g, 0, none⟩ = false ∧ w.frozen? ⟨g, 1, none⟩ = false ∧ w.frozen? ⟨g, 2, none⟩ = false ∧ w.frozen? ⟨g, 3, none⟩ = false ∧ w.frozen? ⟨g, 4, none⟩ = false :=
  ⟨h.free 0, h.free 1, h.free 2, h.free 3, h.free 4⟩
end
theorem bcell {W w1 : World} (hb : Below W.heap.size W w1) : (∀ b o, b < W.heap.size → w1.cell? ⟨b, o, none⟩ = W.cell? ⟨b, o, none⟩) ∧ (∀ b o, b < W.heap.size → w1.frozen? ⟨b, o, none⟩ = W.frozen? ⟨b, o, none⟩) :=
  ⟨fun b o h => hb.cell (p := ⟨b, o, none⟩) h, fun b o h => hb.frozen (p := ⟨b, o, none⟩) h⟩
def tokV (t : Fk) : Value := .agg #[.int .i64 t.k, .int .i64 t.o, .string t.s, .int .i64 t.i]
def PeekPost (t : Fk) (w : World) (e : Ending) (w' : World) : Prop := e = .returned (.agg #[.int .i64 t.k, .int .i64 t.o, .string t.s, .int .i64 t.i]) ∧ Below w.heap.size w w'
set_option maxHeartbeats 4000000 in
theorem peek_any {L : List Fk} {gt C g : Nat} {w : World} {σ : PS} (hP : PAt L gt C g w σ) : Calls Tryz.prog 58 #[.pointer (some ⟨g, 0, none⟩)] w (PeekPost (tk L σ.k) w) := by
  obtain ⟨b0, b1, b2, b3, b4⟩ := box5 hP.box
  obtain ⟨t0, t1, t2, t3⟩ := hP.tok hP.lt
  have hl := hP.glt
  have hg := hP.gtlt
  have hn : 0 < L.length - σ.k := by have := hP.lt; omega
  generalize tk L σ.k = t at t0 t1 t2 t3 ⊢
  generalize L.length - σ.k = n at b0 hn
  generalize C - σ.k = c at b0
  generalize σ.k * 4 = o at *
  clear hP
  go_enter Tryz.func58, Tryz.ntmps58
  go_wp2_with fail
  refine bodyPost_ret (v := .agg #[.int .i64 t.k, .int .i64 t.o, .string t.s, .int .i64 t.i]) (by simp [results, Tryz.results58, go_sem]) rfl ?_
  exact ⟨rfl, (Below.refl _ _).alloc (Nat.le_refl _) _⟩

def BoolPost (b : Bool) (w : World) (e : Ending) (w' : World) : Prop := e = .returned (.bool b) ∧ Below w.heap.size w w'
set_option maxHeartbeats 4000000 in
theorem isw_any (t : Fk) (w : World) : Calls Tryz.prog 80 #[.agg #[.int .i64 t.k, .int .i64 t.o, .string t.s, .int .i64 t.i]] w (BoolPost (isW t) w) := by
  unfold isW
  obtain ⟨k, o, s, i⟩ := t
  dsimp only
  by_cases h7 : k = 7
  · subst h7
    go_enter Tryz.func80, Tryz.ntmps80
    go_wp2_with fail
    go_ret
    exact ⟨rfl, (Below.refl _ _).alloc (Nat.le_refl _) _⟩
  · have q7 : ((k : Int) == 7) = false := beq_eq_false_iff_ne.2 (by omega)
    have e7 : (k == 7) = false := beq_eq_false_iff_ne.2 h7
    rw [e7]
    by_cases h2 : k = 2
    · subst h2
      clear h7 e7
      go_enter Tryz.func80, Tryz.ntmps80
      go_wp2_with fail
      go_ret
      exact ⟨rfl, (Below.refl _ _).alloc (Nat.le_refl _) _⟩
    · have q2 : ((k : Int) == 2) = false := beq_eq_false_iff_ne.2 (by omega)
      have e2 : (k == 2) = false := beq_eq_false_iff_ne.2 h2
      rw [e2]
      clear h7 e7 h2 e2
      go_enter Tryz.func80, Tryz.ntmps80
      go_wp2_with fail
      go_ret
      exact ⟨rfl, (Below.refl _ _).alloc (Nat.le_refl _) _⟩
theorem bytesInj {a b : ByteArray} (h : a.data.toList = b.data.toList) : a = b := by
  cases a; cases b; congr; exact Array.toList_inj.1 h
theorem streq (x y : ByteArray) : (x.toList == y.toList) = decide (x = y) := by
  rw [Bool.eq_iff_iff]
  rw [beq_iff_eq, decide_eq_true_eq]
  constructor
  · intro h
    simp only [ByteArray.toList_eq] at h
    exact bytesInj h
  · intro h; rw [h]
set_option maxHeartbeats 4000000 in
theorem sees_any {L : List Fk} {gt C g : Nat} {w : World} {σ : PS} (x : ByteArray) (hP : PAt L gt C g w σ) : Calls Tryz.prog 158 #[.pointer (some ⟨g, 0, none⟩), .string x] w (BoolPost (sees L x σ) w) := by
  have HK := Lib.hid (peek_any hP)
  have HI := Lib.hid (fun W => isw_any (tk L σ.k) W)
  unfold sees
  generalize tk L σ.k = t at HK HI ⊢
  obtain ⟨iw, hiw⟩ : ∃ b, isW t = b := ⟨_, rfl⟩
  rw [hiw] at HI ⊢
  clear hP hiw
  cases iw with
  | false =>
    rw [Bool.false_and]
    go_enter Tryz.func158, Tryz.ntmps158
    go_wp2_with (first | (go_at_call 58; (with_reducible refine HK.out.mono ?_); rintro e w1 ⟨rfl, hb1⟩) | (go_at_call 80; (with_reducible refine (HI.out _).mono ?_); rintro e w2 ⟨rfl, hb2⟩))
    go_ret
    exact ⟨rfl, chain (hb1.alloc hb1.size _) hb2⟩
  | true =>
    rw [Bool.true_and]
    by_cases hx : t.s = x
    · rw [decide_eq_true hx]
      have qx : (t.s.toList == x.toList) = true := by rw [streq, decide_eq_true hx]
      clear hx
      go_enter Tryz.func158, Tryz.ntmps158
      go_wp2_with (first | (go_at_call 58; (with_reducible refine HK.out.mono ?_); rintro e w1 ⟨rfl, hb1⟩) | (go_at_call 80; (with_reducible refine (HI.out _).mono ?_); rintro e w2 ⟨rfl, hb2⟩; obtain ⟨hc2, hf2⟩ := bcell hb2))
      go_ret
      exact ⟨rfl, chain (hb1.alloc hb1.size _) hb2⟩
    · rw [decide_eq_false hx]
      have qx : (t.s.toList == x.toList) = false := by rw [streq, decide_eq_false hx]
      clear hx
      go_enter Tryz.func158, Tryz.ntmps158
      go_wp2_with (first | (go_at_call 58; (with_reducible refine HK.out.mono ?_); rintro e w1 ⟨rfl, hb1⟩) | (go_at_call 80; (with_reducible refine (HI.out _).mono ?_); rintro e w2 ⟨rfl, hb2⟩; obtain ⟨hc2, hf2⟩ := bcell hb2))
      go_ret
      exact ⟨rfl, chain (hb1.alloc hb1.size _) hb2⟩
/-- The parser's state, opened. -/
theorem PAt.op {L : List Fk} {gt C g : Nat} {w : World} {σ : PS} (h : PAt L gt C g w σ) : ∃ o n c : Nat, σ.k * 4 = o ∧ L.length - σ.k = n ∧ C - σ.k = c ∧
    (w.cell? ⟨g, 0, none⟩ = some (.slice (some ⟨gt, o, none⟩) n c) ∧ w.cell? ⟨g, 1, none⟩ = some (.int .i64 σ.o) ∧ w.cell? ⟨g, 2, none⟩ = some (.int .i64 σ.e) ∧ w.cell? ⟨g, 3, none⟩ = some (.bool σ.long) ∧ w.cell? ⟨g, 4, none⟩ = some (.int .i64 σ.lo)) ∧
    (w.frozen? ⟨g, 0, none⟩ = false ∧ w.frozen? ⟨g, 1, none⟩ = false ∧ w.frozen? ⟨g, 2, none⟩ = false ∧ w.frozen? ⟨g, 3, none⟩ = false ∧ w.frozen? ⟨g, 4, none⟩ = false) ∧
    (w.cell? ⟨gt, o, none⟩ = some (.int .i64 (tk L σ.k).k) ∧ w.cell? ⟨gt, o + 1, none⟩ = some (.int .i64 (tk L σ.k).o) ∧ w.cell? ⟨gt, o + 2, none⟩ = some (.string (tk L σ.k).s) ∧ w.cell? ⟨gt, o + 3, none⟩ = some (.int .i64 (tk L σ.k).i)) ∧
    g < w.heap.size ∧ gt < w.heap.size ∧ ¬ gt = g ∧ 0 < n ∧ n ≤ c ∧ n ≤ 4096 :=
  ⟨_, _, _, rfl, rfl, rfl, box5 h.box, box5f h.box, h.tok h.lt, h.glt, h.gtlt, h.ne, by have := h.lt; omega, by have := h.cap; have := h.lt; omega, by have := h.capm; omega⟩
section
variable {L : List Fk} {gt C g : Nat} {w w' : World} {σ : PS}
/-- A block that is neither the parser's nor that of the tokens turns. -/
theorem PAt.far (h : PAt L gt C g w σ) {r : Nat} (h1 : ¬ r = g) (h2 : ¬ r = gt) (i : Nat) (u : Value) : PAt L gt C g (w.setCell ⟨r, i, none⟩ u) σ :=
  ⟨h.lt, h.ne, by have := h.gtlt; simpa [World.setCell] using this, h.cap, h.capm, h.box.far (p := ⟨r, i, none⟩) (fun e => h1 e.symm) u, fun j u' hj => by
    rw [World.cell?_of_block (w := w) (Below.heap_setCell w ⟨r, i, none⟩ u gt (fun e => h2 e.symm))]; exact h.row j u' hj⟩
theorem PAt.own (h : PAt L gt C g w σ) {τ : PS} (i : Nat) (u : Value) (hk : τ.k < L.length) (he : (pcells L gt C σ).setIfInBounds i u = pcells L gt C τ) : PAt L gt C g (w.setCell ⟨g, i, none⟩ u) τ :=
  ⟨hk, h.ne, by have := h.gtlt; simpa [World.setCell] using this, h.cap, h.capm, by have := h.box.put i u; rw [he] at this; exact this, fun j u' hj => by
    rw [World.cell?_of_block (w := w) (Below.heap_setCell w ⟨g, i, none⟩ u gt (fun e => h.ne e))]; exact h.row j u' hj⟩
theorem PAt.step (h : PAt L gt C g w σ) (hk : σ.k + 1 < L.length) {o n c : Nat} (ho : σ.k * 4 + 4 = o) (hn : L.length - σ.k - 1 = n) (hc : C - σ.k - 1 = c) : PAt L gt C g (w.setCell ⟨g, 0, none⟩ (.slice (some ⟨gt, o, none⟩) n c)) (adv σ) := by
  subst ho; subst hn; subst hc
  refine h.own 0 _ hk ?_
  unfold pcells adv
  show (#[_, _, _, _, _] : Array Value) = _
  rw [show (σ.k + 1) * 4 = σ.k * 4 + 4 by omega, show L.length - (σ.k + 1) = L.length - σ.k - 1 by omega, show C - (σ.k + 1) = C - σ.k - 1 by omega]
theorem Gr.put (h : Gr g w w') {r : Nat} (hr : w.heap.size ≤ r) (i : Nat) (u : Value) : Gr g w (w'.setCell ⟨r, i, none⟩ u) := by
  refine ⟨h.os, h.tape, h.output, by have := h.size; simpa [World.setCell] using this, fun k hk hn => ?_⟩
  rw [Below.heap_setCell w' ⟨r, i, none⟩ u k (by show k ≠ r; omega)]
  exact World.grownBy.block h k hk hn
end
section
variable {L : List Fk} {gt C g : Nat} {w w' : World} {σ : PS}
theorem PAt.far4 (h : PAt L gt C g w σ) {r : Nat} (h1 : ¬ r = g) (h2 : ¬ r = gt) (u0 u1 u2 u3 : Value) : PAt L gt C g ((((w.setCell ⟨r, 0, none⟩ u0).setCell ⟨r, 1, none⟩ u1).setCell ⟨r, 2, none⟩ u2).setCell ⟨r, 3, none⟩ u3) σ :=
  (((h.far h1 h2 0 u0).far h1 h2 1 u1).far h1 h2 2 u2).far h1 h2 3 u3
theorem Gr.put4 (h : Gr g w w') {r : Nat} (hr : w.heap.size ≤ r) (u0 u1 u2 u3 : Value) : Gr g w ((((w'.setCell ⟨r, 0, none⟩ u0).setCell ⟨r, 1, none⟩ u1).setCell ⟨r, 2, none⟩ u2).setCell ⟨r, 3, none⟩ u3) :=
  (((h.put hr 0 u0).put hr 1 u1).put hr 2 u2).put hr 3 u3
theorem box4' {t : TypeId} {x0 x1 x2 x3 : Value} (h : Box w g t #[x0, x1, x2, x3]) : (w.cell? ⟨g, 0, none⟩ = some x0 ∧ w.cell? ⟨g, 1, none⟩ = some x1 ∧ w.cell? ⟨g, 2, none⟩ = some x2 ∧ w.cell? ⟨g, 3, none⟩ = some x3) ∧ (w.frozen? ⟨g, 0, none⟩ = false ∧ w.frozen? ⟨g, 1, none⟩ = false ∧ w.frozen? ⟨g, 2, none⟩ = false ∧ w.frozen? ⟨g, 3, none⟩ = false) :=
  ⟨⟨h.cell rfl, h.cell rfl, h.cell rfl, h.cell rfl⟩, h.free 0, h.free 1, h.free 2, h.free 3⟩
theorem Gr.one (w : World) (o : Obj) : Gr g w (w.alloc o) := (Gr.refl g w).alloc o
theorem Gr.low (h : Gr g w w') {w2 : World} (hb : Below w'.heap.size w' w2) : Gr g w w2 := h.trans (Gr.below hb)
end
section
variable {w : World} {r : Nat} {t : TypeId}
theorem Box.put4 {x0 x1 x2 x3 : Value} (h : Box w r t #[x0, x1, x2, x3]) (u0 u1 u2 u3 : Value) : Box ((((w.setCell ⟨r, 0, none⟩ u0).setCell ⟨r, 1, none⟩ u1).setCell ⟨r, 2, none⟩ u2).setCell ⟨r, 3, none⟩ u3) r t #[u0, u1, u2, u3] := (((h.put 0 u0).put 1 u1).put 2 u2).put 3 u3
theorem Box.put9 {x0 x1 x2 x3 x4 x5 x6 x7 x8 : Value} (h : Box w r t #[x0, x1, x2, x3, x4, x5, x6, x7, x8]) (u0 u1 u2 u3 u4 u5 u6 u7 u8 : Value) : Box (((((((((w.setCell ⟨r, 0, none⟩ u0).setCell ⟨r, 1, none⟩ u1).setCell ⟨r, 2, none⟩ u2).setCell ⟨r, 3, none⟩ u3).setCell ⟨r, 4, none⟩ u4).setCell ⟨r, 5, none⟩ u5).setCell ⟨r, 6, none⟩ u6).setCell ⟨r, 7, none⟩ u7).setCell ⟨r, 8, none⟩ u8) r t #[u0, u1, u2, u3, u4, u5, u6, u7, u8] := by
  have h0 : Box (w.setCell ⟨r, 0, none⟩ u0) r t #[u0, x1, x2, x3, x4, x5, x6, x7, x8] := h.put 0 u0
  have h1 : Box ((w.setCell ⟨r, 0, none⟩ u0).setCell ⟨r, 1, none⟩ u1) r t #[u0, u1, x2, x3, x4, x5, x6, x7, x8] := h0.put 1 u1
  have h2 : Box (((w.setCell ⟨r, 0, none⟩ u0).setCell ⟨r, 1, none⟩ u1).setCell ⟨r, 2, none⟩ u2) r t #[u0, u1, u2, x3, x4, x5, x6, x7, x8] := h1.put 2 u2
  have h3 : Box ((((w.setCell ⟨r, 0, none⟩ u0).setCell ⟨r, 1, none⟩ u1).setCell ⟨r, 2, none⟩ u2).setCell ⟨r, 3, none⟩ u3) r t #[u0, u1, u2, u3, x4, x5, x6, x7, x8] := h2.put 3 u3
  have h4 : Box (((((w.setCell ⟨r, 0, none⟩ u0).setCell ⟨r, 1, none⟩ u1).setCell ⟨r, 2, none⟩ u2).setCell ⟨r, 3, none⟩ u3).setCell ⟨r, 4, none⟩ u4) r t #[u0, u1, u2, u3, u4, x5, x6, x7, x8] := h3.put 4 u4
  have h5 : Box ((((((w.setCell ⟨r, 0, none⟩ u0).setCell ⟨r, 1, none⟩ u1).setCell ⟨r, 2, none⟩ u2).setCell ⟨r, 3, none⟩ u3).setCell ⟨r, 4, none⟩ u4).setCell ⟨r, 5, none⟩ u5) r t #[u0, u1, u2, u3, u4, u5, x6, x7, x8] := h4.put 5 u5
  have h6 : Box (((((((w.setCell ⟨r, 0, none⟩ u0).setCell ⟨r, 1, none⟩ u1).setCell ⟨r, 2, none⟩ u2).setCell ⟨r, 3, none⟩ u3).setCell ⟨r, 4, none⟩ u4).setCell ⟨r, 5, none⟩ u5).setCell ⟨r, 6, none⟩ u6) r t #[u0, u1, u2, u3, u4, u5, u6, x7, x8] := h5.put 6 u6
  have h7 : Box ((((((((w.setCell ⟨r, 0, none⟩ u0).setCell ⟨r, 1, none⟩ u1).setCell ⟨r, 2, none⟩ u2).setCell ⟨r, 3, none⟩ u3).setCell ⟨r, 4, none⟩ u4).setCell ⟨r, 5, none⟩ u5).setCell ⟨r, 6, none⟩ u6).setCell ⟨r, 7, none⟩ u7) r t #[u0, u1, u2, u3, u4, u5, u6, u7, x8] := h6.put 7 u7
  have h8 : Box (((((((((w.setCell ⟨r, 0, none⟩ u0).setCell ⟨r, 1, none⟩ u1).setCell ⟨r, 2, none⟩ u2).setCell ⟨r, 3, none⟩ u3).setCell ⟨r, 4, none⟩ u4).setCell ⟨r, 5, none⟩ u5).setCell ⟨r, 6, none⟩ u6).setCell ⟨r, 7, none⟩ u7).setCell ⟨r, 8, none⟩ u8) r t #[u0, u1, u2, u3, u4, u5, u6, u7, u8] := h7.put 8 u8
  exact h8
theorem box9 {x0 x1 x2 x3 x4 x5 x6 x7 x8 : Value} (h : Box w r t #[x0, x1, x2, x3, x4, x5, x6, x7, x8]) : w.cell? ⟨r, 0, none⟩ = some x0 ∧ w.cell? ⟨r, 1, none⟩ = some x1 ∧ w.cell? ⟨r, 2, none⟩ = some x2 ∧ w.cell? ⟨r, 3, none⟩ = some x3 ∧ w.cell? ⟨r, 4, none⟩ = some x4 ∧ w.cell? ⟨r, 5, none⟩ = some x5 ∧ w.cell? ⟨r, 6, none⟩ = some x6 ∧ w.cell? ⟨r, 7, none⟩ = some x7 ∧ w.cell? ⟨r, 8, none⟩ = some x8 :=
  ⟨h.cell rfl, h.cell rfl, h.cell rfl, h.cell rfl, h.cell rfl, h.cell rfl, h.cell rfl, h.cell rfl, h.cell rfl⟩
theorem box9f {x0 x1 x2 x3 x4 x5 x6 x7 x8 : Value} (h : Box w r t #[x0, x1, x2, x3, x4, x5, x6, x7, x8]) : w.frozen? ⟨r, 0, none⟩ = false ∧ w.frozen? ⟨r, 1, none⟩ = false ∧ w.frozen? ⟨r, 2, none⟩ = false ∧ w.frozen? ⟨r, 3, none⟩ = false ∧ w.frozen? ⟨r, 4, none⟩ = false ∧ w.frozen? ⟨r, 5, none⟩ = false ∧ w.frozen? ⟨r, 6, none⟩ = false ∧ w.frozen? ⟨r, 7, none⟩ = false ∧ w.frozen? ⟨r, 8, none⟩ = false :=
  ⟨h.free 0, h.free 1, h.free 2, h.free 3, h.free 4, h.free 5, h.free 6, h.free 7, h.free 8⟩
theorem post4 {fn : Func} {a : Act} {R : Ending → World → Prop} {slot : Nat} {c0 c1 c2 c3 : Value} (hres : fn.results = #[ResultVar.cell slot 41]) (ht : a.tmps.getD slot undef = .pointer (some ⟨r, 0, none⟩)) (hd : a.defers = [])
    (hB : Box w r t #[c0, c1, c2, c3]) (h : R (.returned (.agg #[c0, c1, c2, c3])) w) : bodyPost Tryz.prog fn R Exit.ret a w := by
  obtain ⟨⟨y0, y1, y2, y3⟩, -⟩ := box4' hB
  have ht2 : a.tmps[slot]?.getD undef = .pointer (some ⟨r, 0, none⟩) := by simpa using ht
  exact bodyPost_ret (v := .agg #[c0, c1, c2, c3]) (by simp [results, hres, ht2, go_sem, y0, y1, y2, y3]) hd h
theorem post9 {fn : Func} {a : Act} {R : Ending → World → Prop} {slot : Nat} {c0 c1 c2 c3 c4 c5 c6 c7 c8 : Value} (hres : fn.results = #[ResultVar.cell slot 29]) (ht : a.tmps.getD slot undef = .pointer (some ⟨r, 0, none⟩)) (hd : a.defers = [])
    (hB : Box w r t #[c0, c1, c2, c3, c4, c5, c6, c7, c8]) (h : R (.returned (.agg #[c0, c1, c2, c3, c4, c5, c6, c7, c8])) w) : bodyPost Tryz.prog fn R Exit.ret a w := by
  obtain ⟨y0, y1, y2, y3, y4, y5, y6, y7, y8⟩ := box9 hB
  have ht2 : a.tmps[slot]?.getD undef = .pointer (some ⟨r, 0, none⟩) := by simpa using ht
  exact bodyPost_ret (v := .agg #[c0, c1, c2, c3, c4, c5, c6, c7, c8]) (by simp [results, hres, ht2, go_sem, y0, y1, y2, y3, y4, y5, y6, y7, y8]) hd h
end
def ReadPost (L : List Fk) (gt C g : Nat) (w : World) (t : Fk) (τ : PS) (e : Ending) (w' : World) : Prop := e = .returned (.agg #[.int .i64 t.k, .int .i64 t.o, .string t.s, .int .i64 t.i]) ∧ Gr g w w' ∧ PAt L gt C g w' τ
set_option maxHeartbeats 4000000 in
theorem read_any {L : List Fk} (hL : TokL L) {gt C g : Nat} {w : World} {σ : PS} (hP : PAt L gt C g w σ) : Calls Tryz.prog 31 #[.pointer (some ⟨g, 0, none⟩)] w (ReadPost L gt C g w (tk L σ.k) (readP L σ)) := by
  have HP := Lib.hid hP
  have HN := Lib.hid (hL.e.next hP.lt)
  have hg := hP.glt
  have hgt := hP.gtlt
  unfold readP
  by_cases h0 : (tk L σ.k).k = 0
  · rw [if_pos h0]
    have HK := Lib.hid (fun W (h : PAt L gt C g W σ) => peek_any h)
    generalize tk L σ.k = t at HK h0 HN ⊢
    obtain ⟨k, o, s, i⟩ := t
    dsimp only at h0
    subst h0
    clear hP
    go_enter Tryz.func31, Tryz.ntmps31
    go_wp2_with fail
    refine (HK.out _ (HP.out.alloc _)).mono ?_
    rintro e w1 ⟨rfl, hb1⟩
    have HP1 := Lib.hid ((HP.out.alloc _).next hb1)
    have HG1 := Lib.hid ((Gr.one (g := g) w _).low hb1)
    have HR1 := Lib.hid (Box.below (Box.laid w 41 #[.int .i64 0, .int .i64 0, .string ⟨#[]⟩, .int .i64 0]) hb1 (by simp))
    obtain ⟨⟨y0, y1, y2, y3⟩, z0, z1, z2, z3⟩ := box4' HR1.out
    have hlt : w.heap.size < w1.heap.size := by have := hb1.size; simp at this; omega
    clear hb1
    go_wp2_with fail
    refine post4 Tryz.results31 rfl rfl ((HR1.out.put4 _ _ _ _).alloc _) ?_
    exact ⟨rfl, (HG1.out.put4 (Nat.le_refl _) _ _ _ _).alloc _, (HP1.out.far4 (by omega) (by omega) _ _ _ _).alloc _⟩
  · rw [if_neg h0]
    have hn := HN.out h0
    clear HN
    have HK := Lib.hid (fun W (h : PAt L gt C g W σ) => peek_any h)
    have q0 : (((tk L σ.k).k : Int) != 0) = true := by rw [bne_iff_ne]; omega
    generalize tk L σ.k = t at HK h0 q0 ⊢
    obtain ⟨k, o, s, i⟩ := t
    dsimp only at h0 q0
    clear hP h0
    go_enter Tryz.func31, Tryz.ntmps31
    go_wp2_with fail
    refine (HK.out _ (HP.out.alloc _)).mono ?_
    rintro e w1 ⟨rfl, hb1⟩
    have hP1 := ((HP.out.alloc _).next hb1)
    have HP1 := Lib.hid hP1
    have HG1 := Lib.hid ((Gr.one (g := g) w _).low hb1)
    have HR1 := Lib.hid (Box.below (Box.laid w 41 #[.int .i64 0, .int .i64 0, .string ⟨#[]⟩, .int .i64 0]) hb1 (by simp))
    obtain ⟨⟨y0, y1, y2, y3⟩, z0, z1, z2, z3⟩ := box4' HR1.out
    have hlt : w.heap.size < w1.heap.size := by have := hb1.size; simp at this; omega
    obtain ⟨o1, n1, c1, ho, hn1, hc1, ⟨b0, b1, b2, b3, b4⟩, ⟨f0, f1, f2, f3, f4⟩, -, hg1, hgt1, hne, hpos, hle, hcm⟩ := hP1.op
    have h1n : 1 < n1 := by omega
    have HO := Lib.hid ho
    have HN1 := Lib.hid hn1
    have HC1 := Lib.hid hc1
    clear hb1 hP1 ho hn1 hc1
    go_wp2_with fail
    refine post4 Tryz.results31 rfl rfl (((HR1.out.far (p := ⟨g, 0, none⟩) (by show _ ≠ g; omega) _).put4 _ _ _ _).alloc _) ?_
    exact ⟨rfl, ((HG1.out.set 0 _).put4 (Nat.le_refl _) _ _ _ _).alloc _, ((HP1.out.step hn (by rw [HO.out]) (by rw [HN1.out]) (by rw [HC1.out])).far4 (by omega) (by omega) _ _ _ _).alloc _⟩
end Go.Proofs.YthgnelkppibpeaaGreatDoor
