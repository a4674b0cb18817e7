/- The parser's makers of nodes. -/
import Derived.Test.YthgnelkppibpeaaGreatDoorYr
set_option linter.unusedVariables false
set_option linter.unusedSimpArgs false
set_option linter.unusedSectionVars false
namespace Go.Proofs.YthgnelkppibpeaaGreatDoor
open Go.RowKit
/-- The blocks of S, and those from B to below E. -/
def Und (S : Nat → Prop) (B E : Nat) (b : Nat) : Prop := S b ∨ (B ≤ b ∧ b < E)
theorem rs_box {w : World} {h : Nat} {t : TypeId} {cs : Array Value} (hB : Box w h t cs) {S : Nat → Prop} (hS : S h) : Rs w S (some ⟨h, 0, none⟩) cs.toList := by
  intro j u hj
  exact ⟨h, 0, rfl, hS, by rw [Nat.zero_add]; exact hB.cell (by simpa using hj)⟩
/-- A node of these parts. -/
theorem liesF_node {w : World} {S : Nat → Prop} (op : Int) (tx : ByteArray) (htx : tx.size ≤ 140737488355328) {fs : List Ft} {A : Option Addr} {n c : Nat} {xs : List Value} (hn : fs.length = n) (hA : A = none → c = 0) (hc : n ≤ c) (hc2 : c ≤ maxLen) (hn2 : n ≤ 140737488355328) (hR : Rs w S A xs) (hL : LiesFL w S fs xs) :
    LiesF w S (.mk op tx vz [] fs) [.int .i64 op, .string tx, .int .i64 0, .int .i64 0, .string ⟨#[]⟩, .slice none 0 0, .slice none 0 0, .slice none 0 0, .slice A n c] := by
  subst hn
  exact liesF_mk (A := none) (a := 0) ⟨htx, by simp, by simp, hn2⟩ (lies_vz _ _) (fun _ => rfl) hA (by simp [maxLen]) ⟨hc, hc2⟩ (Rs.nil _ _ _) hR hL
def NodePost (S : Nat → Prop) (t : Ft) (w : World) (e : Ending) (w' : World) : Prop := ∃ c0 c1 c2 c3 c4 c5 c6 c7 c8, e = .returned (.agg #[c0, c1, c2, c3, c4, c5, c6, c7, c8]) ∧ Below w.heap.size w w' ∧ LiesF w' (Und S w.heap.size w'.heap.size) t [c0, c1, c2, c3, c4, c5, c6, c7, c8]
set_option maxHeartbeats 4000000 in
set_option maxRecDepth 100000 in
theorem node_any (op : Int) (A : Option Addr) (n c : Nat) (w : World) : Calls Tryz.prog 82 #[.int .i64 op, .slice A n c] w fun e w' => e = .returned (.agg #[.int .i64 op, .string ⟨#[]⟩, .int .i64 0, .int .i64 0, .string ⟨#[]⟩, .slice none 0 0, .slice none 0 0, .slice none 0 0, .slice A n c]) ∧ Below w.heap.size w w' := by
  go_enter Tryz.func82, Tryz.ntmps82
  go_wp2_with fail
  refine post9 Tryz.results82 rfl rfl (Box.laid w _ _) ?_
  exact ⟨rfl, (Below.refl _ _).alloc (Nat.le_refl _) _⟩
theorem below9 {w w' : World} (h : Below w.heap.size w w') {r : Nat} (hr : w.heap.size ≤ r) (u0 u1 u2 u3 u4 u5 u6 u7 u8 : Value) : Below w.heap.size w (((((((((w'.setCell ⟨r, 0, none⟩ u0).setCell ⟨r, 1, none⟩ u1).setCell ⟨r, 2, none⟩ u2).setCell ⟨r, 3, none⟩ u3).setCell ⟨r, 4, none⟩ u4).setCell ⟨r, 5, none⟩ u5).setCell ⟨r, 6, none⟩ u6).setCell ⟨r, 7, none⟩ u7).setCell ⟨r, 8, none⟩ u8) :=
  (((((((((h).setCell (p := ⟨r, 0, none⟩) hr u0).setCell (p := ⟨r, 1, none⟩) hr u1).setCell (p := ⟨r, 2, none⟩) hr u2).setCell (p := ⟨r, 3, none⟩) hr u3).setCell (p := ⟨r, 4, none⟩) hr u4).setCell (p := ⟨r, 5, none⟩) hr u5).setCell (p := ⟨r, 6, none⟩) hr u6).setCell (p := ⟨r, 7, none⟩) hr u7).setCell (p := ⟨r, 8, none⟩) hr u8
/-- The zero filter's cells. -/
def z9 : Array Value := #[.int .i64 0, .string ⟨#[]⟩, .int .i64 0, .int .i64 0, .string ⟨#[]⟩, .slice none 0 0, .slice none 0 0, .slice none 0 0, .slice none 0 0]
section
variable {L : List Fk} {gt C g : Nat} {w w' w0 : World} {σ τ : PS} {r : Nat} {t : Ft}
theorem box9z {T : TypeId} (h : Box w r T z9) : (w.cell? ⟨r, 0, none⟩ = some (.int .i64 0) ∧ w.cell? ⟨r, 1, none⟩ = some (.string ⟨#[]⟩) ∧ w.cell? ⟨r, 2, none⟩ = some (.int .i64 0) ∧ w.cell? ⟨r, 3, none⟩ = some (.int .i64 0) ∧ w.cell? ⟨r, 4, none⟩ = some (.string ⟨#[]⟩) ∧ w.cell? ⟨r, 5, none⟩ = some (.slice none 0 0) ∧ w.cell? ⟨r, 6, none⟩ = some (.slice none 0 0) ∧ w.cell? ⟨r, 7, none⟩ = some (.slice none 0 0) ∧ w.cell? ⟨r, 8, none⟩ = some (.slice none 0 0)) ∧ (w.frozen? ⟨r, 0, none⟩ = false ∧ w.frozen? ⟨r, 1, none⟩ = false ∧ w.frozen? ⟨r, 2, none⟩ = false ∧ w.frozen? ⟨r, 3, none⟩ = false ∧ w.frozen? ⟨r, 4, none⟩ = false ∧ w.frozen? ⟨r, 5, none⟩ = false ∧ w.frozen? ⟨r, 6, none⟩ = false ∧ w.frozen? ⟨r, 7, none⟩ = false ∧ w.frozen? ⟨r, 8, none⟩ = false) := ⟨box9 h, box9f h⟩
theorem Box.put9z {T : TypeId} (h : Box w r T z9) (u0 u1 u2 u3 u4 u5 u6 u7 u8 : Value) : Box (((((((((w.setCell ⟨r, 0, none⟩ u0).setCell ⟨r, 1, none⟩ u1).setCell ⟨r, 2, none⟩ u2).setCell ⟨r, 3, none⟩ u3).setCell ⟨r, 4, none⟩ u4).setCell ⟨r, 5, none⟩ u5).setCell ⟨r, 6, none⟩ u6).setCell ⟨r, 7, none⟩ u7).setCell ⟨r, 8, none⟩ u8) r T #[u0, u1, u2, u3, u4, u5, u6, u7, u8] := Box.put9 h u0 u1 u2 u3 u4 u5 u6 u7 u8
theorem PAt.far9 (h : PAt L gt C g w σ) {r : Nat} (h1 : ¬ r = g) (h2 : ¬ r = gt) (u0 u1 u2 u3 u4 u5 u6 u7 u8 : Value) : PAt L gt C g (((((((((w.setCell ⟨r, 0, none⟩ u0).setCell ⟨r, 1, none⟩ u1).setCell ⟨r, 2, none⟩ u2).setCell ⟨r, 3, none⟩ u3).setCell ⟨r, 4, none⟩ u4).setCell ⟨r, 5, none⟩ u5).setCell ⟨r, 6, none⟩ u6).setCell ⟨r, 7, none⟩ u7).setCell ⟨r, 8, none⟩ u8) σ := (((((((((h).far h1 h2 0 u0).far h1 h2 1 u1).far h1 h2 2 u2).far h1 h2 3 u3).far h1 h2 4 u4).far h1 h2 5 u5).far h1 h2 6 u6).far h1 h2 7 u7).far h1 h2 8 u8
theorem Gr.put9 (h : Gr g w w') {r : Nat} (hr : w.heap.size ≤ r) (u0 u1 u2 u3 u4 u5 u6 u7 u8 : Value) : Gr g w (((((((((w'.setCell ⟨r, 0, none⟩ u0).setCell ⟨r, 1, none⟩ u1).setCell ⟨r, 2, none⟩ u2).setCell ⟨r, 3, none⟩ u3).setCell ⟨r, 4, none⟩ u4).setCell ⟨r, 5, none⟩ u5).setCell ⟨r, 6, none⟩ u6).setCell ⟨r, 7, none⟩ u7).setCell ⟨r, 8, none⟩ u8) := (((((((((h).put hr 0 u0).put hr 1 u1).put hr 2 u2).put hr 3 u3).put hr 4 u4).put hr 5 u5).put hr 6 u6).put hr 7 u7).put hr 8 u8
theorem size9 (w : World) (r : Nat) (u0 u1 u2 u3 u4 u5 u6 u7 u8 : Value) : (((((((((w.setCell ⟨r, 0, none⟩ u0).setCell ⟨r, 1, none⟩ u1).setCell ⟨r, 2, none⟩ u2).setCell ⟨r, 3, none⟩ u3).setCell ⟨r, 4, none⟩ u4).setCell ⟨r, 5, none⟩ u5).setCell ⟨r, 6, none⟩ u6).setCell ⟨r, 7, none⟩ u7).setCell ⟨r, 8, none⟩ u8).heap.size = w.heap.size := by simp [World.setCell]
theorem heap9 (w : World) (r : Nat) (u0 u1 u2 u3 u4 u5 u6 u7 u8 : Value) (b : Nat) (hb : ¬ b = r) : (((((((((w.setCell ⟨r, 0, none⟩ u0).setCell ⟨r, 1, none⟩ u1).setCell ⟨r, 2, none⟩ u2).setCell ⟨r, 3, none⟩ u3).setCell ⟨r, 4, none⟩ u4).setCell ⟨r, 5, none⟩ u5).setCell ⟨r, 6, none⟩ u6).setCell ⟨r, 7, none⟩ u7).setCell ⟨r, 8, none⟩ u8).heap[b]? = w.heap[b]? := by
  repeat rw [Below.heap_setCell _ _ _ _ (by exact hb)]
/-- The blocks from B to below E. -/
def Nw (B E b : Nat) : Prop := B ≤ b ∧ b < E
/-- What a rule's method hands back. -/
def RetF (L : List Fk) (gt C g : Nat) (w : World) (t : Ft) (τ : PS) (e : Ending) (w' : World) : Prop := ∃ c0 c1 c2 c3 c4 c5 c6 c7 c8, e = .returned (.agg #[c0, c1, c2, c3, c4, c5, c6, c7, c8]) ∧ Gr g w w' ∧ PAt L gt C g w' τ ∧ LiesF w' (Nw w.heap.size w'.heap.size) t [c0, c1, c2, c3, c4, c5, c6, c7, c8]
/-- The function with this number does what m says. -/
def OkF (L : List Fk) (gt C g : Nat) (f : Nat) (m : PM) : Prop := ∀ W σ t τ, PAt L gt C g W σ → m σ = some (t, τ) → Calls Tryz.prog f #[.pointer (some ⟨g, 0, none⟩)] W (RetF L gt C g W t τ)
/-- Within a method that began in w0: its result's box lies in the first new block. -/
structure RSt (L : List Fk) (gt C g : Nat) (w0 w : World) (σ : PS) : Prop where
  p : PAt L gt C g w σ
  gr : Gr g w0 w
  r : Box w w0.heap.size 29 z9
  g0 : g < w0.heap.size
  gt0 : gt < w0.heap.size
theorem RSt.lt (h : RSt L gt C g w0 w σ) : w0.heap.size < w.heap.size := h.r.lt
theorem RSt.start (h : PAt L gt C g w σ) : RSt L gt C g w (w.alloc (.cells z9 29)) σ := ⟨h.alloc _, Gr.one _ _, Box.laid _ _ _, h.glt, h.gtlt⟩
theorem RSt.next (h : RSt L gt C g w0 w σ) (hg : Gr g w w') (hp : PAt L gt C g w' τ) : RSt L gt C g w0 w' τ :=
  ⟨hp, h.gr.trans hg, h.r.grown hg (by intro e; injection e with e; have := h.g0; omega), h.g0, h.gt0⟩
theorem RSt.low (h : RSt L gt C g w0 w σ) (hb : Below w.heap.size w w') : RSt L gt C g w0 w' σ := h.next (Gr.below hb) (h.p.next hb)
theorem RSt.alloc (h : RSt L gt C g w0 w σ) (o : Obj) : RSt L gt C g w0 (w.alloc o) σ := h.low ((Below.refl _ _).alloc (Nat.le_refl _) o)
theorem RSt.drew (h : RSt L gt C g w0 w σ) : RSt L gt C g w0 w.drew σ := h.low (Below.refl _ _).drew
/-- A tree of the call's own. -/
def TreeAt (w0 w : World) (t : Ft) (cs : List Value) : Prop := LiesF w (Nw (w0.heap.size + 1) w.heap.size) t cs
theorem TreeAt.of {W : World} {cs : List Value} (hl : LiesF w (Nw W.heap.size w.heap.size) t cs) (h : w0.heap.size < W.heap.size) : TreeAt w0 w t cs :=
  LiesF.move hl fun b hb => ⟨⟨Nat.le_trans h hb.1, hb.2⟩, rfl⟩
theorem TreeAt.next {cs : List Value} (h : TreeAt w0 w t cs) (hg : Gr g w w') (h0 : g < w0.heap.size) : TreeAt w0 w' t cs :=
  LiesF.move h fun b hb => ⟨⟨hb.1, Nat.lt_of_lt_of_le hb.2 hg.size⟩, hg.block hb.2 (by have := hb.1; omega)⟩
theorem TreeAt.low {cs : List Value} (h : TreeAt w0 w t cs) (hb : Below w.heap.size w w') : TreeAt w0 w' t cs :=
  LiesF.move h fun b hb' => ⟨⟨hb'.1, Nat.lt_of_lt_of_le hb'.2 hb.size⟩, hb.block b hb'.2⟩
theorem TreeAt.alloc {cs : List Value} (h : TreeAt w0 w t cs) (o : Obj) : TreeAt w0 (w.alloc o) t cs := h.low ((Below.refl _ _).alloc (Nat.le_refl _) o)
/-- The result is put into its box. -/
theorem RSt.close (h : RSt L gt C g w0 w σ) {u0 u1 u2 u3 u4 u5 u6 u7 u8 : Value} (hl : TreeAt w0 w t [u0, u1, u2, u3, u4, u5, u6, u7, u8]) : RetF L gt C g w0 t σ (.returned (.agg #[u0, u1, u2, u3, u4, u5, u6, u7, u8])) (((((((((w.setCell ⟨w0.heap.size, 0, none⟩ u0).setCell ⟨w0.heap.size, 1, none⟩ u1).setCell ⟨w0.heap.size, 2, none⟩ u2).setCell ⟨w0.heap.size, 3, none⟩ u3).setCell ⟨w0.heap.size, 4, none⟩ u4).setCell ⟨w0.heap.size, 5, none⟩ u5).setCell ⟨w0.heap.size, 6, none⟩ u6).setCell ⟨w0.heap.size, 7, none⟩ u7).setCell ⟨w0.heap.size, 8, none⟩ u8) := by
  have h1 := h.g0
  have h2 := h.gt0
  refine ⟨_, _, _, _, _, _, _, _, _, rfl, h.gr.put9 (Nat.le_refl _) _ _ _ _ _ _ _ _ _, h.p.far9 (by omega) (by omega) _ _ _ _ _ _ _ _ _, LiesF.move hl fun b hb => ?_⟩
  rw [size9]
  exact ⟨⟨by have := hb.1; omega, hb.2⟩, heap9 _ _ _ _ _ _ _ _ _ _ _ b (by have := hb.1; omega)⟩
theorem RSt.cells (h : RSt L gt C g w0 w σ) : (w.cell? ⟨w0.heap.size, 0, none⟩ = some (.int .i64 0) ∧ w.cell? ⟨w0.heap.size, 1, none⟩ = some (.string ⟨#[]⟩) ∧ w.cell? ⟨w0.heap.size, 2, none⟩ = some (.int .i64 0) ∧ w.cell? ⟨w0.heap.size, 3, none⟩ = some (.int .i64 0) ∧ w.cell? ⟨w0.heap.size, 4, none⟩ = some (.string ⟨#[]⟩) ∧ w.cell? ⟨w0.heap.size, 5, none⟩ = some (.slice none 0 0) ∧ w.cell? ⟨w0.heap.size, 6, none⟩ = some (.slice none 0 0) ∧ w.cell? ⟨w0.heap.size, 7, none⟩ = some (.slice none 0 0) ∧ w.cell? ⟨w0.heap.size, 8, none⟩ = some (.slice none 0 0)) ∧ (w.frozen? ⟨w0.heap.size, 0, none⟩ = false ∧ w.frozen? ⟨w0.heap.size, 1, none⟩ = false ∧ w.frozen? ⟨w0.heap.size, 2, none⟩ = false ∧ w.frozen? ⟨w0.heap.size, 3, none⟩ = false ∧ w.frozen? ⟨w0.heap.size, 4, none⟩ = false ∧ w.frozen? ⟨w0.heap.size, 5, none⟩ = false ∧ w.frozen? ⟨w0.heap.size, 6, none⟩ = false ∧ w.frozen? ⟨w0.heap.size, 7, none⟩ = false ∧ w.frozen? ⟨w0.heap.size, 8, none⟩ = false) := box9z h.r
end
/-- A call that hands back a leaf. -/
def LeafPost (op : Int) (tx : ByteArray) (k n : Int) (s : ByteArray) (w : World) (e : Ending) (w' : World) : Prop := e = .returned (.agg #[.int .i64 op, .string tx, .int .i64 k, .int .i64 n, .string s, .slice none 0 0, .slice none 0 0, .slice none 0 0, .slice none 0 0]) ∧ Below w.heap.size w w'
set_option maxHeartbeats 4000000 in
set_option maxRecDepth 100000 in
theorem ident_any (w : World) : Calls Tryz.prog 175 #[] w (LeafPost 1 ⟨#[]⟩ 0 0 ⟨#[]⟩ w) := by
  have HN := Lib.hid (fun W => node_any 1 none 0 0 W)
  go_enter Tryz.func175, Tryz.ntmps175
  go_wp2_with fail
  refine (HN.out _).mono ?_
  rintro e w1 ⟨rfl, hb1⟩
  have HB := Lib.hid ((Box.laid w 29 #[.int .i64 0, .string ⟨#[]⟩, .int .i64 0, .int .i64 0, .string ⟨#[]⟩, .slice none 0 0, .slice none 0 0, .slice none 0 0, .slice none 0 0]).below hb1 (by simp))
  obtain ⟨y0, y1, y2, y3, y4, y5, y6, y7, y8⟩ := box9 HB.out
  obtain ⟨z0, z1, z2, z3, z4, z5, z6, z7, z8⟩ := box9f HB.out
  have H1 := Lib.hid (((Below.refl w.heap.size w).alloc (Nat.le_refl _) _).trans (hb1.mono (by simp)))
  clear hb1
  go_wp2_with fail
  refine post9 Tryz.results175 rfl rfl (HB.out.put9 _ _ _ _ _ _ _ _ _) ?_
  exact ⟨rfl, below9 H1.out (Nat.le_refl _) _ _ _ _ _ _ _ _ _⟩
end Go.Proofs.YthgnelkppibpeaaGreatDoor
