import Derived.Test.YtoleoimmpggldaaGreatDoorYz
import Derived.Test.YtoleoimmpggldaaGreatDoorRP
set_option linter.unusedVariables false
set_option linter.unusedSimpArgs false
set_option linter.unusedSectionVars false
set_option maxHeartbeats 10000000
set_option maxRecDepth 100000
namespace Go.Proofs.YtoleoimmpggldaaGreatDoor.Rx
open Go.RowKit
def pcells (L : List Fk) (gt C : Nat) (σ : PS) : Array Value := #[.slice (some ⟨gt, 0, none⟩) L.length C, ι σ.k, .bool σ.bad, ι σ.long]
structure PAt (L : List Fk) (gt C g : Nat) (w : World) (σ : PS) : Prop where
 lt : σ.k < L.length
 ne : gt ≠ g
 gtlt : gt < w.heap.size
 cap : L.length ≤ C
 capm : L.length ≤ 4096
 box : Box w g 49 (pcells L gt C σ)
 row : ∀ j u, (rowK L)[j]? = some u → w.cell? ⟨gt, j, none⟩ = some u
section
variable {L : List Fk} {gt C g : Nat} {w w' : World} {σ : PS}
theorem PAt.glt (h : PAt L gt C g w σ) : g < w.heap.size := h.box.lt
theorem PAt.below (h : PAt L gt C g w σ) {B : Nat} (hb : Below B w w') (hB : w.heap.size ≤ B) : PAt L gt C g w' σ :=
 ⟨h.lt, h.ne, nT h.gtlt hb.size, h.cap, h.capm, h.box.below hb (by have := h.glt; omega), fun j u hj => (hb.cell (p := ⟨gt, j, none⟩) (by have := h.gtlt; show gt < _; omega)).trans (h.row j u hj)⟩
theorem PAt.next (h : PAt L gt C g w σ) (hb : Below w.heap.size w w') : PAt L gt C g w' σ := h.below hb (Nat.le_refl _)
theorem PAt.alloc (h : PAt L gt C g w σ) (o : Obj) : PAt L gt C g (w.alloc o) σ := h.next ((Below.refl _ _).alloc (Nat.le_refl _) o)
theorem PAt.tok (h : PAt L gt C g w σ) {k : Nat} (hk : k < L.length) : w.cell? ⟨gt, k * 4, none⟩ = some (ι (tk L k).k) ∧ w.cell? ⟨gt, k * 4 + 1, none⟩ = some (ι (tk L k).o) ∧ w.cell? ⟨gt, k * 4 + 2, none⟩ = some (.string (tk L k).s) ∧ w.cell? ⟨gt, k * 4 + 3, none⟩ = some (ι (tk L k).i) :=
 ⟨h.row _ _ (rowK_at L k hk 0 (by omega)), h.row _ _ (rowK_at L k hk 1 (by omega)), h.row _ _ (rowK_at L k hk 2 (by omega)), h.row _ _ (rowK_at L k hk 3 (by omega))⟩
end
theorem PAt.op {L : List Fk} {gt C g : Nat} {w : World} {σ : PS} (h : PAt L gt C g w σ) : ∃ o n : Nat, σ.k * 4 = o ∧ L.length = n ∧
 (w.cell? ⟨g, 0, none⟩ = some (.slice (some ⟨gt, 0, none⟩) n C) ∧ w.cell? ⟨g, 1, none⟩ = some (ι σ.k) ∧ w.cell? ⟨g, 2, none⟩ = some (.bool σ.bad) ∧ w.cell? ⟨g, 3, none⟩ = some (ι σ.long)) ∧
 (w.frozen? ⟨g, 0, none⟩ = false ∧ w.frozen? ⟨g, 1, none⟩ = false ∧ w.frozen? ⟨g, 2, none⟩ = false ∧ w.frozen? ⟨g, 3, none⟩ = false) ∧
 (w.cell? ⟨gt, o, none⟩ = some (ι (tk L σ.k).k) ∧ w.cell? ⟨gt, o + 1, none⟩ = some (ι (tk L σ.k).o) ∧ w.cell? ⟨gt, o + 2, none⟩ = some (.string (tk L σ.k).s) ∧ w.cell? ⟨gt, o + 3, none⟩ = some (ι (tk L σ.k).i)) ∧
 g < w.heap.size ∧ gt < w.heap.size ∧ ¬ gt = g ∧ σ.k < n ∧ n ≤ C ∧ n ≤ 4096 :=
 ⟨_, _, rfl, rfl, (box4' h.box).1, (box4' h.box).2, h.tok h.lt, h.glt, h.gtlt, h.ne, h.lt, h.cap, h.capm⟩
section
variable {L : List Fk} {gt C g : Nat} {w w' : World} {σ : PS}
theorem PAt.far (h : PAt L gt C g w σ) {r : Nat} (h1 : ¬ r = g) (h2 : ¬ r = gt) (i : Nat) (u : Value) : PAt L gt C g (w.setCell ⟨r, i, none⟩ u) σ :=
 ⟨h.lt, h.ne, by have := h.gtlt; simpa [World.setCell] using this, h.cap, h.capm, h.box.far (p := ⟨r, i, none⟩) (fun e => h1 e.symm) u, fun j u' hj => by
  rw [World.cell?_of_block (w := w) (Below.heap_setCell w ⟨r, i, none⟩ u gt (fun e => h2 e.symm))]; exact h.row j u' hj⟩
theorem PAt.own (h : PAt L gt C g w σ) {τ : PS} (i : Nat) (u : Value) (hk : τ.k < L.length) (he : (pcells L gt C σ).setIfInBounds i u = pcells L gt C τ) : PAt L gt C g (w.setCell ⟨g, i, none⟩ u) τ :=
 ⟨hk, h.ne, by have := h.gtlt; simpa [World.setCell] using this, h.cap, h.capm, by have := h.box.put i u; rw [he] at this; exact this, fun j u' hj => by
  rw [World.cell?_of_block (w := w) (Below.heap_setCell w ⟨g, i, none⟩ u gt (fun e => h.ne e))]; exact h.row j u' hj⟩
theorem PAt.step (h : PAt L gt C g w σ) (hk : σ.k + 1 < L.length) {n : Int} (hn : (σ.k : Int) + 1 = n) : PAt L gt C g (w.setCell ⟨g, 1, none⟩ (ι n)) (adv σ) := by
 subst hn;refine h.own 1 _ hk ?_;unfold pcells adv
 show (#[_, _, _, _] : Array Value) = _
 rw [show ((σ.k + 1 : Nat) : Int) = (σ.k : Int) + 1 by omega]
theorem PAt.wrong (h : PAt L gt C g w σ) : PAt L gt C g (w.setCell ⟨g, 2, none⟩ (.bool true)) (wr σ) := h.own 2 _ h.lt rfl
theorem PAt.far4 (h : PAt L gt C g w σ) {r : Nat} (h1 : ¬ r = g) (h2 : ¬ r = gt) (u0 u1 u2 u3 : Value) : PAt L gt C g ((((w.setCell ⟨r, 0, none⟩ u0).setCell ⟨r, 1, none⟩ u1).setCell ⟨r, 2, none⟩ u2).setCell ⟨r, 3, none⟩ u3) σ :=
 (((h.far h1 h2 0 u0).far h1 h2 1 u1).far h1 h2 2 u2).far h1 h2 3 u3
theorem PAt.drew (h : PAt L gt C g w σ) : PAt L gt C g w.drew σ := h.next (Below.refl _ _).drew
end
def TakePost (L : List Fk) (gt C g : Nat) (w : World) (b : Bool) (τ : PS) (e : Ending) (w' : World) : Prop := e = .returned (.bool b) ∧ Gr g w w' ∧ PAt L gt C g w' τ
def DonePost (L : List Fk) (gt C g : Nat) (w : World) (τ : PS) (e : Ending) (w' : World) : Prop := e = .returned (.tuple #[]) ∧ Gr g w w' ∧ PAt L gt C g w' τ
def KindPost (L : List Fk) (gt C g : Nat) (w : World) (t : Fk) (τ : PS) (e : Ending) (w' : World) : Prop := e = .returned (.agg #[ι t.k, ι t.o, .string t.s, ι t.i]) ∧ Gr g w w' ∧ PAt L gt C g w' τ
section
variable {L : List Fk} {gt C g : Nat} {w w' w0 : World} {σ τ : PS} {r : Nat} {t : Ft}
theorem PAt.far9 (h : PAt L gt C g w σ) {r : Nat} (h1 : ¬ r = g) (h2 : ¬ r = gt) (u0 u1 u2 u3 u4 u5 u6 u7 u8 : Value) : PAt L gt C g (((((((((w.setCell ⟨r, 0, none⟩ u0).setCell ⟨r, 1, none⟩ u1).setCell ⟨r, 2, none⟩ u2).setCell ⟨r, 3, none⟩ u3).setCell ⟨r, 4, none⟩ u4).setCell ⟨r, 5, none⟩ u5).setCell ⟨r, 6, none⟩ u6).setCell ⟨r, 7, none⟩ u7).setCell ⟨r, 8, none⟩ u8) σ := (((((((((h).far h1 h2 0 u0).far h1 h2 1 u1).far h1 h2 2 u2).far h1 h2 3 u3).far h1 h2 4 u4).far h1 h2 5 u5).far h1 h2 6 u6).far h1 h2 7 u7).far h1 h2 8 u8
def RetF (L : List Fk) (gt C g : Nat) (w : World) (t : Ft) (τ : PS) (e : Ending) (w' : World) : Prop := ∃ c0 c1 c2 c3 c4 c5 c6 c7 c8, e = .returned (.agg #[c0, c1, c2, c3, c4, c5, c6, c7, c8]) ∧ Gr g w w' ∧ PAt L gt C g w' τ ∧ LiesF w' (Nw w.heap.size w'.heap.size) t [c0, c1, c2, c3, c4, c5, c6, c7, c8]
def OkF (L : List Fk) (gt C g : Nat) (f : Nat) (m : PM) : Prop := ∀ W σ t τ, PAt L gt C g W σ → m σ = some (t, τ) → Calls Tryz.prog f #[.pointer (some ⟨g, 0, none⟩)] W (RetF L gt C g W t τ)
structure RSt (L : List Fk) (gt C g : Nat) (w0 w : World) (σ : PS) : Prop where
 p : PAt L gt C g w σ
 gr : Gr g w0 w
 r : Box w w0.heap.size 29 z9
 g0 : g < w0.heap.size
 gt0 : gt < w0.heap.size
theorem RSt.lt (h : RSt L gt C g w0 w σ) : w0.heap.size < w.heap.size := h.r.lt
theorem RSt.start (h : PAt L gt C g w σ) : RSt L gt C g w (w.alloc (.cells z9 29)) σ := ⟨h.alloc _, Gr.one _ _, Box.laid _ _ _, h.glt, h.gtlt⟩
theorem RSt.next (h : RSt L gt C g w0 w σ) (hg : Gr g w w') (hp : PAt L gt C g w' τ) : RSt L gt C g w0 w' τ :=
 ⟨hp, h.gr.trans hg, h.r.grown hg (by intro e; injection e with e; have := h.g0; omega), h.g0, h.gt0⟩
theorem RSt.low (h : RSt L gt C g w0 w σ) (hb : Below w.heap.size w w') : RSt L gt C g w0 w' σ := h.next (Gr.below hb) (h.p.next hb)
theorem RSt.alloc (h : RSt L gt C g w0 w σ) (o : Obj) : RSt L gt C g w0 (w.alloc o) σ := h.low ((Below.refl _ _).alloc (Nat.le_refl _) o)
theorem RSt.drew (h : RSt L gt C g w0 w σ) : RSt L gt C g w0 w.drew σ := h.low (Below.refl _ _).drew
theorem RSt.close (h : RSt L gt C g w0 w σ) {u0 u1 u2 u3 u4 u5 u6 u7 u8 : Value} (hl : TreeAt w0 w t [u0, u1, u2, u3, u4, u5, u6, u7, u8]) : RetF L gt C g w0 t σ (.returned (.agg #[u0, u1, u2, u3, u4, u5, u6, u7, u8])) (((((((((w.setCell ⟨w0.heap.size, 0, none⟩ u0).setCell ⟨w0.heap.size, 1, none⟩ u1).setCell ⟨w0.heap.size, 2, none⟩ u2).setCell ⟨w0.heap.size, 3, none⟩ u3).setCell ⟨w0.heap.size, 4, none⟩ u4).setCell ⟨w0.heap.size, 5, none⟩ u5).setCell ⟨w0.heap.size, 6, none⟩ u6).setCell ⟨w0.heap.size, 7, none⟩ u7).setCell ⟨w0.heap.size, 8, none⟩ u8) := by
 have h1 := h.g0;have h2 := h.gt0;refine ⟨_, _, _, _, _, _, _, _, _, rfl, h.gr.put9 (Nat.le_refl _) _ _ _ _ _ _ _ _ _, h.p.far9 (by omega) (by omega) _ _ _ _ _ _ _ _ _, LiesF.move hl fun b hb => ?_⟩;rw [size9];exact ⟨⟨by have := hb.1; omega, hb.2⟩, heap9 _ _ _ _ _ _ _ _ _ _ _ b (by have := hb.1; omega)⟩
theorem RSt.cells (h : RSt L gt C g w0 w σ) : (w.cell? ⟨w0.heap.size, 0, none⟩ = some (ι 0) ∧ w.cell? ⟨w0.heap.size, 1, none⟩ = some eS ∧ w.cell? ⟨w0.heap.size, 2, none⟩ = some (ι 0) ∧ w.cell? ⟨w0.heap.size, 3, none⟩ = some (ι 0) ∧ w.cell? ⟨w0.heap.size, 4, none⟩ = some eS ∧ w.cell? ⟨w0.heap.size, 5, none⟩ = some nL ∧ w.cell? ⟨w0.heap.size, 6, none⟩ = some nL ∧ w.cell? ⟨w0.heap.size, 7, none⟩ = some nL ∧ w.cell? ⟨w0.heap.size, 8, none⟩ = some nL) ∧ (w.frozen? ⟨w0.heap.size, 0, none⟩ = false ∧ w.frozen? ⟨w0.heap.size, 1, none⟩ = false ∧ w.frozen? ⟨w0.heap.size, 2, none⟩ = false ∧ w.frozen? ⟨w0.heap.size, 3, none⟩ = false ∧ w.frozen? ⟨w0.heap.size, 4, none⟩ = false ∧ w.frozen? ⟨w0.heap.size, 5, none⟩ = false ∧ w.frozen? ⟨w0.heap.size, 6, none⟩ = false ∧ w.frozen? ⟨w0.heap.size, 7, none⟩ = false ∧ w.frozen? ⟨w0.heap.size, 8, none⟩ = false) := box9z h.r
end
theorem Bx.lt {w : World} {q : Nat} {c : Array Value} (h : ∃ T, Box w q T c) : q < w.heap.size := h.elim fun _ h => h.lt
def Own (S : Nat → Prop) (w0 w : World) (bs : List (Nat × Array Value)) (b : Nat) : Prop := S b ∨ (w0.heap.size < b ∧ b < w.heap.size ∧ ∀ q ∈ bs, b ≠ q.1)
structure St (S : Nat → Prop) (L : List Fk) (gt C g : Nat) (w0 w : World) (σ : PS) (bs : List (Nat × Array Value)) (ts : List (Ft × List Value)) : Prop where
 r : RSt L gt C g w0 w σ
 hS : ∀ b, S b → b < w0.heap.size ∧ b ≠ g
 b : ∀ q ∈ bs, w0.heap.size < q.1 ∧ ∃ T, Box w q.1 T q.2
 t : ∀ x ∈ ts, LiesF w (Own S w0 w bs) x.1 x.2
def RetU (S : Nat → Prop) (L : List Fk) (gt C g : Nat) (w : World) (t : Ft) (τ : PS) (e : Ending) (w' : World) : Prop := ∃ c0 c1 c2 c3 c4 c5 c6 c7 c8, e = .returned (.agg #[c0, c1, c2, c3, c4, c5, c6, c7, c8]) ∧ Gr g w w' ∧ PAt L gt C g w' τ ∧ LiesF w' (Und S w.heap.size w'.heap.size) t [c0, c1, c2, c3, c4, c5, c6, c7, c8]
def noS : Nat → Prop := fun _ => False
theorem retF_of {L : List Fk} {gt C g : Nat} {w w' : World} {t : Ft} {τ : PS} {e : Ending} (h : RetU noS L gt C g w t τ e w') : RetF L gt C g w t τ e w' := by
 obtain ⟨c0, c1, c2, c3, c4, c5, c6, c7, c8, h1, h2, h3, h4⟩ := h;exact ⟨c0, c1, c2, c3, c4, c5, c6, c7, c8, h1, h2, h3, LiesF.move h4 fun b hb => ⟨hb.elim (fun h => h.elim) id, rfl⟩⟩
section
variable {S : Nat → Prop} {L : List Fk} {gt C g : Nat} {w w' w0 : World} {σ τ : PS} {bs : List (Nat × Array Value)} {ts : List (Ft × List Value)} {t : Ft} {cs : List Value}
theorem St.start (h : PAt L gt C g w σ) (hS : ∀ b, S b → b < w.heap.size ∧ b ≠ g) : St S L gt C g w (w.alloc (.cells z9 29)) σ [] [] :=
 ⟨RSt.start h, hS, fun q hq => by simp at hq, fun x hx => by simp at hx⟩
theorem St.begin (h : PAt L gt C g w σ) : St noS L gt C g w (w.alloc (.cells z9 29)) σ [] [] := St.start h fun b hb => hb.elim
theorem St.lt (h : St S L gt C g w0 w σ bs ts) : w0.heap.size < w.heap.size := h.r.lt
theorem Own.gr (h : St S L gt C g w0 w σ bs ts) (hg : Gr g w w') : ∀ b, Own S w0 w bs b → Own S w0 w' bs b ∧ w'.heap[b]? = w.heap[b]? := by
 intro b hb;have h1 := h.r.g0;have h2 := h.lt;rcases hb with hb | ⟨a1, a2, a3⟩
 · have := h.hS b hb;exact ⟨.inl hb, hg.block (by omega) this.2⟩
 · exact ⟨.inr ⟨a1, nT a2 hg.size, a3⟩, hg.block a2 (by omega)⟩
theorem St.next (h : St S L gt C g w0 w σ bs ts) (hg : Gr g w w') (hp : PAt L gt C g w' τ) : St S L gt C g w0 w' τ bs ts :=
 ⟨h.r.next hg hp, h.hS, fun q hq => ⟨(h.b q hq).1, (h.b q hq).2.imp fun T hT => hT.grown hg (by intro e; injection e with e; have := h.r.g0; have := (h.b q hq).1; omega)⟩, fun x hx => LiesF.move (h.t x hx) (Own.gr h hg)⟩
theorem St.low (h : St S L gt C g w0 w σ bs ts) (hb : Below w.heap.size w w') : St S L gt C g w0 w' σ bs ts := h.next (Gr.below hb) (h.r.p.next hb)
theorem St.alloc (h : St S L gt C g w0 w σ bs ts) (o : Obj) : St S L gt C g w0 (w.alloc o) σ bs ts := h.low ((Below.refl _ _).alloc (Nat.le_refl _) o)
theorem St.drew (h : St S L gt C g w0 w σ bs ts) : St S L gt C g w0 w.drew σ bs ts := h.low (Below.refl _ _).drew
theorem St.boxT (h : St S L gt C g w0 w σ bs ts) (T : TypeId) (cs : Array Value) : St S L gt C g w0 (w.alloc (.cells cs T)) σ ((w.heap.size, cs) :: bs) ts := by
 have h2 := h.alloc (.cells cs T);refine ⟨h2.r, h2.hS, fun q hq => ?_, fun x hx => LiesF.move (h.t x hx) fun b hb => ?_⟩
 · rcases List.mem_cons.1 hq with rfl | hq
   · exact ⟨h.lt, _, Box.laid _ _ _⟩
   · exact h2.b q hq
 · rcases hb with hb | ⟨a1, a2, a3⟩
   · have := h.hS b hb;have := h.lt;exact ⟨.inl hb, Below.heap_alloc _ _ _ (by omega)⟩
   · refine ⟨.inr ⟨a1, by simp; omega, fun q hq => ?_⟩, Below.heap_alloc _ _ _ a2⟩;rcases List.mem_cons.1 hq with rfl | hq
     · show b ≠ w.heap.size; omega
     · exact a3 q hq
theorem St.box (h : St S L gt C g w0 w σ bs ts) (cs : Array Value) : St S L gt C g w0 (w.alloc (.cells cs 29)) σ ((w.heap.size, cs) :: bs) ts := h.boxT _ cs
theorem St.tree (h : St S L gt C g w0 w σ bs ts) (h' : St S L gt C g w0 w' τ bs ts) (hl : LiesF w' (Nw w.heap.size w'.heap.size) t cs) : St S L gt C g w0 w' τ bs ((t, cs) :: ts) :=
 ⟨h'.r, h'.hS, h'.b, fun x hx => by
  rcases List.mem_cons.1 hx with rfl | hx
  · exact LiesF.move hl fun b hb => ⟨.inr ⟨nT h.lt hb.1, hb.2, fun q hq => by have := Bx.lt (h.b q hq).2; have := hb.1; omega⟩, rfl⟩
  · exact h'.t x hx⟩
theorem St.call (h : St S L gt C g w0 w σ bs ts) (hg : Gr g w w') (hp : PAt L gt C g w' τ) (hl : LiesF w' (Nw w.heap.size w'.heap.size) t cs) : St S L gt C g w0 w' τ bs ((t, cs) :: ts) := h.tree (h.next hg hp) hl
theorem St.leaf (h : St S L gt C g w0 w σ bs ts) (op : Int) (tx : ByteArray) (k n : Int) (s : ByteArray) (htx : tx.size ≤ 140737488355328) (hs : s.size ≤ 140737488355328) : St S L gt C g w0 w σ bs ((.mk op tx (.mk k n s [] []) [] [], [ι op, .string tx, ι k, ι n, .string s, nL, nL, nL, nL]) :: ts) :=
 ⟨h.r, h.hS, h.b, fun x hx => by
  rcases List.mem_cons.1 hx with rfl | hx
  · exact liesF_leaf _ _ _ _ _ htx (lies_leaf _ _ _ _ _ hs)
  · exact h.t x hx⟩
theorem St.given (h : St S L gt C g w0 w σ bs ts) (hl : LiesF w0 S t cs) : St S L gt C g w0 w σ bs ((t, cs) :: ts) :=
 ⟨h.r, h.hS, h.b, fun x hx => by
  rcases List.mem_cons.1 hx with rfl | hx
  · exact LiesF.move hl fun b hb => ⟨.inl hb, h.r.gr.block (h.hS b hb).1 (h.hS b hb).2⟩
  · exact h.t x hx⟩
theorem St.node (h : St S L gt C g w0 w σ bs ts) (op : Int) (tx : ByteArray) (htx : tx.size ≤ 140737488355328) {fs : List Ft} {row : Array Value} {n : Nat} (hn : fs.length = n) (hn2 : n ≤ 100) (hL : LiesFL w (Own S w0 w bs) fs row.toList) {q : Nat} (hq : w.heap.size = q) :
 St S L gt C g w0 (w.alloc (.cells row 29)) σ bs ((.mk op tx vz [] fs, [ι op, .string tx, ι 0, ι 0, eS, nL, nL, nL, .slice (some ⟨q, 0, none⟩) n n]) :: ts) := by
 subst hq;have h2 := h.alloc (.cells row 29);refine ⟨h2.r, h2.hS, h2.b, fun x hx => ?_⟩;rcases List.mem_cons.1 hx with rfl | hx
 · refine liesF_node op tx htx hn (by simp) (Nat.le_refl _) (by unfold maxLen; omega) (by omega) (rs_box (Box.laid _ _ _) (.inr ⟨h.lt, by simp, fun q hq => by have := Bx.lt (h.b q hq).2; omega⟩)) (LiesFL.move hL fun b hb => Own.gr h (Gr.one _ _) b hb)
 · exact h2.t x hx
theorem St.set {q : Nat} {c0 c1 c2 c3 c4 c5 c6 c7 c8 : Value} (h : St S L gt C g w0 w σ ((q, #[c0, c1, c2, c3, c4, c5, c6, c7, c8]) :: bs) ts) (hne : ∀ x ∈ bs, x.1 ≠ q) (i : Nat) (u : Value) {ds : Array Value} (hd : (#[c0, c1, c2, c3, c4, c5, c6, c7, c8] : Array Value).setIfInBounds i u = ds) :
 St S L gt C g w0 (w.setCell ⟨q, i, none⟩ u) σ ((q, ds) :: bs) ts := by
 have h0 := (h.b (q, _) mC).1;obtain ⟨T, h1⟩ := (h.b (q, _) mC).2;have hg := h.r.g0;have hgt := h.r.gt0;dsimp only at h0 h1;have hsz : (w.setCell ⟨q, i, none⟩ u).heap.size = w.heap.size := by simp [World.setCell]
 refine ⟨⟨h.r.p.far (by omega) (by omega) i u, h.r.gr.put (by omega) i u, h.r.r.far (p := ⟨q, i, none⟩) (by show _ ≠ q; omega) u, hg, hgt⟩, h.hS, fun x hx => ?_, fun x hx => LiesF.move (h.t x hx) fun b hb => ?_⟩
 · rcases List.mem_cons.1 hx with rfl | hx
   · refine ⟨h0, ?_⟩;have := h1.put i u;rw [hd] at this;exact ⟨T, this⟩
   · exact ⟨(h.b x (by simp [hx])).1, (h.b x (by simp [hx])).2.imp fun T hT => hT.far (p := ⟨q, i, none⟩) (hne x hx) u⟩
 · have hbq : b ≠ q := by
    rcases hb with hb | ⟨_, _, a3⟩
    · have := h.hS b hb; omega
    · exact a3 (q, _) mC
   refine ⟨?_, Below.heap_setCell _ _ _ _ hbq⟩;rcases hb with hb | ⟨a1, a2, a3⟩
   · exact .inl hb
   · refine .inr ⟨a1, by rw [hsz]; exact a2, fun x hx => ?_⟩;rcases List.mem_cons.1 hx with rfl | hx
     · exact hbq
     · exact a3 x (by simp [hx])
theorem St.perm (h : St S L gt C g w0 w σ bs ts) {bs' : List (Nat × Array Value)} (hp : ∀ x, x ∈ bs' ↔ x ∈ bs) : St S L gt C g w0 w σ bs' ts :=
 ⟨h.r, h.hS, fun q hq => h.b q ((hp q).1 hq), fun x hx => LiesF.move (h.t x hx) fun b hb => ⟨hb.imp id fun a => ⟨a.1, a.2.1, fun q hq => a.2.2 q ((hp q).1 hq)⟩, rfl⟩⟩
theorem St.bx (h : St S L gt C g w0 w σ bs ts) {q : Nat} {c : Array Value} (hq : (q, c) ∈ bs) : Box w q (Classical.choose (h.b _ hq).2) c := Classical.choose_spec (h.b _ hq).2
theorem St.put (h : St S L gt C g w0 w σ bs ts) {x : Ft × List Value} (hx : LiesF w (Own S w0 w bs) x.1 x.2) : St S L gt C g w0 w σ bs (x :: ts) :=
 ⟨h.r, h.hS, h.b, fun y hy => by
  rcases List.mem_cons.1 hy with rfl | hy
  · exact hx
  · exact h.t y hy⟩
theorem St.close (h : St S L gt C g w0 w σ bs ts) {u0 u1 u2 u3 u4 u5 u6 u7 u8 : Value} (hx : (t, [u0, u1, u2, u3, u4, u5, u6, u7, u8]) ∈ ts) : RetU S L gt C g w0 t σ (.returned (.agg #[u0, u1, u2, u3, u4, u5, u6, u7, u8])) (((((((((w.setCell ⟨w0.heap.size, 0, none⟩ u0).setCell ⟨w0.heap.size, 1, none⟩ u1).setCell ⟨w0.heap.size, 2, none⟩ u2).setCell ⟨w0.heap.size, 3, none⟩ u3).setCell ⟨w0.heap.size, 4, none⟩ u4).setCell ⟨w0.heap.size, 5, none⟩ u5).setCell ⟨w0.heap.size, 6, none⟩ u6).setCell ⟨w0.heap.size, 7, none⟩ u7).setCell ⟨w0.heap.size, 8, none⟩ u8) := by
 have h1 := h.r.g0;have h2 := h.r.gt0;refine ⟨_, _, _, _, _, _, _, _, _, rfl, h.r.gr.put9 (Nat.le_refl _) _ _ _ _ _ _ _ _ _, h.r.p.far9 (by omega) (by omega) _ _ _ _ _ _ _ _ _, LiesF.move (h.t _ hx) fun b hb => ?_⟩;rw [size9];rcases hb with hb | ⟨a1, a2, -⟩
 · have := (h.hS b hb).1;exact ⟨.inl hb, heap9 _ _ _ _ _ _ _ _ _ _ _ b (by omega)⟩
 · exact ⟨.inr ⟨by omega, a2⟩, heap9 _ _ _ _ _ _ _ _ _ _ _ b (by omega)⟩
theorem RetU.alloc {e : Ending} (h : RetU S L gt C g w0 t σ e w) (hS : ∀ b, S b → b < w.heap.size) (o : Obj) : RetU S L gt C g w0 t σ e (w.alloc o) := by
 obtain ⟨c0, c1, c2, c3, c4, c5, c6, c7, c8, h1, h2, h3, h4⟩ := h;refine ⟨c0, c1, c2, c3, c4, c5, c6, c7, c8, h1, h2.alloc o, h3.alloc o, LiesF.move h4 fun b hb => ?_⟩;rcases hb with hb | ⟨a1, a2⟩
 · exact ⟨.inl hb, Below.heap_alloc _ _ _ (hS b hb)⟩
 · exact ⟨.inr ⟨a1, by simp; omega⟩, Below.heap_alloc _ _ _ a2⟩
end
section
variable {S : Nat → Prop} {L : List Fk} {gt C g : Nat} {w w' w0 : World} {σ τ : PS} {bs : List (Nat × Array Value)} {ts : List (Ft × List Value)} {t : Ft} {cs : List Value}
theorem Own.lt (h : St S L gt C g w0 w σ bs ts) : ∀ b, Own S w0 w bs b → b < w.heap.size := by
 intro b hb;rcases hb with hb | hb
 · have := (h.hS b hb).1; have := h.lt; omega
 · exact hb.2.1
theorem St.maker (h : St S L gt C g w0 w σ bs ts) (hb : Below w.heap.size w w') (hl : LiesF w' (Und (Own S w0 w bs) w.heap.size w'.heap.size) t cs) : St S L gt C g w0 w' σ bs ((t, cs) :: ts) := by
 have h2 := h.low hb;refine h2.put (LiesF.move hl fun b hb' => ⟨?_, rfl⟩);rcases hb' with hb' | hb'
 · exact (Own.gr h (Gr.below hb) b hb').1
 · exact .inr ⟨nT h.lt hb'.1, hb'.2, fun q hq => by have := Bx.lt (h.b q hq).2; have := hb'.1; omega⟩
theorem St.own_node (h : St S L gt C g w0 w σ bs ts) (op : Int) (tx : ByteArray) (htx : tx.size ≤ 140737488355328) {fs : List Ft} {xs : List Value} {A : Option Addr} {n c : Nat} (hn : fs.length = n) (hn2 : n ≤ 1000000) (hA : A = none → c = 0) (hc : n ≤ c) (hcm : c ≤ maxLen) (hR : Rs w (Own S w0 w bs) A xs) (hL : LiesFL w (Own S w0 w bs) fs xs) :
 St S L gt C g w0 w σ bs ((.mk op tx vz [] fs, [ι op, .string tx, ι 0, ι 0, eS, nL, nL, nL, .slice A n c]) :: ts) :=
 h.put (liesF_node op tx htx hn hA hc hcm (by omega) hR hL)
end
structure FSt (L : List Fk) (gt C g : Nat) (w0 w : World) (σ : PS) (q : Nat) (f : Ft) (cs : Array Value) : Prop where
 s : RSt L gt C g w0 w σ
 bx : Box w q 29 cs
 q0 : w0.heap.size < q
 t : LiesF w (fun b => w0.heap.size < b ∧ b < w.heap.size ∧ ¬ b = q) f cs.toList
section
variable {L : List Fk} {gt C g : Nat} {w w' w0 : World} {σ τ : PS} {q : Nat} {f : Ft} {cs : Array Value}
theorem FSt.start (h : RSt L gt C g w0 w σ) (ht : TreeAt w0 w f cs.toList) : FSt L gt C g w0 (w.alloc (.cells cs 29)) σ w.heap.size f cs :=
 ⟨h.alloc _, Box.laid _ _ _, h.lt, LiesF.move ht fun b hb => ⟨⟨hb.1, by simp; have := hb.2; omega, by have := hb.2; omega⟩, Below.heap_alloc _ _ _ hb.2⟩⟩
theorem FSt.next (h : FSt L gt C g w0 w σ q f cs) (hg : Gr g w w') (hp : PAt L gt C g w' τ) : FSt L gt C g w0 w' τ q f cs :=
 ⟨h.s.next hg hp, h.bx.grown hg (by intro e; injection e with e; have := h.s.g0; have := h.q0; omega), h.q0,
  LiesF.move h.t fun b hb => ⟨⟨hb.1, nT hb.2.1 hg.size, hb.2.2⟩, hg.block hb.2.1 (by have := hb.1; have := h.s.g0; omega)⟩⟩
theorem FSt.low (h : FSt L gt C g w0 w σ q f cs) (hb : Below w.heap.size w w') : FSt L gt C g w0 w' σ q f cs := h.next (Gr.below hb) (h.s.p.next hb)
theorem FSt.alloc (h : FSt L gt C g w0 w σ q f cs) (o : Obj) : FSt L gt C g w0 (w.alloc o) σ q f cs := h.low ((Below.refl _ _).alloc (Nat.le_refl _) o)
theorem FSt.drew (h : FSt L gt C g w0 w σ q f cs) : FSt L gt C g w0 w.drew σ q f cs := h.low (Below.refl _ _).drew
theorem FSt.tree (h : FSt L gt C g w0 w σ q f cs) : TreeAt w0 w f cs.toList := LiesF.move h.t fun b hb => ⟨⟨hb.1, hb.2.1⟩, rfl⟩
end
theorem FSt.form {L : List Fk} {gt C g : Nat} {w w0 : World} {σ : PS} {q : Nat} {f : Ft} {cs : Array Value} (h : FSt L gt C g w0 w σ q f cs) : ∃ (op : Int) (tx : ByteArray) (k n : Int) (s : ByteArray) (A1 : Option Addr) (n1 m1 : Nat) (A2 : Option Addr) (n2 m2 : Nat) (A3 : Option Addr) (n3 m3 : Nat) (A4 : Option Addr) (n4 m4 : Nat),
 cs = #[ι op, .string tx, ι k, ι n, .string s, .slice A1 n1 m1, .slice A2 n2 m2, .slice A3 n3 m3, .slice A4 n4 m4] := by
 obtain ⟨c0, c1, c2, c3, c4, c5, c6, c7, c8, hc⟩ := h.t.cells9;have ht := h.t;rw [hc] at ht;obtain ⟨Z, rfl, rfl, rfl, rfl, rfl, rfl, rfl, rfl, rfl⟩ := fr9 ht;exact ⟨Z.o, Z.t, Z.k, Z.j, Z.s, Z.A, Z.a, Z.u, Z.B, Z.b, Z.v, Z.C, Z.e, Z.w, Z.D, Z.d, Z.x, Array.toList_inj.1 (by rw [hc])⟩
theorem FSt.put {L : List Fk} {gt C g : Nat} {w w0 : World} {σ : PS} {q : Nat} {f t : Ft} {c0 c1 c2 c3 c4 c5 c6 c7 c8 u0 u1 u2 u3 u4 u5 u6 u7 u8 : Value} (h : FSt L gt C g w0 w σ q f #[c0, c1, c2, c3, c4, c5, c6, c7, c8]) (ht : LiesF w (fun b => w0.heap.size < b ∧ b < w.heap.size ∧ ¬ b = q) t [u0, u1, u2, u3, u4, u5, u6, u7, u8]) :
 FSt L gt C g w0 (((((((((w.setCell ⟨q, 0, none⟩ u0).setCell ⟨q, 1, none⟩ u1).setCell ⟨q, 2, none⟩ u2).setCell ⟨q, 3, none⟩ u3).setCell ⟨q, 4, none⟩ u4).setCell ⟨q, 5, none⟩ u5).setCell ⟨q, 6, none⟩ u6).setCell ⟨q, 7, none⟩ u7).setCell ⟨q, 8, none⟩ u8) σ q t #[u0, u1, u2, u3, u4, u5, u6, u7, u8] := by
 have h0 := h.q0;have hg := h.s.g0;have hgt := h.s.gt0;refine ⟨⟨h.s.p.far9 (by omega) (by omega) _ _ _ _ _ _ _ _ _, h.s.gr.put9 (by omega) _ _ _ _ _ _ _ _ _, h.s.r.far9 (by omega) _ _ _ _ _ _ _ _ _, hg, hgt⟩, h.bx.put9 _ _ _ _ _ _ _ _ _, h0, LiesF.move ht fun b hb => ⟨by rw [size9]; exact hb, heap9 _ _ _ _ _ _ _ _ _ _ _ b hb.2.2⟩⟩
end Go.Proofs.YtoleoimmpggldaaGreatDoor.Rx
namespace Go.Proofs.YtoleoimmpggldaaGreatDoor.Rx
open Go.RowKit
theorem peek_any {L : List Fk} {gt C g : Nat} {w : World} {σ : PS} (hP : PAt L gt C g w σ) : Calls Tryz.prog 16 #[.pointer (some ⟨g, 0, none⟩)] w (PeekPost (tk L σ.k) w) := by
 obtain ⟨⟨b0, b1, b2, b3⟩, -⟩ := box4' hP.box;obtain ⟨t0, t1, t2, t3⟩ := hP.tok hP.lt;have hl := hP.glt;have hg := hP.gtlt;have hk := hP.lt;have hc := hP.cap;have hm := hP.capm;generalize tk L σ.k = t at t0 t1 t2 t3 ⊢;obtain ⟨K1, O1, S1, I1⟩ := t;dsimp only at t0 t1 t2 t3 ⊢;generalize σ.bad = bb at b2;generalize σ.long = ll at b3;generalize L.length = n at b0 hk hc hm;generalize σ.k = k at *
 have hgn : ¬ g = w.heap.size := by omega
 have hgn2 : ¬ gt = w.heap.size := by omega
 clear hP
 go_enter Tryz.func16, Tryz.ntmps16
 go_wp2_with fail
 go_region
 go_wp2_with fail;refine bodyPost_ret (v := .agg #[ι K1, ι O1, .string S1, ι I1]) (by simp [results, Tryz.results16, go_sem]) rfl ?_;exact ⟨rfl, by first | exact (Below.refl _ _).alloc (Nat.le_refl _) _ | exact ((Below.refl _ _).alloc (Nat.le_refl _) _).drew⟩
theorem wrong_any {L : List Fk} {gt C g : Nat} {w : World} {σ : PS} (hP : PAt L gt C g w σ) : Calls Tryz.prog 17 #[.pointer (some ⟨g, 0, none⟩)] w (DonePost L gt C g w (wr σ)) := by
 have HP := hI hP;obtain ⟨⟨b0, b1, b2, b3⟩, f0, f1, f2, f3⟩ := box4' hP.box;have hl := hP.glt;clear hP
 go_enter Tryz.func17, Tryz.ntmps17
 go_wp2_with fail
 go_end0
 exact ⟨rfl, (Gr.refl g w).set 2 _, HP.out.wrong⟩
theorem is_any {L : List Fk} {gt C g : Nat} {w : World} {σ : PS} (x : ByteArray) (hP : PAt L gt C g w σ) : Calls Tryz.prog 55 #[.pointer (some ⟨g, 0, none⟩), .string x] w (BoolPost (sees L x σ) w) := by
 have HP := hI hP;have HK := hI (peek_any hP);unfold sees isW;have hbb : ∃ b, σ.bad = b := ⟨_, rfl⟩
 obtain ⟨bb, hbb⟩ := hbb;have HB := hI (fun W (h : Below w.heap.size w W) => (box4' (hP.next h).box).1);rw [hbb] at HB ⊢;have hl := hP.glt;generalize tk L σ.k = t at HK ⊢;obtain ⟨K1, O1, S1, I1⟩ := t;dsimp only;clear hP hbb
 cases bb with
 | true =>
  rw [Bool.not_true, Bool.false_and]
  go_enter Tryz.func55, Tryz.ntmps55
  go_wp2_with fail;refine HK.out.mono ?_;rintro e w1 ⟨rfl, hb1⟩;have hb2 := hb1.alloc hb1.size (.cells #[ι K1, ι O1, .string S1, ι I1] 41);obtain ⟨b0, b1, b2, b3⟩ := HB.out _ hb1;have hl2 : g < w1.heap.size := nT hl hb1.size;have hgn : ¬ g = w1.heap.size := by omega
  have HB2 := hI hb2;clear hb2;go_wp2_with fail
  go_ret
  exact ⟨rfl, by first | exact HB2.out | exact HB2.out.drew⟩
 | false =>
  rw [Bool.not_false, Bool.true_and]
  by_cases h7 : K1 = 7
  · subst h7
    by_cases hx : S1 = x
    · have qx : (S1.toList == x.toList) = true := by rw [streq, decide_eq_true hx]
      rw [decide_eq_true hx];clear hx
      go_enter Tryz.func55, Tryz.ntmps55
      go_wp2_with fail;refine HK.out.mono ?_;rintro e w1 ⟨rfl, hb1⟩;have hb2 := hb1.alloc hb1.size (.cells #[ι (7 : Nat), ι O1, .string S1, ι I1] 41);obtain ⟨b0, b1, b2, b3⟩ := HB.out _ hb1;have hl2 : g < w1.heap.size := nT hl hb1.size;have hgn : ¬ g = w1.heap.size := by omega
      have HB2 := hI hb2;clear hb2;go_wp2_with fail
      go_ret
      exact ⟨rfl, by first | exact HB2.out | exact HB2.out.drew⟩
    · have qx : (S1.toList == x.toList) = false := by rw [streq, decide_eq_false hx]
      rw [decide_eq_false hx];clear hx
      go_enter Tryz.func55, Tryz.ntmps55
      go_wp2_with fail;refine HK.out.mono ?_;rintro e w1 ⟨rfl, hb1⟩;have hb2 := hb1.alloc hb1.size (.cells #[ι (7 : Nat), ι O1, .string S1, ι I1] 41);obtain ⟨b0, b1, b2, b3⟩ := HB.out _ hb1;have hl2 : g < w1.heap.size := nT hl hb1.size;have hgn : ¬ g = w1.heap.size := by omega
      have HB2 := hI hb2;clear hb2;go_wp2_with fail
      go_ret
      exact ⟨rfl, by first | exact HB2.out | exact HB2.out.drew⟩
  · have q7 : ((K1 : Int) == 7) = false := bF.2 (by omega);have e7 : (K1 == 7) = false := bF.2 h7;rw [e7]
    by_cases h2 : K1 = 2
    · subst h2;clear h7 e7
      by_cases hx : S1 = x
      · have qx : (S1.toList == x.toList) = true := by rw [streq, decide_eq_true hx]
        rw [decide_eq_true hx];clear hx
        go_enter Tryz.func55, Tryz.ntmps55
        go_wp2_with fail;refine HK.out.mono ?_;rintro e w1 ⟨rfl, hb1⟩;have hb2 := hb1.alloc hb1.size (.cells #[ι (2 : Nat), ι O1, .string S1, ι I1] 41);obtain ⟨b0, b1, b2, b3⟩ := HB.out _ hb1;have hl2 : g < w1.heap.size := nT hl hb1.size;have hgn : ¬ g = w1.heap.size := by omega
        have HB2 := hI hb2;clear hb2;go_wp2_with fail
        go_ret
        exact ⟨rfl, by first | exact HB2.out | exact HB2.out.drew⟩
      · have qx : (S1.toList == x.toList) = false := by rw [streq, decide_eq_false hx]
        rw [decide_eq_false hx];clear hx
        go_enter Tryz.func55, Tryz.ntmps55
        go_wp2_with fail;refine HK.out.mono ?_;rintro e w1 ⟨rfl, hb1⟩;have hb2 := hb1.alloc hb1.size (.cells #[ι (2 : Nat), ι O1, .string S1, ι I1] 41);obtain ⟨b0, b1, b2, b3⟩ := HB.out _ hb1;have hl2 : g < w1.heap.size := nT hl hb1.size;have hgn : ¬ g = w1.heap.size := by omega
        have HB2 := hI hb2;clear hb2;go_wp2_with fail
        go_ret
        exact ⟨rfl, by first | exact HB2.out | exact HB2.out.drew⟩
    · have q2 : ((K1 : Int) == 2) = false := bF.2 (by omega);have e2 : (K1 == 2) = false := bF.2 h2;rw [e2];clear h7 e7 h2 e2
      go_enter Tryz.func55, Tryz.ntmps55
      go_wp2_with fail;refine HK.out.mono ?_;rintro e w1 ⟨rfl, hb1⟩;have hb2 := hb1.alloc hb1.size (.cells #[ι K1, ι O1, .string S1, ι I1] 41);obtain ⟨b0, b1, b2, b3⟩ := HB.out _ hb1;have hl2 : g < w1.heap.size := nT hl hb1.size;have hgn : ¬ g = w1.heap.size := by omega
      have HB2 := hI hb2;clear hb2;go_wp2_with fail
      go_ret
      exact ⟨rfl, by first | exact HB2.out | exact HB2.out.drew⟩
theorem sees_k {L : List Fk} {x : ByteArray} {σ : PS} (h : sees L x σ = true) : (tk L σ.k).k ≠ 0 := by
 intro h0;unfold sees isW at h;rw [h0] at h;simp at h
theorem take_any {L : List Fk} (hL : TokL L) {gt C g : Nat} {w : World} {σ : PS} (x : ByteArray) (b : Bool) (hb : sees L x σ = b) (hP : PAt L gt C g w σ) :
 Calls Tryz.prog 29 #[.pointer (some ⟨g, 0, none⟩), .string x] w (TakePost L gt C g w b (if b = true then adv σ else σ)) := by
 have HS := hI (fun W (h : PAt L gt C g W σ) => is_any x h);have HP := hI hP;rw [hb] at HS
 cases b with
 | false =>
  clear hP hb
  go_enter Tryz.func29, Tryz.ntmps29
  go_wp2_with fail;refine (HS.out _ HP.out).mono ?_;rintro e w1 ⟨rfl, hb1⟩;go_wp2_with fail
  go_ret
  exact ⟨rfl, Gr.below hb1, HP.out.next hb1⟩
 | true =>
  have hnx := hL.e.next hP.lt (sees_k hb)
  have hm := hP.capm;clear hP hb
  go_enter Tryz.func29, Tryz.ntmps29
  go_wp2_with fail;refine (HS.out _ HP.out).mono ?_;rintro e w1 ⟨rfl, hb1⟩;have HP1 := hI (HP.out.next hb1);have HG1 := hI (Gr.below (g := g) hb1);obtain ⟨⟨b0, b1, b2, b3⟩, f0, f1, f2, f3⟩ := box4' HP1.out.box;have hl := HP1.out.glt;have hk9 : (σ.k : Int) ≤ 4096 := by omega
  clear hb1;generalize hkk : (σ.k : Int) = kk at b1 hk9;have HKK := hI hkk;have hk0 : 0 ≤ kk := by omega
  clear hkk;go_wp2_with fail
  go_ret
  exact ⟨rfl, HG1.out.set 1 _, HP1.out.step hnx (by rw [HKK.out])⟩
theorem need_any {L : List Fk} (hL : TokL L) {gt C g : Nat} {w : World} {σ : PS} (x : ByteArray) (hP : PAt L gt C g w σ) :
 Calls Tryz.prog 158 #[.pointer (some ⟨g, 0, none⟩), .string x] w (DonePost L gt C g w (needP L x σ)) := by
 have HP := hI hP;obtain ⟨⟨b0, b1, b2, b3⟩, -⟩ := box4' hP.box;have hl := hP.glt;unfold needP;obtain ⟨b, hb⟩ : ∃ b, sees L x σ = b := ⟨_, rfl⟩
 have HT := hI (fun W (h : PAt L gt C g W σ) => take_any hL x b hb h);have HW := hI (fun W (h : PAt L gt C g W σ) => wrong_any h);obtain ⟨bb, hbb⟩ : ∃ b, σ.bad = b := ⟨_, rfl⟩
 rw [hbb] at b2
 cases bb with
 | true =>
  have e : sees L x σ = false := by unfold sees; rw [hbb]; rfl
  rw [e, if_neg (by decide)];have HE : Hid (wr σ = σ) := hI (by unfold wr; rw [← hbb]);clear hP hb hbb e
  go_enter Tryz.func158, Tryz.ntmps158
  go_wp2_with fail
  go_end0
  exact ⟨rfl, Gr.refl g w, by rw [HE.out]; exact HP.out⟩
 | false =>
  rw [hb];clear hP hb hbb
  cases b with
  | true =>
   go_enter Tryz.func158, Tryz.ntmps158
   go_wp2_with fail;refine (HT.out _ HP.out).mono ?_;rintro e w1 ⟨rfl, H1⟩;have H1 := hI H1;go_wp2_with fail
   go_end0
   exact ⟨rfl, H1.out⟩
  | false =>
   go_enter Tryz.func158, Tryz.ntmps158
   go_wp2_with fail;refine (HT.out _ HP.out).mono ?_;rintro e w1 ⟨rfl, hg1, hp1⟩;have H1 := hI hg1;have HP1 : Hid (PAt L gt C g w1 σ) := hI hp1;clear hg1 hp1;go_wp2_with fail;refine (HW.out _ HP1.out).mono ?_;rintro e w2 ⟨rfl, hg2, hp2⟩;have H2 := hI (And.intro (H1.out.trans hg2) hp2);clear hg2 hp2;go_wp2_with fail
   go_end0
   exact ⟨rfl, H2.out⟩
theorem node_any (op : Int) (tx : ByteArray) (A : Option Addr) (n c : Nat) (w : World) : Calls Tryz.prog 30 #[ι op, .string tx, .slice A n c] w fun e w' => e = .returned (.agg #[ι op, .string tx, ι 0, ι 0, eS, nL, nL, nL, .slice A n c]) ∧ Below w.heap.size w w' := by
 go_enter Tryz.func30, Tryz.ntmps30
 go_wp2_with fail;refine post9 Tryz.results30 rfl rfl (Box.laid w _ _) ?_;exact ⟨rfl, (Below.refl _ _).alloc (Nat.le_refl _) _⟩
theorem ident_any (w : World) : Calls Tryz.prog 177 #[] w (LeafPost 1 ⟨#[]⟩ 0 0 ⟨#[]⟩ w) := by
 have HN := hI (fun W => node_any 1 ⟨#[]⟩ none 0 0 W)
 go_enter Tryz.func177, Tryz.ntmps177
 go_wp2_with fail;refine (HN.out _).mono ?_;rintro e w1 ⟨rfl, hb1⟩;have HB := hI ((Box.laid w 29 #[ι 0, eS, ι 0, ι 0, eS, nL, nL, nL, nL]).below hb1 (by simp));have y0 := box9 HB.out;have z0 := box9f HB.out;have H1 := hI (((Below.refl w.heap.size w).alloc (Nat.le_refl _) _).trans (hb1.mono (by simp)));clear hb1;go_wp2_with fail;refine post9 Tryz.results177 rfl rfl (HB.out.put9 _ _ _ _ _ _ _ _ _) ?_;exact ⟨rfl, below9 H1.out (Nat.le_refl _) _ _ _ _ _ _ _ _ _⟩
theorem lit_any (k n : Int) (s : ByteArray) (w : World) : Calls Tryz.prog 178 #[.agg #[ι k, ι n, .string s, nL, nL]] w (LeafPost 7 ⟨#[]⟩ k n s w) := by
 go_enter Tryz.func178, Tryz.ntmps178
 go_wp2_with fail;refine post9 Tryz.results178 rfl rfl (Box.laidAt _ _ _ (by simp)) ?_;exact ⟨rfl, ((Below.refl _ _).alloc (Nat.le_refl _) _).alloc (by simp) _⟩
theorem text_any (s : ByteArray) (w : World) : Calls Tryz.prog 179 #[.string s] w (LeafPost 7 ⟨#[]⟩ 4 0 s w) := by
 have HN := hI (fun W => lit_any 4 0 s W)
 go_enter Tryz.func179, Tryz.ntmps179
 go_wp2_with fail;refine (HN.out _).mono ?_;rintro e w1 ⟨rfl, hb1⟩;have HB := hI ((Box.laid w 29 z9).below hb1 (by simp));obtain ⟨⟨y0, y1, y2, y3, y4, y5, y6, y7, y8⟩, z0, z1, z2, z3, z4, z5, z6, z7, z8⟩ := box9z HB.out;have H1 := hI (((Below.refl w.heap.size w).alloc (Nat.le_refl _) _).trans (hb1.mono (by simp)));clear hb1;go_wp2_with fail;refine post9 Tryz.results179 rfl rfl (HB.out.put9z _ _ _ _ _ _ _ _ _) ?_;exact ⟨rfl, below9 H1.out (Nat.le_refl _) _ _ _ _ _ _ _ _ _⟩
end Go.Proofs.YtoleoimmpggldaaGreatDoor.Rx
namespace Go.Proofs.YtoleoimmpggldaaGreatDoor.Rx
open Go.RowKit
theorem kindT_size {L : List Fk} (hL : TokL L) (K : Nat) (σ : PS) : (kindT L K σ).s.size ≤ 1048576 := by
 unfold kindT
 split
 · exact hL.size _
 · show (⟨#[]⟩ : ByteArray).size ≤ _; decide
theorem kind_any {L : List Fk} (hL : TokL L) {gt C g : Nat} {w : World} {σ : PS} (K : Nat) (hK : K ≠ 0) (hP : PAt L gt C g w σ) :
 Calls Tryz.prog 157 #[.pointer (some ⟨g, 0, none⟩), ι K] w (KindPost L gt C g w (kindT L K σ) (kindS L K σ)) := by
 have HP := hI hP;obtain ⟨⟨b0, b1, b2, b3⟩, -⟩ := box4' hP.box;have hl := hP.glt;have hgt := hP.gtlt;have hlt := hP.lt;have hm := hP.capm;have HK := hI (fun W (h : PAt L gt C g W σ) => peek_any h);have HW := hI (fun W (h : PAt L gt C g W σ) => wrong_any h);have HNX := hI (fun h => hL.e.next hlt h);obtain ⟨bb, hbb⟩ : ∃ b, σ.bad = b := ⟨_, rfl⟩
 rw [hbb] at b2
 cases bb with
 | true =>
  have e : hitK L K σ = false := by unfold hitK; rw [hbb]; rfl
  unfold kindT kindS;rw [e, if_neg (by decide), if_neg (by decide)];have HE : Hid (wr σ = σ) := hI (by unfold wr; rw [← hbb]);clear hP hbb e;have HA := hI (HP.out.alloc (.cells #[ι 0, ι 0, eS, ι 0] 41))
  go_enter Tryz.func157, Tryz.ntmps157
  go_wp2_with fail;refine post4 Tryz.results157 rfl rfl (by first | exact Box.laid _ _ _ | exact (Box.laid _ _ _).put4 _ _ _ _) ?_;exact ⟨rfl, Gr.one _ _, by rw [HE.out]; exact HA.out⟩
 | false =>
  by_cases hk : (tk L σ.k).k = K
  · have e : hitK L K σ = true := by unfold hitK; rw [hbb, decide_eq_true hk]; rfl
    unfold kindT kindS;rw [e, if_pos rfl, if_pos rfl];have hnx := HNX.out (by omega);have q : (((tk L σ.k).k : Int) != (K : Int)) = false := by rw [bne_eq_false_iff_eq]; omega
    have hk9 : (σ.k : Int) ≤ 4096 := by omega
    have hk0 : 0 ≤ (σ.k : Int) := by omega
    generalize hkk : (σ.k : Int) = kk at b1 hk9 hk0;have HKK := hI hkk;generalize tk L σ.k = t at HK q ⊢;obtain ⟨K1, O1, S1, I1⟩ := t;dsimp only at q ⊢;clear hP hbb e hk hkk HNX
    go_enter Tryz.func157, Tryz.ntmps157
    go_wp2_with fail;refine (HK.out _ (HP.out.alloc _)).mono ?_;rintro e w1 ⟨rfl, hb1⟩;have HP1 := hI ((HP.out.alloc (.cells #[ι 0, ι 0, eS, ι 0] 41)).next hb1);have HG1 := hI ((Gr.one (g := g) w (.cells #[ι 0, ι 0, eS, ι 0] 41)).low hb1);have HR1 := hI (Box.below (Box.laid w 41 #[ι 0, ι 0, eS, ι 0]) hb1 (by simp));have hlt1 : w.heap.size < w1.heap.size := by have := hb1.size; simp at this; omega
    clear hb1 b0 b1 b2 b3;obtain ⟨⟨b0, b1, b2, b3⟩, f0, f1, f2, f3⟩ := box4' HP1.out.box;rw [HKK.out] at b1;have hl1 : g < w1.heap.size := by omega
    have hgn : ¬ g = w1.heap.size := by omega
    have hgn2 : ¬ w.heap.size = w1.heap.size := by omega
    have hgn3 : ¬ w.heap.size = g := by omega
    obtain ⟨⟨y0, y1, y2, y3⟩, z0, z1, z2, z3⟩ := box4' HR1.out;go_wp2_with fail;refine post4 Tryz.results157 rfl rfl (((HR1.out.far (p := ⟨g, 1, none⟩) (by show _ ≠ g; omega) _).put4 _ _ _ _).alloc _) ?_;exact ⟨rfl, ((HG1.out.set 1 _).put4 (Nat.le_refl _) _ _ _ _).alloc _, ((HP1.out.step hnx (by rw [HKK.out])).far4 (by omega) (by omega) _ _ _ _).alloc _⟩
  · have e : hitK L K σ = false := by unfold hitK; rw [decide_eq_false hk, Bool.and_false]
    unfold kindT kindS;rw [e, if_neg (by decide), if_neg (by decide)];have q : (((tk L σ.k).k : Int) != (K : Int)) = true := by rw [bne_iff_ne]; omega
    generalize tk L σ.k = t at HK q ⊢;obtain ⟨K1, O1, S1, I1⟩ := t;dsimp only at q ⊢;clear hP hbb e hk HNX
    go_enter Tryz.func157, Tryz.ntmps157
    go_wp2_with fail;refine (HK.out _ (HP.out.alloc _)).mono ?_;rintro e w1 ⟨rfl, hb1⟩;have HP1 := hI (((HP.out.alloc (.cells #[ι 0, ι 0, eS, ι 0] 41)).next hb1).alloc (.cells #[ι K1, ι O1, .string S1, ι I1] 41));have HG1 := hI (((Gr.one (g := g) w (.cells #[ι 0, ι 0, eS, ι 0] 41)).low hb1).alloc (.cells #[ι K1, ι O1, .string S1, ι I1] 41));have HR1 := hI ((Box.below (Box.laid w 41 #[ι 0, ι 0, eS, ι 0]) hb1 (by simp)).alloc (.cells #[ι K1, ι O1, .string S1, ι I1] 41));have hlt1 : w.heap.size < w1.heap.size := by have := hb1.size; simp at this; omega
    have hl1 : g < w1.heap.size := by omega
    clear hb1 b0 b1 b2 b3;go_wp2_with fail;refine (HW.out _ HP1.out).mono ?_;rintro e w2 ⟨rfl, hg2, hp2⟩;have HR2 := hI (HR1.out.grown hg2 (by intro e; injection e with e; omega));have H2 := hI (And.intro (HG1.out.trans hg2) hp2);obtain ⟨⟨y0, y1, y2, y3⟩, z0, z1, z2, z3⟩ := box4' HR2.out;clear hg2 hp2;go_wp2_with fail;refine post4 Tryz.results157 rfl rfl (HR2.out.put4 _ _ _ _) ?_;exact ⟨rfl, H2.out.1.put4 (Nat.le_refl _) _ _ _ _, H2.out.2.far4 (by omega) (by omega) _ _ _ _⟩
def StrPost (L : List Fk) (gt C g : Nat) (w : World) (s : ByteArray) (τ : PS) (e : Ending) (w' : World) : Prop := e = .returned (.string s) ∧ Gr g w w' ∧ PAt L gt C g w' τ
theorem param_any {L : List Fk} (hL : TokL L) {gt C g : Nat} (w : World) (σ τ : PS) (s : ByteArray) (hP : PAt L gt C g w σ) (hm : paramM L σ = some (s, τ)) :
 Calls Tryz.prog 166 #[.pointer (some ⟨g, 0, none⟩)] w (StrPost L gt C g w s τ) := by
 have HP := hI hP;obtain ⟨⟨b0, b1, b2, b3⟩, -⟩ := box4' hP.box;have hl := hP.glt;have HK := hI (fun W (h : PAt L gt C g W σ) => peek_any h);have HKK := hI (fun K hK W (h : PAt L gt C g W σ) => kind_any hL K hK h);have hz := kindT_size hL 3 σ;unfold paramM at hm;obtain ⟨bb, hbb⟩ : ∃ b, σ.bad = b := ⟨_, rfl⟩
 rw [hbb] at b2 hm
 cases bb with
 | true =>
  rw [if_pos rfl] at hm;injection hm with hm
  injection hm with h3 h4
  subst h3; subst h4;clear hP hbb hz
  go_enter Tryz.func166, Tryz.ntmps166
  go_wp2_with fail
  go_ret
  exact ⟨rfl, Gr.refl g w, HP.out⟩
 | false =>
  rw [if_neg (by decide)] at hm
  by_cases hk : (tk L σ.k).k = 3
  · rw [if_pos hk] at hm;injection hm with hm
    injection hm with h3 h4
    subst h3; subst h4;have e : hitK L 3 σ = true := by unfold hitK; rw [hbb, decide_eq_true hk]; rfl
    have HK3 := hI (fun W h => HKK.out 3 (by decide) W h);have e1 : kindT L 3 σ = tk L σ.k := by unfold kindT; rw [e, if_pos rfl]
    have e2 : kindS L 3 σ = adv σ := by unfold kindS; rw [e, if_pos rfl]
    rw [e1, e2] at HK3;rw [e1] at hz;have q : (((tk L σ.k).k : Int) == 3) = true := by rw [beq_iff_eq]; omega
    generalize tk L σ.k = t at HK HK3 q hz ⊢;have hf0 := field_kind t;have hf2 := field_text t;have hadd : ¬ (1 + t.s.size > 9223372036854775807) := by omega
    clear hP hbb e e1 e2 hk hz HKK
    go_enter Tryz.func166, Tryz.ntmps166
    go_wp2_with fail;refine (HK.out _ HP.out).mono ?_;rintro e w1 ⟨rfl, hb1⟩;have HP1 := hI (HP.out.next hb1);have HG1 := hI (Gr.below (g := g) hb1);clear hb1;go_wp2_with fail;refine (HK3.out _ HP1.out).mono ?_;rintro e w2 ⟨rfl, hg2, hp2⟩;have H2 := hI (And.intro (HG1.out.trans hg2) hp2);clear hg2 hp2;go_wp2_with fail
    go_ret
    exact ⟨rfl, H2.out⟩
  · rw [if_neg hk] at hm;injection hm with hm
    injection hm with h3 h4
    subst h3; subst h4;have HK1 := hI (fun W h => HKK.out 1 (by decide) W h);have q : (((tk L σ.k).k : Int) == 3) = false := bF.2 (by omega);generalize tk L σ.k = t at HK q ⊢;have hf0 := field_kind t;generalize kindT L 1 σ = u at HK1 ⊢;have hf2 := field_text u;clear hP hbb hk hz HKK
    go_enter Tryz.func166, Tryz.ntmps166
    go_wp2_with fail;refine (HK.out _ HP.out).mono ?_;rintro e w1 ⟨rfl, hb1⟩;have HP1 := hI (HP.out.next hb1);have HG1 := hI (Gr.below (g := g) hb1);clear hb1;go_wp2_with fail;refine (HK1.out _ HP1.out).mono ?_;rintro e w2 ⟨rfl, hg2, hp2⟩;have H2 := hI (And.intro (HG1.out.trans hg2) hp2);clear hg2 hp2;go_wp2_with fail
    go_ret
    exact ⟨rfl, H2.out⟩
