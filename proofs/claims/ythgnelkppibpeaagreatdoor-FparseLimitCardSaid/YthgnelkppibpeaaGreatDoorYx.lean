/- Within a method of the parser: its boxes and its trees. -/
import Derived.Test.YthgnelkppibpeaaGreatDoorYw
set_option linter.unusedVariables false
set_option linter.unusedSimpArgs false
set_option linter.unusedSectionVars false
namespace Go.Proofs.YthgnelkppibpeaaGreatDoor
open Go.RowKit
/-- The blocks of S, and the call's own but for its boxes. -/
def Own (S : Nat → Prop) (w0 w : World) (bs : List (Nat × Array Value)) (b : Nat) : Prop := S b ∨ (w0.heap.size < b ∧ b < w.heap.size ∧ ∀ q ∈ bs, b ≠ q.1)
/-- A method that began in w0: its result's box, its other boxes, its trees. -/
structure St (S : Nat → Prop) (L : List Fk) (gt C g : Nat) (w0 w : World) (σ : PS) (bs : List (Nat × Array Value)) (ts : List (Ft × List Value)) : Prop where
  r : RSt L gt C g w0 w σ
  hS : ∀ b, S b → b < w0.heap.size ∧ b ≠ g
  b : ∀ q ∈ bs, w0.heap.size < q.1 ∧ Box w q.1 29 q.2
  t : ∀ x ∈ ts, LiesF w (Own S w0 w bs) x.1 x.2
/-- What a method with a tree of the caller's hands back. -/
def RetU (S : Nat → Prop) (L : List Fk) (gt C g : Nat) (w : World) (t : Ft) (τ : PS) (e : Ending) (w' : World) : Prop := ∃ c0 c1 c2 c3 c4 c5 c6 c7 c8, e = .returned (.agg #[c0, c1, c2, c3, c4, c5, c6, c7, c8]) ∧ Gr g w w' ∧ PAt L gt C g w' τ ∧ LiesF w' (Und S w.heap.size w'.heap.size) t [c0, c1, c2, c3, c4, c5, c6, c7, c8]
def noS : Nat → Prop := fun _ => False
theorem retF_of {L : List Fk} {gt C g : Nat} {w w' : World} {t : Ft} {τ : PS} {e : Ending} (h : RetU noS L gt C g w t τ e w') : RetF L gt C g w t τ e w' := by
  obtain ⟨c0, c1, c2, c3, c4, c5, c6, c7, c8, h1, h2, h3, h4⟩ := h
  exact ⟨c0, c1, c2, c3, c4, c5, c6, c7, c8, h1, h2, h3, LiesF.move h4 fun b hb => ⟨hb.elim (fun h => h.elim) id, rfl⟩⟩
section
variable {S : Nat → Prop} {L : List Fk} {gt C g : Nat} {w w' w0 : World} {σ τ : PS} {bs : List (Nat × Array Value)} {ts : List (Ft × List Value)} {t : Ft} {cs : List Value}
theorem St.start (h : PAt L gt C g w σ) (hS : ∀ b, S b → b < w.heap.size ∧ b ≠ g) : St S L gt C g w (w.alloc (.cells z9 29)) σ [] [] :=
  ⟨RSt.start h, hS, fun q hq => by simp at hq, fun x hx => by simp at hx⟩
theorem St.begin (h : PAt L gt C g w σ) : St noS L gt C g w (w.alloc (.cells z9 29)) σ [] [] := St.start h fun b hb => hb.elim
theorem St.lt (h : St S L gt C g w0 w σ bs ts) : w0.heap.size < w.heap.size := h.r.lt
theorem Own.gr (h : St S L gt C g w0 w σ bs ts) (hg : Gr g w w') : ∀ b, Own S w0 w bs b → Own S w0 w' bs b ∧ w'.heap[b]? = w.heap[b]? := by
  intro b hb
  have h1 := h.r.g0
  have h2 := h.lt
  rcases hb with hb | ⟨a1, a2, a3⟩
  · have := h.hS b hb
    exact ⟨.inl hb, hg.block (by omega) this.2⟩
  · exact ⟨.inr ⟨a1, Nat.lt_of_lt_of_le a2 hg.size, a3⟩, hg.block a2 (by omega)⟩
theorem St.next (h : St S L gt C g w0 w σ bs ts) (hg : Gr g w w') (hp : PAt L gt C g w' τ) : St S L gt C g w0 w' τ bs ts :=
  ⟨h.r.next hg hp, h.hS, fun q hq => ⟨(h.b q hq).1, (h.b q hq).2.grown hg (by intro e; injection e with e; have := h.r.g0; have := (h.b q hq).1; omega)⟩, fun x hx => LiesF.move (h.t x hx) (Own.gr h hg)⟩
theorem St.low (h : St S L gt C g w0 w σ bs ts) (hb : Below w.heap.size w w') : St S L gt C g w0 w' σ bs ts := h.next (Gr.below hb) (h.r.p.next hb)
theorem St.alloc (h : St S L gt C g w0 w σ bs ts) (o : Obj) : St S L gt C g w0 (w.alloc o) σ bs ts := h.low ((Below.refl _ _).alloc (Nat.le_refl _) o)
theorem St.drew (h : St S L gt C g w0 w σ bs ts) : St S L gt C g w0 w.drew σ bs ts := h.low (Below.refl _ _).drew
/-- A box is laid. -/
theorem St.box (h : St S L gt C g w0 w σ bs ts) (cs : Array Value) : St S L gt C g w0 (w.alloc (.cells cs 29)) σ ((w.heap.size, cs) :: bs) ts := by
  have h2 := h.alloc (.cells cs 29)
  refine ⟨h2.r, h2.hS, fun q hq => ?_, fun x hx => LiesF.move (h.t x hx) fun b hb => ?_⟩
  · rcases List.mem_cons.1 hq with rfl | hq
    · exact ⟨h.lt, Box.laid _ _ _⟩
    · exact h2.b q hq
  · rcases hb with hb | ⟨a1, a2, a3⟩
    · have := h.hS b hb
      have := h.lt
      exact ⟨.inl hb, Below.heap_alloc _ _ _ (by omega)⟩
    · refine ⟨.inr ⟨a1, by simp; omega, fun q hq => ?_⟩, Below.heap_alloc _ _ _ a2⟩
      rcases List.mem_cons.1 hq with rfl | hq
      · show b ≠ w.heap.size; omega
      · exact a3 q hq
/-- A tree in blocks that were made since w. -/
theorem St.tree (h : St S L gt C g w0 w σ bs ts) (h' : St S L gt C g w0 w' τ bs ts) (hl : LiesF w' (Nw w.heap.size w'.heap.size) t cs) : St S L gt C g w0 w' τ bs ((t, cs) :: ts) :=
  ⟨h'.r, h'.hS, h'.b, fun x hx => by
    rcases List.mem_cons.1 hx with rfl | hx
    · exact LiesF.move hl fun b hb => ⟨.inr ⟨Nat.lt_of_lt_of_le h.lt hb.1, hb.2, fun q hq => by have := (h.b q hq).2.lt; have := hb.1; omega⟩, rfl⟩
    · exact h'.t x hx⟩
/-- A method has been called. -/
theorem St.call (h : St S L gt C g w0 w σ bs ts) (hg : Gr g w w') (hp : PAt L gt C g w' τ) (hl : LiesF w' (Nw w.heap.size w'.heap.size) t cs) : St S L gt C g w0 w' τ bs ((t, cs) :: ts) := h.tree (h.next hg hp) hl
/-- A leaf is a tree anywhere. -/
theorem St.leaf (h : St S L gt C g w0 w σ bs ts) (op : Int) (tx : ByteArray) (k n : Int) (s : ByteArray) (htx : tx.size ≤ 140737488355328) (hs : s.size ≤ 140737488355328) : St S L gt C g w0 w σ bs ((.mk op tx (.mk k n s [] []) [] [], [.int .i64 op, .string tx, .int .i64 k, .int .i64 n, .string s, .slice none 0 0, .slice none 0 0, .slice none 0 0, .slice none 0 0]) :: ts) :=
  ⟨h.r, h.hS, h.b, fun x hx => by
    rcases List.mem_cons.1 hx with rfl | hx
    · exact liesF_leaf _ _ _ _ _ htx (lies_leaf _ _ _ _ _ hs)
    · exact h.t x hx⟩
/-- A tree of the caller's. -/
theorem St.given (h : St S L gt C g w0 w σ bs ts) (hl : LiesF w0 S t cs) : St S L gt C g w0 w σ bs ((t, cs) :: ts) :=
  ⟨h.r, h.hS, h.b, fun x hx => by
    rcases List.mem_cons.1 hx with rfl | hx
    · exact LiesF.move hl fun b hb => ⟨.inl hb, h.r.gr.block (h.hS b hb).1 (h.hS b hb).2⟩
    · exact h.t x hx⟩
/-- Rows of trees. -/
theorem liesFL_one {w : World} {S : Nat → Prop} {f : Ft} {cs : List Value} (h : LiesF w S f cs) : LiesFL w S [f] cs := LiesFL.one h
/-- A node whose parts lie in the newest row. -/
theorem St.node (h : St S L gt C g w0 w σ bs ts) (op : Int) (tx : ByteArray) (htx : tx.size ≤ 140737488355328) {fs : List Ft} {row : Array Value} {n : Nat} (hn : fs.length = n) (hn2 : n ≤ 100) (hL : LiesFL w (Own S w0 w bs) fs row.toList) {q : Nat} (hq : w.heap.size = q) :
    St S L gt C g w0 (w.alloc (.cells row 29)) σ bs ((.mk op tx vz [] fs, [.int .i64 op, .string tx, .int .i64 0, .int .i64 0, .string ⟨#[]⟩, .slice none 0 0, .slice none 0 0, .slice none 0 0, .slice (some ⟨q, 0, none⟩) n n]) :: ts) := by
  subst hq
  have h2 := h.alloc (.cells row 29)
  refine ⟨h2.r, h2.hS, h2.b, fun x hx => ?_⟩
  rcases List.mem_cons.1 hx with rfl | hx
  · refine liesF_node op tx htx hn (by simp) (Nat.le_refl _) (by unfold maxLen; omega) (by omega) (rs_box (Box.laid _ _ _) (.inr ⟨h.lt, by simp, fun q hq => by have := (h.b q hq).2.lt; omega⟩)) (LiesFL.move hL fun b hb => Own.gr h (Gr.one _ _) b hb)
  · exact h2.t x hx
/-- The newest box comes to be another's. -/
theorem St.set {q : Nat} {c0 c1 c2 c3 c4 c5 c6 c7 c8 : Value} (h : St S L gt C g w0 w σ ((q, #[c0, c1, c2, c3, c4, c5, c6, c7, c8]) :: bs) ts) (hne : ∀ x ∈ bs, x.1 ≠ q) (i : Nat) (u : Value) {ds : Array Value} (hd : (#[c0, c1, c2, c3, c4, c5, c6, c7, c8] : Array Value).setIfInBounds i u = ds) :
    St S L gt C g w0 (w.setCell ⟨q, i, none⟩ u) σ ((q, ds) :: bs) ts := by
  have h0 := (h.b (q, _) List.mem_cons_self).1
  have h1 := (h.b (q, _) List.mem_cons_self).2
  have hg := h.r.g0
  have hgt := h.r.gt0
  dsimp only at h0 h1
  have hsz : (w.setCell ⟨q, i, none⟩ u).heap.size = w.heap.size := by simp [World.setCell]
  refine ⟨⟨h.r.p.far (by omega) (by omega) i u, h.r.gr.put (by omega) i u, h.r.r.far (p := ⟨q, i, none⟩) (by show _ ≠ q; omega) u, hg, hgt⟩, h.hS, fun x hx => ?_, fun x hx => LiesF.move (h.t x hx) fun b hb => ?_⟩
  · rcases List.mem_cons.1 hx with rfl | hx
    · refine ⟨h0, ?_⟩
      have := h1.put i u
      rw [hd] at this
      exact this
    · exact ⟨(h.b x (by simp [hx])).1, (h.b x (by simp [hx])).2.far (p := ⟨q, i, none⟩) (hne x hx) u⟩
  · have hbq : b ≠ q := by
      rcases hb with hb | ⟨_, _, a3⟩
      · have := h.hS b hb; omega
      · exact a3 (q, _) List.mem_cons_self
    refine ⟨?_, Below.heap_setCell _ _ _ _ hbq⟩
    rcases hb with hb | ⟨a1, a2, a3⟩
    · exact .inl hb
    · refine .inr ⟨a1, by rw [hsz]; exact a2, fun x hx => ?_⟩
      rcases List.mem_cons.1 hx with rfl | hx
      · exact hbq
      · exact a3 x (by simp [hx])
/-- The boxes in another order. -/
theorem St.perm (h : St S L gt C g w0 w σ bs ts) {bs' : List (Nat × Array Value)} (hp : ∀ x, x ∈ bs' ↔ x ∈ bs) : St S L gt C g w0 w σ bs' ts :=
  ⟨h.r, h.hS, fun q hq => h.b q ((hp q).1 hq), fun x hx => LiesF.move (h.t x hx) fun b hb => ⟨hb.imp id fun a => ⟨a.1, a.2.1, fun q hq => a.2.2 q ((hp q).1 hq)⟩, rfl⟩⟩
theorem St.bx (h : St S L gt C g w0 w σ bs ts) {q : Nat} {c : Array Value} (hq : (q, c) ∈ bs) : Box w q 29 c := (h.b _ hq).2
theorem St.put (h : St S L gt C g w0 w σ bs ts) {x : Ft × List Value} (hx : LiesF w (Own S w0 w bs) x.1 x.2) : St S L gt C g w0 w σ bs (x :: ts) :=
  ⟨h.r, h.hS, h.b, fun y hy => by
    rcases List.mem_cons.1 hy with rfl | hy
    · exact hx
    · exact h.t y hy⟩
/-- The result is put into its box. -/
theorem St.close (h : St S L gt C g w0 w σ bs ts) {u0 u1 u2 u3 u4 u5 u6 u7 u8 : Value} (hx : (t, [u0, u1, u2, u3, u4, u5, u6, u7, u8]) ∈ ts) : RetU S L gt C g w0 t σ (.returned (.agg #[u0, u1, u2, u3, u4, u5, u6, u7, u8])) (((((((((w.setCell ⟨w0.heap.size, 0, none⟩ u0).setCell ⟨w0.heap.size, 1, none⟩ u1).setCell ⟨w0.heap.size, 2, none⟩ u2).setCell ⟨w0.heap.size, 3, none⟩ u3).setCell ⟨w0.heap.size, 4, none⟩ u4).setCell ⟨w0.heap.size, 5, none⟩ u5).setCell ⟨w0.heap.size, 6, none⟩ u6).setCell ⟨w0.heap.size, 7, none⟩ u7).setCell ⟨w0.heap.size, 8, none⟩ u8) := by
  have h1 := h.r.g0
  have h2 := h.r.gt0
  refine ⟨_, _, _, _, _, _, _, _, _, rfl, h.r.gr.put9 (Nat.le_refl _) _ _ _ _ _ _ _ _ _, h.r.p.far9 (by omega) (by omega) _ _ _ _ _ _ _ _ _, LiesF.move (h.t _ hx) fun b hb => ?_⟩
  rw [size9]
  rcases hb with hb | ⟨a1, a2, -⟩
  · have := (h.hS b hb).1
    exact ⟨.inl hb, heap9 _ _ _ _ _ _ _ _ _ _ _ b (by omega)⟩
  · exact ⟨.inr ⟨by omega, a2⟩, heap9 _ _ _ _ _ _ _ _ _ _ _ b (by omega)⟩
/-- The same with boxes laid behind it. -/
theorem RetU.alloc {e : Ending} (h : RetU S L gt C g w0 t σ e w) (hS : ∀ b, S b → b < w.heap.size) (o : Obj) : RetU S L gt C g w0 t σ e (w.alloc o) := by
  obtain ⟨c0, c1, c2, c3, c4, c5, c6, c7, c8, h1, h2, h3, h4⟩ := h
  refine ⟨c0, c1, c2, c3, c4, c5, c6, c7, c8, h1, h2.alloc o, h3.alloc o, LiesF.move h4 fun b hb => ?_⟩
  rcases hb with hb | ⟨a1, a2⟩
  · exact ⟨.inl hb, Below.heap_alloc _ _ _ (hS b hb)⟩
  · exact ⟨.inr ⟨a1, by simp; omega⟩, Below.heap_alloc _ _ _ a2⟩
end
end Go.Proofs.YthgnelkppibpeaaGreatDoor
