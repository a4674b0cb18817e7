/- The reference's Put. The reference's Obj. -/
import Derived.Test.YtgdnkankleoaoaaRMake
import Derived.Test.YtgdnkankleoaoaaObjC
import Derived.Test.YtgdnkankleoaoaaObj1
import Derived.StillTailTactics
import Derived.Deep.RegionHeld3
import Derived.Deep.CutBlock
import Derived.Deep.DeepCutAuto
import Derived.Deep.DrawnRows
import Derived.Test.YtgdnkankleoaoaaObj2
set_option linter.unusedVariables false
set_option linter.unusedSimpArgs false
namespace Go.Proofs.Ytgdnkankleoaoaa
open Go.RowKit
/-- The first i keys are less than the one that is put. -/
def LtAll (ks : List ByteArray) (key : ByteArray) (i : Nat) : Prop := ∀ j x, j < i → ks[j]? = some x → scmp x key < 0
theorem LtAll.start (ks : List ByteArray) (key : ByteArray) : LtAll ks key 0 := fun j x h => absurd h (Nat.not_lt_zero _)
theorem LtAll.step {ks : List ByteArray} {key : ByteArray} {i : Nat} (h : LtAll ks key i) {x : ByteArray} (hx : ks[i]? = some x) (hn : scmp x key < 0) : LtAll ks key (i + 1) := by
  intro j y hj hy
  rcases Nat.lt_or_ge j i with h1 | h1
  · exact h j y h1 hy
  · have : j = i := by omega
    subst this
    rw [hx] at hy
    injection hy with hy
    subst hy
    exact hn
theorem empty_own (W : World) (e : TypeId) (size : Nat) : (W.alloc (.cells #[] e)).ownsRow W.heap.size e size (.slice (some ⟨W.heap.size, 0, none⟩) 0 0) 0 [] := by
  have h := World.ownsRow_lit (base := W.heap.size) (e := e) (size := size) W #[] 0 (by simp) (by unfold maxLen; omega) (by simp)
  simpa using h
theorem size_string : ∀ w, (sizeOf 9).run Try.prog w = .ok 1 w := Try.sizeOf9
theorem size_value : ∀ w, (sizeOf 28).run Try.prog w = .ok 5 w := Try.sizeOf28
/-- The state of Put: its boxes, and the keys and elements of the object that is made. -/
structure PSt (w0 W : World) (S : Nat → Prop) (vc : Array Value) (kl : List ByteArray) (el : List V) (vK vE : Value) (ys : List Value) (w : World) : Prop where
  below : Below w0.heap.size w0 w
  vb : Box w w0.heap.size 28 vc
  rb : Box w (w0.heap.size + 2) 28 #[.int .i64 0, .int .i64 0, .string ⟨#[]⟩, .slice none 0 0, .slice none 0 0]
  ob : Box w W.heap.size 28 #[.int .i64 6, .int .i64 0, .string ⟨#[]⟩, vK, vE]
  keys : w.ownsRow (W.heap.size + 1) 9 1 vK kl.length (kv kl)
  elems : w.ownsRow (W.heap.size + 1) 28 5 vE el.length ys
  lies : LiesL w S el ys
theorem below_drew' {w w' : World} {B : Nat} (h : Below B w w') : Below B w w'.drew := h.drew
theorem box_below {w w' : World} {g : Nat} {t : TypeId} {cs : Array Value} (h : Box w g t cs) (hb : Below w.heap.size w w') : Box w' g t cs := h.below hb h.lt
theorem PSt.six {w W w3 w5 : World} {S : Nat → Prop} {vc : Array Value} {kl : List ByteArray} {el : List V} {vK : Value} {E2 : Option Addr} {m f2 : Nat} {ys : List Value} {u : Value} (hWw : w.heap.size + 3 = W.heap.size) (hwW : Below w.heap.size w W) (hb3 : Below W.heap.size W w3)
    (hv : Box w3 w.heap.size 28 vc) (hr : Box w3 (w.heap.size + 2) 28 #[.int .i64 0, .int .i64 0, .string ⟨#[]⟩, .slice none 0 0, .slice none 0 0]) (ho : Box w3 W.heap.size 28 #[.int .i64 6, .int .i64 0, .string ⟨#[]⟩, vK, u])
    (hk : w3.ownsRow (W.heap.size + 1) 9 1 vK kl.length (kv kl)) (hb5 : Below w3.heap.size w3 w5) (hown : w5.ownsRow (W.heap.size + 1) 28 5 (.slice E2 m f2) el.length ys) (hL : LiesL w S el ys) (hS : ∀ b, S b → b < w.heap.size) :
    PSt w W S vc kl el vK (.slice E2 m f2) ys (w5.setCell ⟨W.heap.size, 4, none⟩ (.slice E2 m f2)) := by
  have hbw : Below w.heap.size w w5 := chain hwW (chain hb3 hb5)
  refine ⟨hbw.setCell (by simp; omega) _, (box_below hv hb5).far (by simp; omega) _, (box_below hr hb5).far (by simp; omega) _, (box_below ho hb5).put 4 _, ownsRow_setCell_below (own_below hk hb5) (by simp) _, ownsRow_setCell_below hown (by simp) _, hL.move fun b hb => ⟨hb, ?_⟩⟩
  have := hS b hb
  rw [Below.heap_setCell _ _ _ _ (by simp; omega), hbw.block b this]
theorem PSt.addK {w W wc w5 : World} {S : Nat → Prop} {vc : Array Value} {kl kl' : List ByteArray} {el : List V} {vK vE : Value} {ys : List Value} {u : Value} (h : PSt w W S vc kl el vK vE ys wc) (hW : w.heap.size + 3 = W.heap.size) (hS : ∀ b, S b → b < w.heap.size)
    (hg : wc.grownBy w5 vK.ownBlock) (hown : w5.ownsRow (W.heap.size + 1) 9 1 u kl'.length (kv kl')) : PSt w W S vc kl' el u vE ys (w5.setCell ⟨W.heap.size, 3, none⟩ u) := by
  have hlt : ∀ j, vK.ownBlock = some j → W.heap.size + 1 ≤ j := fun j hj => (h.keys.lt j hj).1
  have hbw : Below w.heap.size w w5 := h.below.grown hg h.below.size (fun j hj => by have := hlt j hj; omega)
  refine ⟨hbw.setCell (by simp; omega) _, (h.vb.grown hg fun e => by have := hlt _ e.symm; omega).far (by simp; omega) _, (h.rb.grown hg fun e => by have := hlt _ e.symm; omega).far (by simp; omega) _, (h.ob.grown hg fun e => by have := hlt _ e.symm; omega).put 3 _, ownsRow_setCell_below hown (by simp) _, ownsRow_setCell_below (h.elems.kept hg (own_apart h.keys h.elems).2) (by simp) _, h.lies.move fun b hb => ⟨hb, ?_⟩⟩
  have := hS b hb
  rw [Below.heap_setCell _ _ _ _ (by simp; omega), hbw.block b this, h.below.block b this]
theorem PSt.addE {w W wc w5 : World} {S : Nat → Prop} {vc : Array Value} {kl : List ByteArray} {el el' : List V} {vK vE : Value} {ys ys' : List Value} {u : Value} (h : PSt w W S vc kl el vK vE ys wc) (hW : w.heap.size + 3 = W.heap.size) (hS : ∀ b, S b → b < w.heap.size)
    (hg : wc.grownBy w5 vE.ownBlock) (hown : w5.ownsRow (W.heap.size + 1) 28 5 u el'.length ys') (hL : LiesL w S el' ys') : PSt w W S vc kl el' vK u ys' (w5.setCell ⟨W.heap.size, 4, none⟩ u) := by
  have hlt : ∀ j, vE.ownBlock = some j → W.heap.size + 1 ≤ j := fun j hj => (h.elems.lt j hj).1
  have hbw : Below w.heap.size w w5 := h.below.grown hg h.below.size (fun j hj => by have := hlt j hj; omega)
  refine ⟨hbw.setCell (by simp; omega) _, (h.vb.grown hg fun e => by have := hlt _ e.symm; omega).far (by simp; omega) _, (h.rb.grown hg fun e => by have := hlt _ e.symm; omega).far (by simp; omega) _, (h.ob.grown hg fun e => by have := hlt _ e.symm; omega).put 4 _, ownsRow_setCell_below (h.keys.kept hg (own_apart h.keys h.elems).1) (by simp) _, ownsRow_setCell_below hown (by simp) _, hL.move fun b hb => ⟨hb, ?_⟩⟩
  have := hS b hb
  rw [Below.heap_setCell _ _ _ _ (by simp; omega), hbw.block b this]
theorem PSt.out {w W wc : World} {S : Nat → Prop} {vc : Array Value} {kl : List ByteArray} {el : List V} {K E : Option Addr} {n m k e : Nat} {ys : List Value} (h : PSt w W S vc kl el (.slice K n k) (.slice E m e) ys wc) (hW : w.heap.size + 3 = W.heap.size)
    (hn : n = kl.length) (hm : m = el.length) (h1 : ∀ x ∈ kl, x.size ≤ 140737488355328) (h2 : kl.length ≤ 140737488355328) (h3 : el.length ≤ 140737488355328) :
    Lies wc (fun b => S b ∨ (w.heap.size + 3 < b ∧ b < wc.heap.size)) (.mk 6 0 ⟨#[]⟩ kl el) [.int .i64 6, .int .i64 0, .string ⟨#[]⟩, .slice K n k, .slice E m e] := by
  subst hn hm
  obtain ⟨A1, c1, e1, a1, a2, a3, a4⟩ := own_open h.keys
  obtain ⟨A2, c2, e2, b1, b2, b3, b4⟩ := own_open h.elems
  injection e1 with e1 _ e1'
  injection e2 with e2 _ e2'
  subst e1 e1' e2 e2'
  rw [Lies]
  exact ⟨⟨Nat.zero_le _, h1, h2, h3⟩, K, k, E, e, ys, rfl, a1, b1, ⟨a2, a3⟩, ⟨b2, b3⟩, a4.move fun b hb => ⟨.inr ⟨by omega, hb.2.1⟩, rfl⟩, b4.move fun b hb => ⟨.inr ⟨by omega, hb.2.1⟩, rfl⟩, h.lies.move fun b hb => ⟨.inl hb, rfl⟩⟩
end Go.Proofs.Ytgdnkankleoaoaa
namespace Go.Proofs.Ytgdnkankleoaoaa
open Go.RowKit Go.Sort
theorem putP_len {k : ByteArray} {x : V} : ∀ ps : PL, (putP ps k x).length ≤ ps.length + 1
  | [] => by simp [putP]
  | (y, v) :: r => by
    rw [putP]
    split
    · have := putP_len (k := k) (x := x) r
      simp only [List.length_cons]; omega
    · split <;> simp
theorem putAll_len : ∀ ms : List Mb, (putAll ms).length ≤ ms.length :=
  rev_ind (by simp [putAll]) fun l m ih => by
    rw [putAll_snoc]
    have := putP_len (k := m.key) (x := m.v) (putAll l)
    simp only [List.length_append, List.length_cons, List.length_nil]
    omega
/-- The state of the loop that puts. -/
structure RSt (w0 : World) (g : Nat) (ps : PL) (cs : List Value) (w : World) : Prop where
  below : Below w0.heap.size w0 w
  res : Box w w0.heap.size 28 #[.int .i64 0, .int .i64 0, .string ⟨#[]⟩, .slice none 0 0, .slice none 0 0]
  box : Box w g 28 cs.toArray
  gt : w0.heap.size < g
  lies : Lies w (fun b => b < w0.heap.size ∨ (g < b ∧ b < w.heap.size)) (objL ps) cs
theorem RSt.step {w0 w w' : World} {g : Nat} {ps ps' : PL} {u0 u1 u2 u3 u4 v0 v1 v2 v3 v4 : Value} (h : RSt w0 g ps [u0, u1, u2, u3, u4] w) (hb : Below w.heap.size w w')
    (hl : Lies w' (fun b => (b < w0.heap.size ∨ (g < b ∧ b < w.heap.size)) ∨ (w.heap.size + 3 < b ∧ b < w'.heap.size)) (objL ps') [v0, v1, v2, v3, v4]) :
    RSt w0 g ps' [v0, v1, v2, v3, v4] (((((w'.setCell ⟨g, 0, none⟩ v0).setCell ⟨g, 1, none⟩ v1).setCell ⟨g, 2, none⟩ v2).setCell ⟨g, 3, none⟩ v3).setCell ⟨g, 4, none⟩ v4) := by
  have hgt := h.gt
  have hgl := h.box.lt
  have hbx := box_below h.box hb
  have hrs := box_below h.res hb
  refine ⟨below_five_at (by omega) (chain h.below hb) _ _ _ _ _, ((((hrs.far (by simp; omega) _).far (by simp; omega) _).far (by simp; omega) _).far (by simp; omega) _).far (by simp; omega) _, ((((hbx.put 0 v0).put 1 v1).put 2 v2).put 3 v3).put 4 v4, hgt, hl.move fun b hb' => ?_⟩
  have hsz := hb.size
  have hne : b ≠ g := by omega
  refine ⟨?_, ?_⟩
  · rcases hb' with h1 | h1
    · rcases h1 with h1 | h1
      · exact .inl h1
      · exact .inr ⟨h1.1, by have := h1.2; simp [World.setCell]; omega⟩
    · exact .inr ⟨by omega, by have := h1.2; simp [World.setCell]; omega⟩
  · rw [Below.heap_setCell _ _ _ _ (by simpa using hne), Below.heap_setCell _ _ _ _ (by simpa using hne), Below.heap_setCell _ _ _ _ (by simpa using hne), Below.heap_setCell _ _ _ _ (by simpa using hne), Below.heap_setCell _ _ _ _ (by simpa using hne)]
end Go.Proofs.Ytgdnkankleoaoaa
