import Derived.Test.YtoleoimmpggldaaGreatDoorQD
import Derived.Test.YtoleoimmpggldaaGreatDoorQB
import Derived.Lib.Hide
import Derived.Deep.QuietTactic
import Derived.BigQuiet
import Derived.StillTailTactics
import Derived.Deep.RegionHeld3
import Derived.Deep.CutBlock
import Derived.Deep.DeepCutAuto
import Derived.Deep.LoopGhost
import Derived.Test.YtoleoimmpggldaaGreatDoorProg
set_option linter.unusedVariables false
set_option linter.unusedSectionVars false
set_option linter.unusedSimpArgs false
set_option maxHeartbeats 4000000
set_option maxRecDepth 100000
namespace Go.Proofs.YtoleoimmpggldaaGreatDoor
open Go.RowKit
mutual
def LiesF (w : World) (S : Nat → Prop) : Ft → List Value → Prop
 | .mk op tx v ps fs, cs => (tx.size ≤ 140737488355328 ∧ (∀ x ∈ ps, x.size ≤ 140737488355328) ∧ ps.length ≤ 140737488355328 ∧ fs.length ≤ 140737488355328) ∧
  ∃ (vc : List Value) (A : Option Addr) (a : Nat) (B : Option Addr) (b : Nat) (xs : List Value), cs = [ι op, .string tx] ++ (vc ++ [.slice A ps.length a, .slice B fs.length b]) ∧ Lies w S v vc ∧
   (A = none → a = 0) ∧ (B = none → b = 0) ∧ (ps.length ≤ a ∧ a ≤ maxLen) ∧ (fs.length ≤ b ∧ b ≤ maxLen) ∧ Rs w S A (kv ps) ∧ Rs w S B xs ∧ LiesFL w S fs xs
def LiesFL (w : World) (S : Nat → Prop) : List Ft → List Value → Prop
 | [], xs => xs = []
 | e :: es, xs => ∃ c r, xs = c ++ r ∧ LiesF w S e c ∧ LiesFL w S es r
end
mutual
def Ft.sz : Ft → Nat
 | .mk _ _ _ _ fs => 1 + Ft.szL fs
def Ft.szL : List Ft → Nat
 | [] => 0
 | e :: es => e.sz + Ft.szL es
end
theorem fszL_mem {e : Ft} {es : List Ft} (h : e ∈ es) : e.sz ≤ Ft.szL es := by
 induction es with
 | nil => cases h
 | cons x r ih =>
  rw [Ft.szL];rcases List.mem_cons.1 h with rfl | h
  · omega
  · have := ih h; omega
theorem Ft.ind {p : Ft → Prop} (step : ∀ op tx v ps fs, (∀ e ∈ fs, p e) → p (.mk op tx v ps fs)) : ∀ f, p f := by
 have h : ∀ m f, Ft.sz f ≤ m → p f := by
  intro m
  induction m with
  | zero => intro f hf; cases f; rw [Ft.sz] at hf; omega
  | succ m ih =>
   intro f hf
   cases f with
   | mk op tx v ps fs =>
    refine step op tx v ps fs fun e he => ih e ?_
    have := fszL_mem he;rw [Ft.sz] at hf;omega
 exact fun f => h _ f (Nat.le_refl _)
theorem liesF_move_all {w w' : World} {S S' : Nat → Prop} (hk : ∀ b, S b → S' b ∧ w'.heap[b]? = w.heap[b]?) : ∀ f : Ft, ∀ cs, LiesF w S f cs → LiesF w' S' f cs := by
 refine Ft.ind fun op tx v ps fs ih cs h => ?_
 rw [LiesF] at h ⊢;obtain ⟨h0, vc, A, a, B, b, xs, hcs, hv, h1, h2, h3, h4, hA, hB, hL⟩ := h;refine ⟨h0, vc, A, a, B, b, xs, hcs, hv.move hk, h1, h2, h3, h4, hA.move hk, hB.move hk, ?_⟩;clear hcs hB h0 h2 h4
 induction fs generalizing xs with
 | nil => rw [LiesFL] at hL ⊢; exact hL
 | cons e es ihl =>
  rw [LiesFL] at hL ⊢;obtain ⟨c, r, hx, hc, hr⟩ := hL;exact ⟨c, r, hx, ih e (by simp) c hc, ihl (fun u hu => ih u (by simp [hu])) r hr⟩
theorem LiesF.move {w w' : World} {S S' : Nat → Prop} {f : Ft} {cs : List Value} (h : LiesF w S f cs) (hk : ∀ b, S b → S' b ∧ w'.heap[b]? = w.heap[b]?) : LiesF w' S' f cs := liesF_move_all hk f cs h
theorem LiesFL.move {w w' : World} {S S' : Nat → Prop} {es : List Ft} {xs : List Value} (h : LiesFL w S es xs) (hk : ∀ b, S b → S' b ∧ w'.heap[b]? = w.heap[b]?) : LiesFL w' S' es xs := by
 induction es generalizing xs with
 | nil => rw [LiesFL] at h ⊢; exact h
 | cons e es ihl =>
  rw [LiesFL] at h ⊢;obtain ⟨c, r, hx, hc, hr⟩ := h;exact ⟨c, r, hx, hc.move hk, ihl hr⟩
theorem Lies.cells5 {w : World} {S : Nat → Prop} {v : V} {cs : List Value} (h : Lies w S v cs) : ∃ v0 v1 v2 v3 v4, cs = [v0, v1, v2, v3, v4] := by
 have h5 := h.five
 match cs, h5 with
 | [v0, v1, v2, v3, v4], _ => exact ⟨_, _, _, _, _, rfl⟩
theorem liesF_open {w : World} {S : Nat → Prop} {op : Int} {tx : ByteArray} {v : V} {ps : List ByteArray} {fs : List Ft} {cs : List Value} (h : LiesF w S (.mk op tx v ps fs) cs) :
 ∃ (v0 v1 v2 v3 v4 : Value) (A : Option Addr) (a : Nat) (B : Option Addr) (b : Nat) (xs : List Value), cs = [ι op, .string tx, v0, v1, v2, v3, v4, .slice A ps.length a, .slice B fs.length b] ∧ Lies w S v [v0, v1, v2, v3, v4] ∧
  (A = none → a = 0) ∧ (B = none → b = 0) ∧ (ps.length ≤ a ∧ a ≤ maxLen) ∧ (fs.length ≤ b ∧ b ≤ maxLen) ∧ Rs w S A (kv ps) ∧ Rs w S B xs ∧ LiesFL w S fs xs := by
 rw [LiesF] at h;obtain ⟨_, vc, A, a, B, b, xs, hcs, hv, h1⟩ := h;obtain ⟨v0, v1, v2, v3, v4, rfl⟩ := hv.cells5;exact ⟨v0, v1, v2, v3, v4, A, a, B, b, xs, hcs, hv, h1⟩
theorem liesF_mk {w : World} {S : Nat → Prop} {op : Int} {tx : ByteArray} {v : V} {ps : List ByteArray} {fs : List Ft} {v0 v1 v2 v3 v4 : Value} {A B : Option Addr} {a b : Nat} {xs : List Value}
 (h0 : tx.size ≤ 140737488355328 ∧ (∀ x ∈ ps, x.size ≤ 140737488355328) ∧ ps.length ≤ 140737488355328 ∧ fs.length ≤ 140737488355328) (hv : Lies w S v [v0, v1, v2, v3, v4])
 (h1 : A = none → a = 0) (h2 : B = none → b = 0) (h3 : ps.length ≤ a ∧ a ≤ maxLen) (h4 : fs.length ≤ b ∧ b ≤ maxLen) (hA : Rs w S A (kv ps)) (hB : Rs w S B xs) (hL : LiesFL w S fs xs) :
 LiesF w S (.mk op tx v ps fs) [ι op, .string tx, v0, v1, v2, v3, v4, .slice A ps.length a, .slice B fs.length b] := by
 rw [LiesF];exact ⟨h0, [v0, v1, v2, v3, v4], A, a, B, b, xs, rfl, hv, h1, h2, h3, h4, hA, hB, hL⟩
theorem LiesF.nine {w : World} {S : Nat → Prop} {f : Ft} {cs : List Value} (h : LiesF w S f cs) : cs.length = 9 := by
 cases f with
 | mk op tx v ps fs => obtain ⟨v0, v1, v2, v3, v4, A, a, B, b, xs, rfl, _⟩ := liesF_open h; rfl
theorem LiesF.cells9 {w : World} {S : Nat → Prop} {f : Ft} {cs : List Value} (h : LiesF w S f cs) : ∃ c0 c1 c2 c3 c4 c5 c6 c7 c8, cs = [c0, c1, c2, c3, c4, c5, c6, c7, c8] := by
 have h9 := h.nine
 match cs, h9 with
 | [c0, c1, c2, c3, c4, c5, c6, c7, c8], _ => exact ⟨_, _, _, _, _, _, _, _, _, rfl⟩
theorem LiesFL.nil (w : World) (S : Nat → Prop) : LiesFL w S [] [] := by rw [LiesFL]
theorem LiesFL.one {w : World} {S : Nat → Prop} {f : Ft} {cs : List Value} (h : LiesF w S f cs) : LiesFL w S [f] cs := by
 rw [LiesFL]; exact ⟨cs, [], by simp, h, LiesFL.nil _ _⟩
theorem LiesFL.append {w : World} {S : Nat → Prop} {es fs : List Ft} {xs ys : List Value} (h : LiesFL w S es xs) (k : LiesFL w S fs ys) : LiesFL w S (es ++ fs) (xs ++ ys) := by
 induction es generalizing xs with
 | nil => rw [LiesFL] at h; subst h; exact k
 | cons x es ih =>
  rw [LiesFL] at h;obtain ⟨d, r, rfl, hd, hr⟩ := h;rw [List.cons_append, LiesFL];exact ⟨d, r ++ ys, by rw [List.append_assoc], hd, ih hr⟩
theorem LiesFL.len {w : World} {S : Nat → Prop} {es : List Ft} {xs : List Value} (h : LiesFL w S es xs) : xs.length = es.length * 9 := by
 induction es generalizing xs with
 | nil => rw [LiesFL] at h; subst h; rfl
 | cons e es ih =>
  rw [LiesFL] at h;obtain ⟨c, r, rfl, hc, hr⟩ := h;rw [List.length_append, hc.nine, ih hr, List.length_cons];omega
theorem LiesFL.at_ {w : World} {S : Nat → Prop} {es : List Ft} {xs : List Value} (h : LiesFL w S es xs) {i : Nat} {e : Ft} (hi : es[i]? = some e) : ∃ c, LiesF w S e c ∧ ∀ j, j < 9 → xs[i * 9 + j]? = c[j]? := by
 induction es generalizing xs i with
 | nil => simp at hi
 | cons x es ih =>
  rw [LiesFL] at h;obtain ⟨c, r, rfl, hc, hr⟩ := h;have h9 := hc.nine
  cases i with
  | zero =>
   simp at hi;subst hi;exact ⟨c, hc, fun j hj => by rw [Nat.zero_mul, Nat.zero_add, List.getElem?_append_left (by omega)]⟩
  | succ i =>
   obtain ⟨c', hc', hx⟩ := ih hr (by simpa using hi);refine ⟨c', hc', fun j hj => ?_⟩;rw [List.getElem?_append_right (by omega), ← hx j hj]
   congr 1
   omega
def Sg (w : World) (g : Nat) : Nat → Prop := fun b => b < w.heap.size ∧ b ≠ g
def Gr (g : Nat) (w w' : World) : Prop := w.grownBy w' (some g)
theorem Gr.refl (g : Nat) (w : World) : Gr g w w := World.grownBy.refl w _
theorem Gr.trans {g : Nat} {a b c : World} (h : Gr g a b) (k : Gr g b c) : Gr g a c := grown_trans h k
theorem Gr.below {g : Nat} {w w' : World} (h : Below w.heap.size w w') : Gr g w w' := below_grown h _
theorem Gr.size {g : Nat} {w w' : World} (h : Gr g w w') : w.heap.size ≤ w'.heap.size := World.grownBy.size h
theorem Gr.block {g : Nat} {w w' : World} (h : Gr g w w') {b : Nat} (hb : b < w.heap.size) (hn : b ≠ g) : w'.heap[b]? = w.heap[b]? := World.grownBy.block h b hb (fun e => hn (by injection e))
theorem Gr.cell {g : Nat} {w w' : World} (h : Gr g w w') {b o : Nat} (hb : b < w.heap.size) (hn : b ≠ g) : w'.cell? ⟨b, o, none⟩ = w.cell? ⟨b, o, none⟩ := World.cell?_of_block (h.block hb hn)
theorem Gr.alloc {g : Nat} {w w' : World} (h : Gr g w w') (o : Obj) : Gr g w (w'.alloc o) := h.trans (World.grownBy_alloc w' o _)
theorem Gr.set {g : Nat} {w w' : World} (h : Gr g w w') (i : Nat) (u : Value) : Gr g w (w'.setCell ⟨g, i, none⟩ u) := h.trans (grown_set w' g i u)
theorem Gr.sg {g : Nat} {w w' : World} (h : Gr g w w') : ∀ b, Sg w g b → Sg w' g b ∧ w'.heap[b]? = w.heap[b]? := fun b hb => ⟨⟨nT hb.1 h.size, hb.2⟩, h.block hb.1 hb.2⟩
theorem LiesF.gr {g : Nat} {w w' : World} {f : Ft} {cs : List Value} (h : LiesF w (Sg w g) f cs) (k : Gr g w w') : LiesF w' (Sg w' g) f cs := h.move k.sg
theorem LiesFL.gr {g : Nat} {w w' : World} {f : List Ft} {cs : List Value} (h : LiesFL w (Sg w g) f cs) (k : Gr g w w') : LiesFL w' (Sg w' g) f cs := h.move k.sg
theorem Lies.gr {g : Nat} {w w' : World} {f : V} {cs : List Value} (h : Lies w (Sg w g) f cs) (k : Gr g w w') : Lies w' (Sg w' g) f cs := h.move k.sg
theorem Rs.gr {g : Nat} {w w' : World} {A : Option Addr} {xs : List Value} (h : Rs w (Sg w g) A xs) (k : Gr g w w') : Rs w' (Sg w' g) A xs := h.move k.sg
theorem lies_vz (w : World) (S : Nat → Prop) : Lies w S vz [ι 0, ι 0, eS, nL, nL] := by
 unfold vz;rw [Lies];refine ⟨⟨by decide, by simp, by simp, by simp⟩, none, 0, none, 0, [], rfl, fun _ => rfl, fun _ => rfl, by simp [maxLen], by simp [maxLen], ?_, Rs.nil _ _ _, by rw [LiesL]⟩;exact Rs.nil _ _ _
theorem lies_leaf (w : World) (S : Nat → Prop) (k n : Int) (s : ByteArray) (hs : s.size ≤ 140737488355328) : Lies w S (.mk k n s [] []) [ι k, ι n, .string s, nL, nL] := by
 rw [Lies];refine ⟨⟨hs, by simp, by simp, by simp⟩, none, 0, none, 0, [], rfl, fun _ => rfl, fun _ => rfl, by simp [maxLen], by simp [maxLen], ?_, Rs.nil _ _ _, by rw [LiesL]⟩;exact Rs.nil _ _ _
theorem liesF_leaf (w : World) (S : Nat → Prop) (op : Int) (tx : ByteArray) (v : V) {v0 v1 v2 v3 v4 : Value} (hs : tx.size ≤ 140737488355328) (hv : Lies w S v [v0, v1, v2, v3, v4]) :
 LiesF w S (.mk op tx v [] []) [ι op, .string tx, v0, v1, v2, v3, v4, nL, nL] :=
 liesF_mk (A := none) (B := none) (a := 0) (b := 0) (xs := []) ⟨hs, by simp, by simp, by simp⟩ hv (fun _ => rfl) (fun _ => rfl) (by simp [maxLen]) (by simp [maxLen]) (Rs.nil _ _ _) (Rs.nil _ _ _) (LiesFL.nil _ _)
end Go.Proofs.YtoleoimmpggldaaGreatDoor
namespace Go.Proofs.YtoleoimmpggldaaGreatDoor
open Go.RowKit
def rowK (ts : List Fk) : List Value := ts.flatMap Fk.cs
theorem rowK_at (ts : List Fk) (k : Nat) (hk : k < ts.length) (j : Nat) (hj : j < 4) : (rowK ts)[k * 4 + j]? = (tk ts k).cs[j]? := by
 induction ts generalizing k with
 | nil => simp at hk
 | cons t r ih =>
  rw [show rowK (t :: r) = t.cs ++ rowK r from rfl]
  cases k with
  | zero =>
   rw [List.getElem?_append_left (by show _ < 4; omega)];rw [Nat.zero_mul, Nat.zero_add]
   rfl
  | succ k =>
   rw [List.getElem?_append_right (by show 4 ≤ _; omega)];have e : (k + 1) * 4 + j - t.cs.length = k * 4 + j := by show _ - 4 = _; omega
   rw [e, ih k (by simpa using hk)]
   rfl
structure TokL (L : List Fk) : Prop where
 e : EndL L
 size : ∀ k, (tk L k).s.size ≤ 1048576
 len : L.length ≤ 4096
def pcells (L : List Fk) (gt C : Nat) (σ : PS) : Array Value := #[.slice (some ⟨gt, σ.k * 4, none⟩) (L.length - σ.k) (C - σ.k), ι σ.o, ι σ.e, .bool σ.long, ι σ.lo]
structure PAt (L : List Fk) (gt C g : Nat) (w : World) (σ : PS) : Prop where
 lt : σ.k < L.length
 ne : gt ≠ g
 gtlt : gt < w.heap.size
 cap : L.length ≤ C
 capm : L.length ≤ 4096
 box : Box w g 44 (pcells L gt C σ)
 row : ∀ j u, (rowK L)[j]? = some u → w.cell? ⟨gt, j, none⟩ = some u
section
variable {L : List Fk} {gt C g : Nat} {w w' : World} {σ : PS}
theorem PAt.glt (h : PAt L gt C g w σ) : g < w.heap.size := h.box.lt
theorem PAt.below (h : PAt L gt C g w σ) {B : Nat} (hb : Below B w w') (hB : w.heap.size ≤ B) : PAt L gt C g w' σ :=
 ⟨h.lt, h.ne, nT h.gtlt hb.size, h.cap, h.capm, h.box.below hb (by have := h.glt; omega), fun j u hj => (hb.cell (p := ⟨gt, j, none⟩) (by have := h.gtlt; show gt < _; omega)).trans (h.row j u hj)⟩
theorem PAt.next (h : PAt L gt C g w σ) (hb : Below w.heap.size w w') : PAt L gt C g w' σ := h.below hb (Nat.le_refl _)
theorem PAt.alloc (h : PAt L gt C g w σ) (o : Obj) : PAt L gt C g (w.alloc o) σ := h.next ((Below.refl _ _).alloc (Nat.le_refl _) o)
theorem PAt.tok (h : PAt L gt C g w σ) {k : Nat} (hk : k < L.length) : w.cell? ⟨gt, k * 4, none⟩ = some (ι (tk L k).k) ∧ w.cell? ⟨gt, k * 4 + 1, none⟩ = some (ι (tk L k).o) ∧ w.cell? ⟨gt, k * 4 + 2, none⟩ = some (.string (tk L k).s) ∧ w.cell? ⟨gt, k * 4 + 3, none⟩ = some (ι (tk L k).i) :=
 ⟨h.row _ _ (rowK_at L k hk 0 (by omega)), h.row _ _ (rowK_at L k hk 1 (by omega)), h.row _ _ (rowK_at L k hk 2 (by omega)), h.row _ _ (rowK_at L k hk 3 (by omega))⟩
theorem box5f {t : TypeId} {x0 x1 x2 x3 x4 : Value} (h : Box w g t #[x0, x1, x2, x3, x4]) : w.frozen? ⟨g, 0, none⟩ = false ∧ w.frozen? ⟨g, 1, none⟩ = false ∧ w.frozen? ⟨g, 2, none⟩ = false ∧ w.frozen? ⟨g, 3, none⟩ = false ∧ w.frozen? ⟨g, 4, none⟩ = false :=
 ⟨h.free 0, h.free 1, h.free 2, h.free 3, h.free 4⟩
end
theorem bcell {W w1 : World} (hb : Below W.heap.size W w1) : (∀ b o, b < W.heap.size → w1.cell? ⟨b, o, none⟩ = W.cell? ⟨b, o, none⟩) ∧ (∀ b o, b < W.heap.size → w1.frozen? ⟨b, o, none⟩ = W.frozen? ⟨b, o, none⟩) :=
 ⟨fun b o h => hb.cell (p := ⟨b, o, none⟩) h, fun b o h => hb.frozen (p := ⟨b, o, none⟩) h⟩
def PeekPost (t : Fk) (w : World) (e : Ending) (w' : World) : Prop := e = .returned (.agg #[ι t.k, ι t.o, .string t.s, ι t.i]) ∧ Below w.heap.size w w'
theorem peek_any {L : List Fk} {gt C g : Nat} {w : World} {σ : PS} (hP : PAt L gt C g w σ) : Calls Tryz.prog 53 #[.pointer (some ⟨g, 0, none⟩)] w (PeekPost (tk L σ.k) w) := by
 obtain ⟨b0, b1, b2, b3, b4⟩ := box5 hP.box;obtain ⟨t0, t1, t2, t3⟩ := hP.tok hP.lt;have hl := hP.glt;have hg := hP.gtlt;have hn : 0 < L.length - σ.k := by have := hP.lt; omega
 generalize tk L σ.k = t at t0 t1 t2 t3 ⊢;generalize L.length - σ.k = n at b0 hn;generalize C - σ.k = c at b0;generalize σ.k * 4 = o at *
 clear hP
 go_enter Tryz.func53, Tryz.ntmps53
 go_wp2_with fail;refine bodyPost_ret (v := .agg #[ι t.k, ι t.o, .string t.s, ι t.i]) (by simp [results, Tryz.results53, go_sem]) rfl ?_;exact ⟨rfl, (Below.refl _ _).alloc (Nat.le_refl _) _⟩

def BoolPost (b : Bool) (w : World) (e : Ending) (w' : World) : Prop := e = .returned (.bool b) ∧ Below w.heap.size w w'
theorem isw_any (t : Fk) (w : World) : Calls Tryz.prog 75 #[.agg #[ι t.k, ι t.o, .string t.s, ι t.i]] w (BoolPost (isW t) w) := by
 unfold isW;obtain ⟨k, o, s, i⟩ := t;dsimp only
 by_cases h7 : k = 7
 · subst h7
   go_enter Tryz.func75, Tryz.ntmps75
   go_wp2_with fail
   go_ret
   exact ⟨rfl, (Below.refl _ _).alloc (Nat.le_refl _) _⟩
 · have q7 : ((k : Int) == 7) = false := bF.2 (by omega);have e7 : (k == 7) = false := bF.2 h7;rw [e7]
   by_cases h2 : k = 2
   · subst h2;clear h7 e7
     go_enter Tryz.func75, Tryz.ntmps75
     go_wp2_with fail
     go_ret
     exact ⟨rfl, (Below.refl _ _).alloc (Nat.le_refl _) _⟩
   · have q2 : ((k : Int) == 2) = false := bF.2 (by omega);have e2 : (k == 2) = false := bF.2 h2;rw [e2];clear h7 e7 h2 e2
     go_enter Tryz.func75, Tryz.ntmps75
     go_wp2_with fail
     go_ret
     exact ⟨rfl, (Below.refl _ _).alloc (Nat.le_refl _) _⟩
theorem bytesInj {a b : ByteArray} (h : a.data.toList = b.data.toList) : a = b := by
 cases a; cases b; congr; exact Array.toList_inj.1 h
theorem streq (x y : ByteArray) : (x.toList == y.toList) = decide (x = y) := by
 rw [Bool.eq_iff_iff];rw [beq_iff_eq, decide_eq_true_eq]
 constructor
 · intro h;simp only [ByteArray.toList_eq] at h;exact bytesInj h
 · intro h; rw [h]
theorem sees_any {L : List Fk} {gt C g : Nat} {w : World} {σ : PS} (x : ByteArray) (hP : PAt L gt C g w σ) : Calls Tryz.prog 153 #[.pointer (some ⟨g, 0, none⟩), .string x] w (BoolPost (sees L x σ) w) := by
 have HK := hI (peek_any hP);have HI := hI (fun W => isw_any (tk L σ.k) W);unfold sees;generalize tk L σ.k = t at HK HI ⊢;obtain ⟨iw, hiw⟩ : ∃ b, isW t = b := ⟨_, rfl⟩
 rw [hiw] at HI ⊢;clear hP hiw
 cases iw with
 | false =>
  rw [Bool.false_and]
  go_enter Tryz.func153, Tryz.ntmps153
  go_wp2_with (first | (go_at_call 53; (with_reducible refine HK.out.mono ?_); rintro e w1 ⟨rfl, hb1⟩) | (go_at_call 75; (with_reducible refine (HI.out _).mono ?_); rintro e w2 ⟨rfl, hb2⟩))
  go_ret
  exact ⟨rfl, chain (hb1.alloc hb1.size _) hb2⟩
 | true =>
  rw [Bool.true_and]
  by_cases hx : t.s = x
  · rw [decide_eq_true hx];have qx : (t.s.toList == x.toList) = true := by rw [streq, decide_eq_true hx]
    clear hx
    go_enter Tryz.func153, Tryz.ntmps153
    go_wp2_with (first | (go_at_call 53; (with_reducible refine HK.out.mono ?_); rintro e w1 ⟨rfl, hb1⟩) | (go_at_call 75; (with_reducible refine (HI.out _).mono ?_); rintro e w2 ⟨rfl, hb2⟩; obtain ⟨hc2, hf2⟩ := bcell hb2))
    go_ret
    exact ⟨rfl, chain (hb1.alloc hb1.size _) hb2⟩
  · rw [decide_eq_false hx];have qx : (t.s.toList == x.toList) = false := by rw [streq, decide_eq_false hx]
    clear hx
    go_enter Tryz.func153, Tryz.ntmps153
    go_wp2_with (first | (go_at_call 53; (with_reducible refine HK.out.mono ?_); rintro e w1 ⟨rfl, hb1⟩) | (go_at_call 75; (with_reducible refine (HI.out _).mono ?_); rintro e w2 ⟨rfl, hb2⟩; obtain ⟨hc2, hf2⟩ := bcell hb2))
    go_ret
    exact ⟨rfl, chain (hb1.alloc hb1.size _) hb2⟩
theorem PAt.op {L : List Fk} {gt C g : Nat} {w : World} {σ : PS} (h : PAt L gt C g w σ) : ∃ o n c : Nat, σ.k * 4 = o ∧ L.length - σ.k = n ∧ C - σ.k = c ∧
 (w.cell? ⟨g, 0, none⟩ = some (.slice (some ⟨gt, o, none⟩) n c) ∧ w.cell? ⟨g, 1, none⟩ = some (ι σ.o) ∧ w.cell? ⟨g, 2, none⟩ = some (ι σ.e) ∧ w.cell? ⟨g, 3, none⟩ = some (.bool σ.long) ∧ w.cell? ⟨g, 4, none⟩ = some (ι σ.lo)) ∧
 (w.frozen? ⟨g, 0, none⟩ = false ∧ w.frozen? ⟨g, 1, none⟩ = false ∧ w.frozen? ⟨g, 2, none⟩ = false ∧ w.frozen? ⟨g, 3, none⟩ = false ∧ w.frozen? ⟨g, 4, none⟩ = false) ∧
 (w.cell? ⟨gt, o, none⟩ = some (ι (tk L σ.k).k) ∧ w.cell? ⟨gt, o + 1, none⟩ = some (ι (tk L σ.k).o) ∧ w.cell? ⟨gt, o + 2, none⟩ = some (.string (tk L σ.k).s) ∧ w.cell? ⟨gt, o + 3, none⟩ = some (ι (tk L σ.k).i)) ∧
 g < w.heap.size ∧ gt < w.heap.size ∧ ¬ gt = g ∧ 0 < n ∧ n ≤ c ∧ n ≤ 4096 :=
 ⟨_, _, _, rfl, rfl, rfl, box5 h.box, box5f h.box, h.tok h.lt, h.glt, h.gtlt, h.ne, by have := h.lt; omega, by have := h.cap; have := h.lt; omega, by have := h.capm; omega⟩
section
variable {L : List Fk} {gt C g : Nat} {w w' : World} {σ : PS}
theorem PAt.far (h : PAt L gt C g w σ) {r : Nat} (h1 : ¬ r = g) (h2 : ¬ r = gt) (i : Nat) (u : Value) : PAt L gt C g (w.setCell ⟨r, i, none⟩ u) σ :=
 ⟨h.lt, h.ne, by have := h.gtlt; simpa [World.setCell] using this, h.cap, h.capm, h.box.far (p := ⟨r, i, none⟩) (fun e => h1 e.symm) u, fun j u' hj => by
  rw [World.cell?_of_block (w := w) (Below.heap_setCell w ⟨r, i, none⟩ u gt (fun e => h2 e.symm))]; exact h.row j u' hj⟩
theorem PAt.own (h : PAt L gt C g w σ) {τ : PS} (i : Nat) (u : Value) (hk : τ.k < L.length) (he : (pcells L gt C σ).setIfInBounds i u = pcells L gt C τ) : PAt L gt C g (w.setCell ⟨g, i, none⟩ u) τ :=
 ⟨hk, h.ne, by have := h.gtlt; simpa [World.setCell] using this, h.cap, h.capm, by have := h.box.put i u; rw [he] at this; exact this, fun j u' hj => by
  rw [World.cell?_of_block (w := w) (Below.heap_setCell w ⟨g, i, none⟩ u gt (fun e => h.ne e))]; exact h.row j u' hj⟩
theorem PAt.step (h : PAt L gt C g w σ) (hk : σ.k + 1 < L.length) {o n c : Nat} (ho : σ.k * 4 + 4 = o) (hn : L.length - σ.k - 1 = n) (hc : C - σ.k - 1 = c) : PAt L gt C g (w.setCell ⟨g, 0, none⟩ (.slice (some ⟨gt, o, none⟩) n c)) (adv σ) := by
 subst ho; subst hn; subst hc;refine h.own 0 _ hk ?_;unfold pcells adv
 show (#[_, _, _, _, _] : Array Value) = _
 rw [show (σ.k + 1) * 4 = σ.k * 4 + 4 by omega, show L.length - (σ.k + 1) = L.length - σ.k - 1 by omega, show C - (σ.k + 1) = C - σ.k - 1 by omega]
theorem Gr.put (h : Gr g w w') {r : Nat} (hr : w.heap.size ≤ r) (i : Nat) (u : Value) : Gr g w (w'.setCell ⟨r, i, none⟩ u) := by
 refine ⟨h.os, h.tape, h.output, by have := h.size; simpa [World.setCell] using this, fun k hk hn => ?_⟩;rw [Below.heap_setCell w' ⟨r, i, none⟩ u k (by show k ≠ r; omega)];exact World.grownBy.block h k hk hn
end
section
variable {L : List Fk} {gt C g : Nat} {w w' : World} {σ : PS}
theorem PAt.far4 (h : PAt L gt C g w σ) {r : Nat} (h1 : ¬ r = g) (h2 : ¬ r = gt) (u0 u1 u2 u3 : Value) : PAt L gt C g ((((w.setCell ⟨r, 0, none⟩ u0).setCell ⟨r, 1, none⟩ u1).setCell ⟨r, 2, none⟩ u2).setCell ⟨r, 3, none⟩ u3) σ :=
 (((h.far h1 h2 0 u0).far h1 h2 1 u1).far h1 h2 2 u2).far h1 h2 3 u3
theorem Gr.put4 (h : Gr g w w') {r : Nat} (hr : w.heap.size ≤ r) (u0 u1 u2 u3 : Value) : Gr g w ((((w'.setCell ⟨r, 0, none⟩ u0).setCell ⟨r, 1, none⟩ u1).setCell ⟨r, 2, none⟩ u2).setCell ⟨r, 3, none⟩ u3) :=
 (((h.put hr 0 u0).put hr 1 u1).put hr 2 u2).put hr 3 u3
theorem box4' {t : TypeId} {x0 x1 x2 x3 : Value} (h : Box w g t #[x0, x1, x2, x3]) : (w.cell? ⟨g, 0, none⟩ = some x0 ∧ w.cell? ⟨g, 1, none⟩ = some x1 ∧ w.cell? ⟨g, 2, none⟩ = some x2 ∧ w.cell? ⟨g, 3, none⟩ = some x3) ∧ (w.frozen? ⟨g, 0, none⟩ = false ∧ w.frozen? ⟨g, 1, none⟩ = false ∧ w.frozen? ⟨g, 2, none⟩ = false ∧ w.frozen? ⟨g, 3, none⟩ = false) :=
 ⟨⟨h.cell rfl, h.cell rfl, h.cell rfl, h.cell rfl⟩, h.free 0, h.free 1, h.free 2, h.free 3⟩
theorem Gr.one (w : World) (o : Obj) : Gr g w (w.alloc o) := (Gr.refl g w).alloc o
theorem Gr.low (h : Gr g w w') {w2 : World} (hb : Below w'.heap.size w' w2) : Gr g w w2 := h.trans (Gr.below hb)
end
section
variable {w : World} {r : Nat} {t : TypeId}
theorem Box.put4 {x0 x1 x2 x3 : Value} (h : Box w r t #[x0, x1, x2, x3]) (u0 u1 u2 u3 : Value) : Box ((((w.setCell ⟨r, 0, none⟩ u0).setCell ⟨r, 1, none⟩ u1).setCell ⟨r, 2, none⟩ u2).setCell ⟨r, 3, none⟩ u3) r t #[u0, u1, u2, u3] := (((h.put 0 u0).put 1 u1).put 2 u2).put 3 u3
theorem Box.put9 {x0 x1 x2 x3 x4 x5 x6 x7 x8 : Value} (h : Box w r t #[x0, x1, x2, x3, x4, x5, x6, x7, x8]) (u0 u1 u2 u3 u4 u5 u6 u7 u8 : Value) : Box (((((((((w.setCell ⟨r, 0, none⟩ u0).setCell ⟨r, 1, none⟩ u1).setCell ⟨r, 2, none⟩ u2).setCell ⟨r, 3, none⟩ u3).setCell ⟨r, 4, none⟩ u4).setCell ⟨r, 5, none⟩ u5).setCell ⟨r, 6, none⟩ u6).setCell ⟨r, 7, none⟩ u7).setCell ⟨r, 8, none⟩ u8) r t #[u0, u1, u2, u3, u4, u5, u6, u7, u8] := by
 have h0 : Box (w.setCell ⟨r, 0, none⟩ u0) r t #[u0, x1, x2, x3, x4, x5, x6, x7, x8] := h.put 0 u0;have h1 : Box ((w.setCell ⟨r, 0, none⟩ u0).setCell ⟨r, 1, none⟩ u1) r t #[u0, u1, x2, x3, x4, x5, x6, x7, x8] := h0.put 1 u1;have h2 : Box (((w.setCell ⟨r, 0, none⟩ u0).setCell ⟨r, 1, none⟩ u1).setCell ⟨r, 2, none⟩ u2) r t #[u0, u1, u2, x3, x4, x5, x6, x7, x8] := h1.put 2 u2;have h3 : Box ((((w.setCell ⟨r, 0, none⟩ u0).setCell ⟨r, 1, none⟩ u1).setCell ⟨r, 2, none⟩ u2).setCell ⟨r, 3, none⟩ u3) r t #[u0, u1, u2, u3, x4, x5, x6, x7, x8] := h2.put 3 u3;have h4 : Box (((((w.setCell ⟨r, 0, none⟩ u0).setCell ⟨r, 1, none⟩ u1).setCell ⟨r, 2, none⟩ u2).setCell ⟨r, 3, none⟩ u3).setCell ⟨r, 4, none⟩ u4) r t #[u0, u1, u2, u3, u4, x5, x6, x7, x8] := h3.put 4 u4;have h5 : Box ((((((w.setCell ⟨r, 0, none⟩ u0).setCell ⟨r, 1, none⟩ u1).setCell ⟨r, 2, none⟩ u2).setCell ⟨r, 3, none⟩ u3).setCell ⟨r, 4, none⟩ u4).setCell ⟨r, 5, none⟩ u5) r t #[u0, u1, u2, u3, u4, u5, x6, x7, x8] := h4.put 5 u5;have h6 : Box (((((((w.setCell ⟨r, 0, none⟩ u0).setCell ⟨r, 1, none⟩ u1).setCell ⟨r, 2, none⟩ u2).setCell ⟨r, 3, none⟩ u3).setCell ⟨r, 4, none⟩ u4).setCell ⟨r, 5, none⟩ u5).setCell ⟨r, 6, none⟩ u6) r t #[u0, u1, u2, u3, u4, u5, u6, x7, x8] := h5.put 6 u6;have h7 : Box ((((((((w.setCell ⟨r, 0, none⟩ u0).setCell ⟨r, 1, none⟩ u1).setCell ⟨r, 2, none⟩ u2).setCell ⟨r, 3, none⟩ u3).setCell ⟨r, 4, none⟩ u4).setCell ⟨r, 5, none⟩ u5).setCell ⟨r, 6, none⟩ u6).setCell ⟨r, 7, none⟩ u7) r t #[u0, u1, u2, u3, u4, u5, u6, u7, x8] := h6.put 7 u7;have h8 : Box (((((((((w.setCell ⟨r, 0, none⟩ u0).setCell ⟨r, 1, none⟩ u1).setCell ⟨r, 2, none⟩ u2).setCell ⟨r, 3, none⟩ u3).setCell ⟨r, 4, none⟩ u4).setCell ⟨r, 5, none⟩ u5).setCell ⟨r, 6, none⟩ u6).setCell ⟨r, 7, none⟩ u7).setCell ⟨r, 8, none⟩ u8) r t #[u0, u1, u2, u3, u4, u5, u6, u7, u8] := h7.put 8 u8;exact h8
theorem box9 {x0 x1 x2 x3 x4 x5 x6 x7 x8 : Value} (h : Box w r t #[x0, x1, x2, x3, x4, x5, x6, x7, x8]) : w.cell? ⟨r, 0, none⟩ = some x0 ∧ w.cell? ⟨r, 1, none⟩ = some x1 ∧ w.cell? ⟨r, 2, none⟩ = some x2 ∧ w.cell? ⟨r, 3, none⟩ = some x3 ∧ w.cell? ⟨r, 4, none⟩ = some x4 ∧ w.cell? ⟨r, 5, none⟩ = some x5 ∧ w.cell? ⟨r, 6, none⟩ = some x6 ∧ w.cell? ⟨r, 7, none⟩ = some x7 ∧ w.cell? ⟨r, 8, none⟩ = some x8 :=
 ⟨h.cell rfl, h.cell rfl, h.cell rfl, h.cell rfl, h.cell rfl, h.cell rfl, h.cell rfl, h.cell rfl, h.cell rfl⟩
theorem box9f {x0 x1 x2 x3 x4 x5 x6 x7 x8 : Value} (h : Box w r t #[x0, x1, x2, x3, x4, x5, x6, x7, x8]) : w.frozen? ⟨r, 0, none⟩ = false ∧ w.frozen? ⟨r, 1, none⟩ = false ∧ w.frozen? ⟨r, 2, none⟩ = false ∧ w.frozen? ⟨r, 3, none⟩ = false ∧ w.frozen? ⟨r, 4, none⟩ = false ∧ w.frozen? ⟨r, 5, none⟩ = false ∧ w.frozen? ⟨r, 6, none⟩ = false ∧ w.frozen? ⟨r, 7, none⟩ = false ∧ w.frozen? ⟨r, 8, none⟩ = false :=
 ⟨h.free 0, h.free 1, h.free 2, h.free 3, h.free 4, h.free 5, h.free 6, h.free 7, h.free 8⟩
theorem post4 {fn : Func} {a : Act} {R : Ending → World → Prop} {slot : Nat} {c0 c1 c2 c3 : Value} (hres : fn.results = #[ResultVar.cell slot 41]) (ht : a.tmps.getD slot undef = .pointer (some ⟨r, 0, none⟩)) (hd : a.defers = [])
 (hB : Box w r t #[c0, c1, c2, c3]) (h : R (.returned (.agg #[c0, c1, c2, c3])) w) : bodyPost Tryz.prog fn R Exit.ret a w := by
 obtain ⟨⟨y0, y1, y2, y3⟩, -⟩ := box4' hB;have ht2 : a.tmps[slot]?.getD undef = .pointer (some ⟨r, 0, none⟩) := by simpa using ht
 exact bodyPost_ret (v := .agg #[c0, c1, c2, c3]) (by simp [results, hres, ht2, go_sem, y0, y1, y2, y3]) hd h
theorem post9 {fn : Func} {a : Act} {R : Ending → World → Prop} {slot : Nat} {c0 c1 c2 c3 c4 c5 c6 c7 c8 : Value} (hres : fn.results = #[ResultVar.cell slot 29]) (ht : a.tmps.getD slot undef = .pointer (some ⟨r, 0, none⟩)) (hd : a.defers = [])
 (hB : Box w r t #[c0, c1, c2, c3, c4, c5, c6, c7, c8]) (h : R (.returned (.agg #[c0, c1, c2, c3, c4, c5, c6, c7, c8])) w) : bodyPost Tryz.prog fn R Exit.ret a w := by
 obtain ⟨y0, y1, y2, y3, y4, y5, y6, y7, y8⟩ := box9 hB;have ht2 : a.tmps[slot]?.getD undef = .pointer (some ⟨r, 0, none⟩) := by simpa using ht
 exact bodyPost_ret (v := .agg #[c0, c1, c2, c3, c4, c5, c6, c7, c8]) (by simp [results, hres, ht2, go_sem, y0, y1, y2, y3, y4, y5, y6, y7, y8]) hd h
end
def ReadPost (L : List Fk) (gt C g : Nat) (w : World) (t : Fk) (τ : PS) (e : Ending) (w' : World) : Prop := e = .returned (.agg #[ι t.k, ι t.o, .string t.s, ι t.i]) ∧ Gr g w w' ∧ PAt L gt C g w' τ
theorem read_any {L : List Fk} (hL : TokL L) {gt C g : Nat} {w : World} {σ : PS} (hP : PAt L gt C g w σ) : Calls Tryz.prog 26 #[.pointer (some ⟨g, 0, none⟩)] w (ReadPost L gt C g w (tk L σ.k) (readP L σ)) := by
 have HP := hI hP;have HN := hI (hL.e.next hP.lt);have hg := hP.glt;have hgt := hP.gtlt;unfold readP
 by_cases h0 : (tk L σ.k).k = 0
 · rw [if_pos h0];have HK := hI (fun W (h : PAt L gt C g W σ) => peek_any h);generalize tk L σ.k = t at HK h0 HN ⊢;obtain ⟨k, o, s, i⟩ := t;dsimp only at h0;subst h0;clear hP
   go_enter Tryz.func26, Tryz.ntmps26
   go_wp2_with fail;refine (HK.out _ (HP.out.alloc _)).mono ?_;rintro e w1 ⟨rfl, hb1⟩;have HP1 := hI ((HP.out.alloc _).next hb1);have HG1 := hI ((Gr.one (g := g) w _).low hb1);have HR1 := hI (Box.below (Box.laid w 41 #[ι 0, ι 0, eS, ι 0]) hb1 (by simp));obtain ⟨⟨y0, y1, y2, y3⟩, z0, z1, z2, z3⟩ := box4' HR1.out;have hlt : w.heap.size < w1.heap.size := by have := hb1.size; simp at this; omega
   clear hb1;go_wp2_with fail;refine post4 Tryz.results26 rfl rfl ((HR1.out.put4 _ _ _ _).alloc _) ?_;exact ⟨rfl, (HG1.out.put4 (Nat.le_refl _) _ _ _ _).alloc _, (HP1.out.far4 (by omega) (by omega) _ _ _ _).alloc _⟩
 · rw [if_neg h0];have hn := HN.out h0;clear HN;have HK := hI (fun W (h : PAt L gt C g W σ) => peek_any h);have q0 : (((tk L σ.k).k : Int) != 0) = true := by rw [bne_iff_ne]; omega
   generalize tk L σ.k = t at HK h0 q0 ⊢;obtain ⟨k, o, s, i⟩ := t;dsimp only at h0 q0;clear hP h0
   go_enter Tryz.func26, Tryz.ntmps26
   go_wp2_with fail;refine (HK.out _ (HP.out.alloc _)).mono ?_;rintro e w1 ⟨rfl, hb1⟩;have hP1 := ((HP.out.alloc _).next hb1)
   have HP1 := hI hP1;have HG1 := hI ((Gr.one (g := g) w _).low hb1);have HR1 := hI (Box.below (Box.laid w 41 #[ι 0, ι 0, eS, ι 0]) hb1 (by simp));obtain ⟨⟨y0, y1, y2, y3⟩, z0, z1, z2, z3⟩ := box4' HR1.out;have hlt : w.heap.size < w1.heap.size := by have := hb1.size; simp at this; omega
   obtain ⟨o1, n1, c1, ho, hn1, hc1, ⟨b0, b1, b2, b3, b4⟩, ⟨f0, f1, f2, f3, f4⟩, -, hg1, hgt1, hne, hpos, hle, hcm⟩ := hP1.op;have h1n : 1 < n1 := by omega
   have HO := hI ho;have HN1 := hI hn1;have HC1 := hI hc1;clear hb1 hP1 ho hn1 hc1;go_wp2_with fail;refine post4 Tryz.results26 rfl rfl (((HR1.out.far (p := ⟨g, 0, none⟩) (by show _ ≠ g; omega) _).put4 _ _ _ _).alloc _) ?_;exact ⟨rfl, ((HG1.out.set 0 _).put4 (Nat.le_refl _) _ _ _ _).alloc _, ((HP1.out.step hn (by rw [HO.out]) (by rw [HN1.out]) (by rw [HC1.out])).far4 (by omega) (by omega) _ _ _ _).alloc _⟩
end Go.Proofs.YtoleoimmpggldaaGreatDoor
namespace Go.Proofs.YtoleoimmpggldaaGreatDoor
open Go.RowKit
theorem sees_read {L : List Fk} {x : ByteArray} {σ : PS} (h : sees L x σ = true) : readP L σ = adv σ := by
 unfold readP;rw [if_neg];intro h0;unfold sees isW at h;rw [h0] at h;simp at h
theorem any_read {L : List Fk} {xs : List ByteArray} {σ : PS} (h : anyP L xs σ = true) : readP L σ = adv σ := by
 unfold readP;rw [if_neg];intro h0;unfold anyP isW at h;rw [h0] at h;simp at h
def TakePost (L : List Fk) (gt C g : Nat) (w : World) (b : Bool) (τ : PS) (e : Ending) (w' : World) : Prop := e = .returned (.bool b) ∧ Gr g w w' ∧ PAt L gt C g w' τ
theorem take_any {L : List Fk} (hL : TokL L) {gt C g : Nat} {w : World} {σ : PS} (x : ByteArray) (b : Bool) (hb : sees L x σ = b) (hP : PAt L gt C g w σ) :
 Calls Tryz.prog 148 #[.pointer (some ⟨g, 0, none⟩), .string x] w (TakePost L gt C g w b (if b = true then adv σ else σ) ) := by
 have HS := hI (fun W (h : PAt L gt C g W σ) => sees_any x h);have HP := hI hP;rw [hb] at HS
 cases b with
 | false =>
  clear hP hb
  go_enter Tryz.func148, Tryz.ntmps148
  go_wp2_with fail;refine (HS.out _ HP.out).mono ?_;rintro e w1 ⟨rfl, hb1⟩;go_wp2_with fail
  go_ret
  exact ⟨rfl, Gr.below hb1, HP.out.next hb1⟩
 | true =>
  have HR := hI (fun W (h : PAt L gt C g W σ) => read_any hL h);rw [sees_read hb] at HR;clear hP hb
  go_enter Tryz.func148, Tryz.ntmps148
  go_wp2_with fail;refine (HS.out _ HP.out).mono ?_;rintro e w1 ⟨rfl, hb1⟩;have HP1 := hI (HP.out.next hb1);have HG1 := hI (Gr.below (g := g) hb1);clear hb1;go_wp2_with fail;refine (HR.out _ HP1.out).mono ?_;rintro e w2 ⟨rfl, hg2, hp2⟩;have H2 := hI (And.intro (HG1.out.trans hg2) hp2);clear hg2 hp2;go_wp2_with fail
  go_ret
  exact ⟨rfl, H2.out.1, H2.out.2⟩
theorem PAt.failed {L : List Fk} {gt C g : Nat} {w : World} {σ : PS} (h : PAt L gt C g w σ) (hp : 0 < L.length) (O E : Nat) {u : Value} (hu : u = ι 4 ∨ u = ι E) {o n c : Nat} (ho : (L.length - 1) * 4 = o) (hn : L.length - (L.length - 1) = n) (hc : C - (L.length - 1) = c) :
 PAt L gt C g ((((w.setCell ⟨g, 1, none⟩ (ι O)).setCell ⟨g, 2, none⟩ (ι 4)).setCell ⟨g, 2, none⟩ (ι E)).setCell ⟨g, 0, none⟩ (.slice (some ⟨gt, o, none⟩) n c)) ⟨L.length - 1, O, E, σ.long, σ.lo⟩ := by
 subst ho; subst hn; subst hc;have h1 : PAt L gt C g _ { σ with o := O } := h.own 1 (ι O) h.lt rfl
 have h2 : PAt L gt C g _ { σ with o := O, e := 4 } := h1.own 2 (ι 4) h.lt rfl
 have h3 : PAt L gt C g _ { σ with o := O, e := E } := h2.own 2 (ι E) h.lt rfl
 exact h3.own 0 _ (by show L.length - 1 < _; omega) rfl
theorem PAt.failed4 {L : List Fk} {gt C g : Nat} {w : World} {σ : PS} (h : PAt L gt C g w σ) (hp : 0 < L.length) (O : Nat) {o n c : Nat} (ho : (L.length - 1) * 4 = o) (hn : L.length - (L.length - 1) = n) (hc : C - (L.length - 1) = c) :
 PAt L gt C g (((w.setCell ⟨g, 1, none⟩ (ι O)).setCell ⟨g, 2, none⟩ (ι 4)).setCell ⟨g, 0, none⟩ (.slice (some ⟨gt, o, none⟩) n c)) ⟨L.length - 1, O, 4, σ.long, σ.lo⟩ := by
 subst ho; subst hn; subst hc;have h1 : PAt L gt C g _ { σ with o := O } := h.own 1 (ι O) h.lt rfl
 have h2 : PAt L gt C g _ { σ with o := O, e := 4 } := h1.own 2 (ι 4) h.lt rfl
 exact h2.own 0 _ (by show L.length - 1 < _; omega) rfl
theorem PAt.drew {L : List Fk} {gt C g : Nat} {w : World} {σ : PS} (h : PAt L gt C g w σ) : PAt L gt C g w.drew σ := h.next (Below.refl _ _).drew
theorem Gr.drew {g : Nat} {w w' : World} (h : Gr g w w') : Gr g w w'.drew := h.low (Below.refl _ _).drew
def DonePost (L : List Fk) (gt C g : Nat) (w : World) (τ : PS) (e : Ending) (w' : World) : Prop := e = .returned (.tuple #[]) ∧ Gr g w w' ∧ PAt L gt C g w' τ
theorem pfail_any {L : List Fk} (hL : TokL L) {gt C g : Nat} {w : World} {σ : PS} (t : Fk) (hP : PAt L gt C g w σ) :
 Calls Tryz.prog 27 #[.pointer (some ⟨g, 0, none⟩), .agg #[ι t.k, ι t.o, .string t.s, ι t.i]] w (DonePost L gt C g w (failP L t σ)) := by
 have HP := hI (hP.alloc (.cells #[ι t.k, ι t.o, .string t.s, ι t.i] 41));obtain ⟨o1, n1, c1, ho, hn1, hc1, ⟨b0, b1, b2, b3, b4⟩, ⟨f0, f1, f2, f3, f4⟩, -, hg1, hgt1, hne, hpos, hle, hcm⟩ := hP.op;unfold failP
 by_cases h0 : σ.e = 0
 · rw [if_pos h0];have hk := hP.lt
   by_cases ht : t.k = 0
   · rw [if_pos ht];have q0 : ((σ.e : Int) != 0) = false := by rw [bne_eq_false_iff_eq]; omega
     have qt : ((t.k : Int) == 0) = true := by rw [beq_iff_eq]; omega
     have HO := hI (show (L.length - 1) * 4 = o1 + (n1 - 1) * 4 by omega);have HN1 := hI (show L.length - (L.length - 1) = n1 - (n1 - 1) by omega);have HC1 := hI (show C - (L.length - 1) = c1 - (n1 - 1) by omega);have hn2 : (1 : Int) ≤ (n1 : Int) := by omega
     have hgw : ¬ g = w.heap.size := by omega
     have HP0 := hI hP;have hLp := hL.e.pos;clear ho hn1 hc1 hP h0 ht
     go_enter Tryz.func27, Tryz.ntmps27
     go_upto_region 5 with (fail)
     go_region
     refine bodyPost_end (v := .tuple #[]) (by simp [results, Tryz.results27, go_sem]) rfl ?_;exact ⟨rfl, (((((Gr.refl g w).set 1 _).set 2 _).set 2 _).set 0 _).alloc _ |>.drew, ((HP0.out.failed hLp t.o 5 (.inr rfl) HO.out HN1.out HC1.out).alloc _).drew⟩
   · rw [if_neg ht];have q0 : ((σ.e : Int) != 0) = false := by rw [bne_eq_false_iff_eq]; omega
     have qt : ((t.k : Int) == 0) = false := by rw [bF]; omega
     have HO := hI (show (L.length - 1) * 4 = o1 + (n1 - 1) * 4 by omega);have HN1 := hI (show L.length - (L.length - 1) = n1 - (n1 - 1) by omega);have HC1 := hI (show C - (L.length - 1) = c1 - (n1 - 1) by omega);have hn2 : (1 : Int) ≤ (n1 : Int) := by omega
     have hgw : ¬ g = w.heap.size := by omega
     have HP0 := hI hP;have hLp := hL.e.pos;clear ho hn1 hc1 hP h0 ht
     go_enter Tryz.func27, Tryz.ntmps27
     go_upto_region 5 with (fail)
     go_region
     refine bodyPost_end (v := .tuple #[]) (by simp [results, Tryz.results27, go_sem]) rfl ?_;exact ⟨rfl, ((((Gr.refl g w).set 1 _).set 2 _).set 0 _).alloc _ |>.drew, ((HP0.out.failed4 hLp t.o HO.out HN1.out HC1.out).alloc _).drew⟩
 · rw [if_neg h0];have q0 : ((σ.e : Int) != 0) = true := by rw [bne_iff_ne]; omega
   clear ho hn1 hc1 hP h0
   go_enter Tryz.func27, Tryz.ntmps27
   go_wp2_with fail;refine bodyPost_ret (v := .tuple #[]) (by simp [results, Tryz.results27, go_sem]) rfl ?_;exact ⟨rfl, Gr.one w _, HP.out⟩
end Go.Proofs.YtoleoimmpggldaaGreatDoor
namespace Go.Proofs.YtoleoimmpggldaaGreatDoor
open Go.RowKit
theorem need_any {L : List Fk} (hL : TokL L) {gt C g : Nat} {w : World} {σ : PS} (x : ByteArray) (hP : PAt L gt C g w σ) :
 Calls Tryz.prog 161 #[.pointer (some ⟨g, 0, none⟩), .string x] w (DonePost L gt C g w (needP L x σ)) := by
 have HP := hI hP;unfold needP;obtain ⟨b, hb⟩ : ∃ b, sees L x σ = b := ⟨_, rfl⟩
 have HT := hI (fun W (h : PAt L gt C g W σ) => take_any hL x b hb h);rw [hb];clear hb
 cases b with
 | true =>
  clear hP
  go_enter Tryz.func161, Tryz.ntmps161
  go_wp2_with fail;refine (HT.out _ HP.out).mono ?_;rintro e w1 ⟨rfl, H1⟩;have H1 := hI H1;go_wp2_with fail
  go_end0
  exact ⟨rfl, H1.out⟩
 | false =>
  have HK := hI (fun W (h : PAt L gt C g W σ) => peek_any h);have HF := hI (fun t W (h : PAt L gt C g W σ) => pfail_any hL t h);generalize tk L σ.k = t at HK ⊢;clear hP
  go_enter Tryz.func161, Tryz.ntmps161
  go_wp2_with fail;refine (HT.out _ HP.out).mono ?_;rintro e w1 ⟨rfl, hg1, hp1⟩;have H1 := hI hg1;have HP1 : Hid (PAt L gt C g w1 σ) := hI hp1;clear hg1 hp1;go_wp2_with fail;refine (HK.out _ HP1.out).mono ?_;rintro e w2 ⟨rfl, hb2⟩;have HP2 := hI (HP1.out.next hb2);have H2 := hI (H1.out.low hb2);clear hb2;go_wp2_with fail;refine (HF.out t _ HP2.out).mono ?_;rintro e w3 ⟨rfl, hg3, hp3⟩;have H3 := hI (And.intro (H2.out.trans hg3) hp3);clear hg3 hp3;go_wp2_with fail
  go_end0
  exact ⟨rfl, H3.out⟩
def KindPost (L : List Fk) (gt C g : Nat) (w : World) (s : ByteArray) (τ : PS) (e : Ending) (w' : World) : Prop := e = .returned (.string s) ∧ Gr g w w' ∧ PAt L gt C g w' τ
theorem kind_any {L : List Fk} (hL : TokL L) {gt C g : Nat} {w : World} {σ : PS} (K : Nat) (hP : PAt L gt C g w σ) :
 Calls Tryz.prog 14 #[.pointer (some ⟨g, 0, none⟩), ι K] w (KindPost L gt C g w (tk L σ.k).s (kindS L K σ)) := by
 have HP := hI hP;have HR := hI (fun W (h : PAt L gt C g W σ) => read_any hL h);have HF := hI (fun t W (h : PAt L gt C g W (readP L σ)) => pfail_any hL t h);have hg := hP.glt;unfold kindS
 by_cases hk : (tk L σ.k).k = K
 · rw [if_pos hk];have q : (((tk L σ.k).k : Int) != (K : Int)) = false := by rw [bne_eq_false_iff_eq]; omega
   generalize tk L σ.k = t at HR q ⊢;generalize readP L σ = τ at HR ⊢;obtain ⟨k, o, s, i⟩ := t;dsimp only at q ⊢;clear hP hk
   go_enter Tryz.func14, Tryz.ntmps14
   go_wp2_with fail;refine (HR.out _ HP.out).mono ?_;rintro e w1 ⟨rfl, hg1, hp1⟩;have H1 := hI hg1;have HP1 := hI hp1;clear hg1 hp1;go_wp2_with fail
   go_ret
   exact ⟨rfl, H1.out.alloc _, HP1.out.alloc _⟩
 · rw [if_neg hk];have q : (((tk L σ.k).k : Int) != (K : Int)) = true := by rw [bne_iff_ne]; omega
   generalize tk L σ.k = t at HR q ⊢;generalize readP L σ = τ at HR HF ⊢;obtain ⟨k, o, s, i⟩ := t;dsimp only at q ⊢;clear hP hk
   go_enter Tryz.func14, Tryz.ntmps14
   go_wp2_with fail;refine (HR.out _ HP.out).mono ?_;rintro e w1 ⟨rfl, hg1, hp1⟩;have H1 := hI (hg1.alloc (.cells #[ι k, ι o, .string s, ι i] 41));have HP1 := hI (hp1.alloc (.cells #[ι k, ι o, .string s, ι i] 41));have hg2 := hp1.glt;clear hg1 hp1;go_wp2_with fail;refine (HF.out ⟨k, o, s, i⟩ _ HP1.out).mono ?_;rintro e w2 ⟨rfl, hg3, hp3⟩;have HB := hI ((Box.laid w1 41 #[ι k, ι o, .string s, ι i]).grown hg3 (by intro e; injection e with e; omega));obtain ⟨⟨y0, y1, y2, y3⟩, -⟩ := box4' HB.out;have H3 := hI (And.intro (H1.out.trans hg3) hp3);clear hg3 hp3;go_wp2_with fail
   go_ret
   exact ⟨rfl, H3.out⟩
def StrRow (w : World) (h : Nat) (xs : List ByteArray) : Prop := h < w.heap.size ∧ ∀ j u, xs[j]? = some u → w.cell? ⟨h, j, none⟩ = some (.string u)
theorem sindex_any (w : World) (h : Nat) (xs : List ByteArray) (x : ByteArray) (hr : StrRow w h xs) (hl : xs.length ≤ 100) :
 Calls Tryz.prog 97 #[.slice (some ⟨h, 0, none⟩) xs.length xs.length, .string x] w fun e w' => (∃ i : Int, e = .returned (ι i) ∧ decide (0 ≤ i) = memB x xs) ∧ w' = w := by
 have HR := hI hr.2;clear hr
 go_enter Tryz.func97, Tryz.ntmps97
 go_wp2_with fail
 go_loopg [5, 8] xs.length (fun gg _ s8 wr => ∃ k : Nat, k ≤ xs.length ∧ xs.length - k ≤ gg ∧ s8 = ι k ∧ wr = w ∧ Hid (∀ (j : Nat) (u : ByteArray), j < k → xs[j]? = some u → ¬ u = x))
 case atStart => exact ⟨0, Nat.zero_le _, by omega, rfl, rfl, hI fun j p hj => absurd hj (Nat.not_lt_zero _)⟩
 case round =>
  obtain ⟨k, hk, hg, rfl, rfl, HI⟩ := hrel
  by_cases hlt : k < xs.length
  · obtain ⟨u, hu⟩ : ∃ u, xs[k]? = some u := ⟨_, List.getElem?_eq_getElem hlt⟩
    have HU := hI hu;have hc := HR.out k u hu;have hk0 : (0 : Int) ≤ (k : Int) := by omega
    have hkl : (k : Int) < (xs.length : Int) := by omega
    clear hu
    by_cases hx : u = x
    · have q : (x.toList == u.toList) = true := by rw [streq, decide_eq_true hx.symm]
      have HX := hI hx;clear hx;go_wp2_with fail
      (try simp only [Exit.inBlock, Exit.then])
      go_ret
      refine ⟨⟨k, rfl, ?_⟩, rfl⟩;rw [decide_eq_true hk0];exact (List.any_eq_true.2 ⟨u, List.mem_of_getElem? HU.out, decide_eq_true HX.out⟩).symm
    · have q : (x.toList == u.toList) = false := by rw [streq, decide_eq_false (fun e => hx e.symm)]
      have HX := hI hx;clear hx;go_wp2_with fail
      go_roundg (xs.length - (k + 1))
      case measure => omega
      case rel =>
       refine ⟨k + 1, hlt, by omega, by go_num, rfl, hI fun j u' hj hu' => ?_⟩
       by_cases e : j = k
       · subst e;rw [HU.out] at hu';injection hu' with hu'
         exact hu' ▸ HX.out
       · exact HI.out j u' (by omega) hu'
  · go_wp2_with fail
    (try simp only [Exit.inBlock, Exit.then])
    go_wp2_with fail
    go_ret
    refine ⟨⟨-1, rfl, ?_⟩, rfl⟩;rw [decide_eq_false (by omega)];refine (List.any_eq_false.2 fun u hu => ?_).symm;obtain ⟨j, hj⟩ := List.mem_iff_getElem?.1 hu;have := HI.out j u (by have := (gE.1 hj).1; omega) hj
    simpa using this
theorem scontains_any (w : World) (h : Nat) (xs : List ByteArray) (x : ByteArray) (hr : StrRow w h xs) (hl : xs.length ≤ 100) :
 Calls Tryz.prog 76 #[.slice (some ⟨h, 0, none⟩) xs.length xs.length, .string x] w fun e w' => e = .returned (.bool (memB x xs)) ∧ w = w' := by
 have HI := hI (sindex_any w h xs x hr hl);clear hr;generalize memB x xs = b at HI ⊢
 cases b with
 | false =>
  go_enter Tryz.func76, Tryz.ntmps76
  go_wp2_with (go_at_call 97; (with_reducible refine HI.out.mono ?_); rintro e w' ⟨⟨i, rfl, hi⟩, rfl⟩)
  go_ret
  exact ⟨rfl, rfl⟩
 | true =>
  go_enter Tryz.func76, Tryz.ntmps76
  go_wp2_with (go_at_call 97; (with_reducible refine HI.out.mono ?_); rintro e w' ⟨⟨i, rfl, hi⟩, rfl⟩)
  go_ret
  exact ⟨rfl, rfl⟩
theorem field_text (t : Fk) (W : World) : Sem.run Tryz.prog (Instr.field 41 (.agg #[ι t.k, ι t.o, .string t.s, ι t.i]) 2) W = .ok (.string t.s) W := by kernel_rfl
def AnyPost (L : List Fk) (gt C g : Nat) (w : World) (b : Bool) (s : ByteArray) (τ : PS) (e : Ending) (w' : World) : Prop := e = .returned (.tuple #[.string (if b = true then s else ⟨#[]⟩), .bool b]) ∧ Gr g w w' ∧ PAt L gt C g w' τ
theorem StrRow.below {w w' : World} {h : Nat} {xs : List ByteArray} (k : StrRow w h xs) (hb : Below w.heap.size w w') : StrRow w' h xs :=
 ⟨nT k.1 hb.size, fun j u hj => (hb.cell (p := ⟨h, j, none⟩) k.1).trans (k.2 j u hj)⟩
theorem StrRow.gr {g : Nat} {w w' : World} {h : Nat} {xs : List ByteArray} (k : StrRow w h xs) (hb : Gr g w w') (hn : h ≠ g) : StrRow w' h xs :=
 ⟨nT k.1 hb.size, fun j u hj => (hb.cell k.1 hn).trans (k.2 j u hj)⟩
theorem takeAny_any {L : List Fk} (hL : TokL L) {gt C g : Nat} {w : World} {σ : PS} (h : Nat) (xs : List ByteArray) (hr : StrRow w h xs) (hl : xs.length ≤ 100) (b : Bool) (hb : anyP L xs σ = b) (hP : PAt L gt C g w σ) :
 Calls Tryz.prog 49 #[.pointer (some ⟨g, 0, none⟩), .slice (some ⟨h, 0, none⟩) xs.length xs.length] w (AnyPost L gt C g w b (tk L σ.k).s (if b = true then adv σ else σ)) := by
 have HP := hI hP;have HK := hI (fun W (h : PAt L gt C g W σ) => peek_any h);have HI := hI (fun W => isw_any (tk L σ.k) W);have HRW := hI hr;have hg := hP.glt;have hb0 := hb;unfold anyP at hb
 cases hiw : isW (tk L σ.k) with
 | false =>
  rw [hiw] at HI hb;rw [Bool.false_and] at hb;subst hb;generalize tk L σ.k = t at HK HI ⊢;clear hiw hb0 hP hr
  go_enter Tryz.func49, Tryz.ntmps49
  go_wp2_with fail;refine (HK.out _ HP.out).mono ?_;rintro e w1 ⟨rfl, hb1⟩;have HB1 := hI hb1;have hz := hb1.size;clear hb1;go_wp2_with fail;refine (HI.out _).mono ?_;rintro e w2 ⟨rfl, hb2⟩;have HB2 := hI (chain (HB1.out.alloc hz (.cells #[ι t.k, ι t.o, .string t.s, ι t.i] 41)) hb2);clear hb2;go_wp2_with fail
  go_ret2
  exact ⟨rfl, Gr.below HB2.out, HP.out.next HB2.out⟩
 | true =>
  rw [hiw] at HI hb;rw [Bool.true_and] at hb;have HC := hI (fun W (hw : StrRow W h xs) => scontains_any W h xs (tk L σ.k).s hw hl);rw [hb] at HC
  cases b with
  | false =>
   generalize tk L σ.k = t at HK HI HC ⊢;clear hiw hb0 hP hr hb
   go_enter Tryz.func49, Tryz.ntmps49
   go_wp2_with fail;refine (HK.out _ HP.out).mono ?_;rintro e w1 ⟨rfl, hb1⟩;have HB1 := hI hb1;have hz := hb1.size;clear hb1;go_wp2_with fail;refine (HI.out _).mono ?_;rintro e w2 ⟨rfl, hb2⟩;have HB2 := hI (chain (HB1.out.alloc hz (.cells #[ι t.k, ι t.o, .string t.s, ι t.i] 41)) hb2);have HR2 := hI (HRW.out.below HB2.out);obtain ⟨⟨y0, y1, y2, y3⟩, -⟩ := box4' ((Box.laid w1 41 #[ι t.k, ι t.o, .string t.s, ι t.i]).below hb2 (by simp));clear hb2;go_wp2_with fail;refine (HC.out _ HR2.out).mono ?_;rintro e w3 ⟨rfl, rfl⟩;go_wp2_with fail
   go_ret2
   exact ⟨rfl, Gr.below HB2.out, HP.out.next HB2.out⟩
  | true =>
   have HRD := hI (fun W (h : PAt L gt C g W σ) => read_any hL h);rw [any_read hb0] at HRD;generalize tk L σ.k = t at HK HI HC HRD ⊢;have hfl := field_text t;clear hiw hb0 hP hr hb
   go_enter Tryz.func49, Tryz.ntmps49
   go_wp2_with fail;refine (HK.out _ HP.out).mono ?_;rintro e w1 ⟨rfl, hb1⟩;have HB1 := hI hb1;have hz := hb1.size;clear hb1;go_wp2_with fail;refine (HI.out _).mono ?_;rintro e w2 ⟨rfl, hb2⟩;have HB2 := hI (chain (HB1.out.alloc hz (.cells #[ι t.k, ι t.o, .string t.s, ι t.i] 41)) hb2);have HR2 := hI (HRW.out.below HB2.out);obtain ⟨⟨y0, y1, y2, y3⟩, -⟩ := box4' ((Box.laid w1 41 #[ι t.k, ι t.o, .string t.s, ι t.i]).below hb2 (by simp));clear hb2;go_wp2_with fail;refine (HC.out _ HR2.out).mono ?_;rintro e w3 ⟨rfl, rfl⟩;go_wp2_with fail;refine (HRD.out _ (HP.out.next HB2.out)).mono ?_;rintro e w4 ⟨rfl, hg4, hp4⟩;have H4 := hI (And.intro ((Gr.below (g := g) HB2.out).trans hg4) hp4);clear hg4 hp4;go_wp2_with fail
   go_ret2
   exact ⟨rfl, H4.out.1, H4.out.2⟩
end Go.Proofs.YtoleoimmpggldaaGreatDoor
namespace Go.Proofs.YtoleoimmpggldaaGreatDoor
open Go.RowKit
def Und (S : Nat → Prop) (B E : Nat) (b : Nat) : Prop := S b ∨ (B ≤ b ∧ b < E)
theorem rs_box {w : World} {h : Nat} {t : TypeId} {cs : Array Value} (hB : Box w h t cs) {S : Nat → Prop} (hS : S h) : Rs w S (some ⟨h, 0, none⟩) cs.toList := by
 intro j u hj;exact ⟨h, 0, rfl, hS, by rw [Nat.zero_add]; exact hB.cell (by simpa using hj)⟩
theorem liesF_node {w : World} {S : Nat → Prop} (op : Int) (tx : ByteArray) (htx : tx.size ≤ 140737488355328) {fs : List Ft} {A : Option Addr} {n c : Nat} {xs : List Value} (hn : fs.length = n) (hA : A = none → c = 0) (hc : n ≤ c) (hc2 : c ≤ maxLen) (hn2 : n ≤ 140737488355328) (hR : Rs w S A xs) (hL : LiesFL w S fs xs) :
 LiesF w S (.mk op tx vz [] fs) [ι op, .string tx, ι 0, ι 0, eS, nL, nL, nL, .slice A n c] := by
 subst hn;exact liesF_mk (A := none) (a := 0) ⟨htx, by simp, by simp, hn2⟩ (lies_vz _ _) (fun _ => rfl) hA (by simp [maxLen]) ⟨hc, hc2⟩ (Rs.nil _ _ _) hR hL
def NodePost (S : Nat → Prop) (t : Ft) (w : World) (e : Ending) (w' : World) : Prop := ∃ c0 c1 c2 c3 c4 c5 c6 c7 c8, e = .returned (.agg #[c0, c1, c2, c3, c4, c5, c6, c7, c8]) ∧ Below w.heap.size w w' ∧ LiesF w' (Und S w.heap.size w'.heap.size) t [c0, c1, c2, c3, c4, c5, c6, c7, c8]
theorem node_any (op : Int) (A : Option Addr) (n c : Nat) (w : World) : Calls Tryz.prog 77 #[ι op, .slice A n c] w fun e w' => e = .returned (.agg #[ι op, eS, ι 0, ι 0, eS, nL, nL, nL, .slice A n c]) ∧ Below w.heap.size w w' := by
 go_enter Tryz.func77, Tryz.ntmps77
 go_wp2_with fail;refine post9 Tryz.results77 rfl rfl (Box.laid w _ _) ?_;exact ⟨rfl, (Below.refl _ _).alloc (Nat.le_refl _) _⟩
theorem below9 {w w' : World} (h : Below w.heap.size w w') {r : Nat} (hr : w.heap.size ≤ r) (u0 u1 u2 u3 u4 u5 u6 u7 u8 : Value) : Below w.heap.size w (((((((((w'.setCell ⟨r, 0, none⟩ u0).setCell ⟨r, 1, none⟩ u1).setCell ⟨r, 2, none⟩ u2).setCell ⟨r, 3, none⟩ u3).setCell ⟨r, 4, none⟩ u4).setCell ⟨r, 5, none⟩ u5).setCell ⟨r, 6, none⟩ u6).setCell ⟨r, 7, none⟩ u7).setCell ⟨r, 8, none⟩ u8) :=
 (((((((((h).setCell (p := ⟨r, 0, none⟩) hr u0).setCell (p := ⟨r, 1, none⟩) hr u1).setCell (p := ⟨r, 2, none⟩) hr u2).setCell (p := ⟨r, 3, none⟩) hr u3).setCell (p := ⟨r, 4, none⟩) hr u4).setCell (p := ⟨r, 5, none⟩) hr u5).setCell (p := ⟨r, 6, none⟩) hr u6).setCell (p := ⟨r, 7, none⟩) hr u7).setCell (p := ⟨r, 8, none⟩) hr u8
def z9 : Array Value := #[ι 0, eS, ι 0, ι 0, eS, nL, nL, nL, nL]
section
variable {L : List Fk} {gt C g : Nat} {w w' w0 : World} {σ τ : PS} {r : Nat} {t : Ft}
theorem box9z {T : TypeId} (h : Box w r T z9) : (w.cell? ⟨r, 0, none⟩ = some (ι 0) ∧ w.cell? ⟨r, 1, none⟩ = some eS ∧ w.cell? ⟨r, 2, none⟩ = some (ι 0) ∧ w.cell? ⟨r, 3, none⟩ = some (ι 0) ∧ w.cell? ⟨r, 4, none⟩ = some eS ∧ w.cell? ⟨r, 5, none⟩ = some nL ∧ w.cell? ⟨r, 6, none⟩ = some nL ∧ w.cell? ⟨r, 7, none⟩ = some nL ∧ w.cell? ⟨r, 8, none⟩ = some nL) ∧ (w.frozen? ⟨r, 0, none⟩ = false ∧ w.frozen? ⟨r, 1, none⟩ = false ∧ w.frozen? ⟨r, 2, none⟩ = false ∧ w.frozen? ⟨r, 3, none⟩ = false ∧ w.frozen? ⟨r, 4, none⟩ = false ∧ w.frozen? ⟨r, 5, none⟩ = false ∧ w.frozen? ⟨r, 6, none⟩ = false ∧ w.frozen? ⟨r, 7, none⟩ = false ∧ w.frozen? ⟨r, 8, none⟩ = false) := ⟨box9 h, box9f h⟩
theorem Box.put9z {T : TypeId} (h : Box w r T z9) (u0 u1 u2 u3 u4 u5 u6 u7 u8 : Value) : Box (((((((((w.setCell ⟨r, 0, none⟩ u0).setCell ⟨r, 1, none⟩ u1).setCell ⟨r, 2, none⟩ u2).setCell ⟨r, 3, none⟩ u3).setCell ⟨r, 4, none⟩ u4).setCell ⟨r, 5, none⟩ u5).setCell ⟨r, 6, none⟩ u6).setCell ⟨r, 7, none⟩ u7).setCell ⟨r, 8, none⟩ u8) r T #[u0, u1, u2, u3, u4, u5, u6, u7, u8] := Box.put9 h u0 u1 u2 u3 u4 u5 u6 u7 u8
theorem PAt.far9 (h : PAt L gt C g w σ) {r : Nat} (h1 : ¬ r = g) (h2 : ¬ r = gt) (u0 u1 u2 u3 u4 u5 u6 u7 u8 : Value) : PAt L gt C g (((((((((w.setCell ⟨r, 0, none⟩ u0).setCell ⟨r, 1, none⟩ u1).setCell ⟨r, 2, none⟩ u2).setCell ⟨r, 3, none⟩ u3).setCell ⟨r, 4, none⟩ u4).setCell ⟨r, 5, none⟩ u5).setCell ⟨r, 6, none⟩ u6).setCell ⟨r, 7, none⟩ u7).setCell ⟨r, 8, none⟩ u8) σ := (((((((((h).far h1 h2 0 u0).far h1 h2 1 u1).far h1 h2 2 u2).far h1 h2 3 u3).far h1 h2 4 u4).far h1 h2 5 u5).far h1 h2 6 u6).far h1 h2 7 u7).far h1 h2 8 u8
theorem Gr.put9 (h : Gr g w w') {r : Nat} (hr : w.heap.size ≤ r) (u0 u1 u2 u3 u4 u5 u6 u7 u8 : Value) : Gr g w (((((((((w'.setCell ⟨r, 0, none⟩ u0).setCell ⟨r, 1, none⟩ u1).setCell ⟨r, 2, none⟩ u2).setCell ⟨r, 3, none⟩ u3).setCell ⟨r, 4, none⟩ u4).setCell ⟨r, 5, none⟩ u5).setCell ⟨r, 6, none⟩ u6).setCell ⟨r, 7, none⟩ u7).setCell ⟨r, 8, none⟩ u8) := (((((((((h).put hr 0 u0).put hr 1 u1).put hr 2 u2).put hr 3 u3).put hr 4 u4).put hr 5 u5).put hr 6 u6).put hr 7 u7).put hr 8 u8
theorem size9 (w : World) (r : Nat) (u0 u1 u2 u3 u4 u5 u6 u7 u8 : Value) : (((((((((w.setCell ⟨r, 0, none⟩ u0).setCell ⟨r, 1, none⟩ u1).setCell ⟨r, 2, none⟩ u2).setCell ⟨r, 3, none⟩ u3).setCell ⟨r, 4, none⟩ u4).setCell ⟨r, 5, none⟩ u5).setCell ⟨r, 6, none⟩ u6).setCell ⟨r, 7, none⟩ u7).setCell ⟨r, 8, none⟩ u8).heap.size = w.heap.size := by simp [World.setCell]
theorem heap9 (w : World) (r : Nat) (u0 u1 u2 u3 u4 u5 u6 u7 u8 : Value) (b : Nat) (hb : ¬ b = r) : (((((((((w.setCell ⟨r, 0, none⟩ u0).setCell ⟨r, 1, none⟩ u1).setCell ⟨r, 2, none⟩ u2).setCell ⟨r, 3, none⟩ u3).setCell ⟨r, 4, none⟩ u4).setCell ⟨r, 5, none⟩ u5).setCell ⟨r, 6, none⟩ u6).setCell ⟨r, 7, none⟩ u7).setCell ⟨r, 8, none⟩ u8).heap[b]? = w.heap[b]? := by
 repeat rw [Below.heap_setCell _ _ _ _ (by exact hb)]
def Nw (B E b : Nat) : Prop := B ≤ b ∧ b < E
def RetF (L : List Fk) (gt C g : Nat) (w : World) (t : Ft) (τ : PS) (e : Ending) (w' : World) : Prop := ∃ c0 c1 c2 c3 c4 c5 c6 c7 c8, e = .returned (.agg #[c0, c1, c2, c3, c4, c5, c6, c7, c8]) ∧ Gr g w w' ∧ PAt L gt C g w' τ ∧ LiesF w' (Nw w.heap.size w'.heap.size) t [c0, c1, c2, c3, c4, c5, c6, c7, c8]
def OkF (L : List Fk) (gt C g : Nat) (f : Nat) (m : PM) : Prop := ∀ W σ t τ, PAt L gt C g W σ → m σ = some (t, τ) → Calls Tryz.prog f #[.pointer (some ⟨g, 0, none⟩)] W (RetF L gt C g W t τ)
structure RSt (L : List Fk) (gt C g : Nat) (w0 w : World) (σ : PS) : Prop where
 p : PAt L gt C g w σ
 gr : Gr g w0 w
 r : Box w w0.heap.size 29 z9
 g0 : g < w0.heap.size
 gt0 : gt < w0.heap.size
theorem RSt.lt (h : RSt L gt C g w0 w σ) : w0.heap.size < w.heap.size := h.r.lt
theorem RSt.start (h : PAt L gt C g w σ) : RSt L gt C g w (w.alloc (.cells z9 29)) σ := ⟨h.alloc _, Gr.one _ _, Box.laid _ _ _, h.glt, h.gtlt⟩
theorem RSt.next (h : RSt L gt C g w0 w σ) (hg : Gr g w w') (hp : PAt L gt C g w' τ) : RSt L gt C g w0 w' τ :=
 ⟨hp, h.gr.trans hg, h.r.grown hg (by intro e; injection e with e; have := h.g0; omega), h.g0, h.gt0⟩
theorem RSt.low (h : RSt L gt C g w0 w σ) (hb : Below w.heap.size w w') : RSt L gt C g w0 w' σ := h.next (Gr.below hb) (h.p.next hb)
theorem RSt.alloc (h : RSt L gt C g w0 w σ) (o : Obj) : RSt L gt C g w0 (w.alloc o) σ := h.low ((Below.refl _ _).alloc (Nat.le_refl _) o)
theorem RSt.drew (h : RSt L gt C g w0 w σ) : RSt L gt C g w0 w.drew σ := h.low (Below.refl _ _).drew
def TreeAt (w0 w : World) (t : Ft) (cs : List Value) : Prop := LiesF w (Nw (w0.heap.size + 1) w.heap.size) t cs
theorem TreeAt.of {W : World} {cs : List Value} (hl : LiesF w (Nw W.heap.size w.heap.size) t cs) (h : w0.heap.size < W.heap.size) : TreeAt w0 w t cs :=
 LiesF.move hl fun b hb => ⟨⟨Nat.le_trans h hb.1, hb.2⟩, rfl⟩
theorem TreeAt.next {cs : List Value} (h : TreeAt w0 w t cs) (hg : Gr g w w') (h0 : g < w0.heap.size) : TreeAt w0 w' t cs :=
 LiesF.move h fun b hb => ⟨⟨hb.1, nT hb.2 hg.size⟩, hg.block hb.2 (by have := hb.1; omega)⟩
theorem TreeAt.low {cs : List Value} (h : TreeAt w0 w t cs) (hb : Below w.heap.size w w') : TreeAt w0 w' t cs :=
 LiesF.move h fun b hb' => ⟨⟨hb'.1, nT hb'.2 hb.size⟩, hb.block b hb'.2⟩
theorem TreeAt.alloc {cs : List Value} (h : TreeAt w0 w t cs) (o : Obj) : TreeAt w0 (w.alloc o) t cs := h.low ((Below.refl _ _).alloc (Nat.le_refl _) o)
theorem RSt.close (h : RSt L gt C g w0 w σ) {u0 u1 u2 u3 u4 u5 u6 u7 u8 : Value} (hl : TreeAt w0 w t [u0, u1, u2, u3, u4, u5, u6, u7, u8]) : RetF L gt C g w0 t σ (.returned (.agg #[u0, u1, u2, u3, u4, u5, u6, u7, u8])) (((((((((w.setCell ⟨w0.heap.size, 0, none⟩ u0).setCell ⟨w0.heap.size, 1, none⟩ u1).setCell ⟨w0.heap.size, 2, none⟩ u2).setCell ⟨w0.heap.size, 3, none⟩ u3).setCell ⟨w0.heap.size, 4, none⟩ u4).setCell ⟨w0.heap.size, 5, none⟩ u5).setCell ⟨w0.heap.size, 6, none⟩ u6).setCell ⟨w0.heap.size, 7, none⟩ u7).setCell ⟨w0.heap.size, 8, none⟩ u8) := by
 have h1 := h.g0;have h2 := h.gt0;refine ⟨_, _, _, _, _, _, _, _, _, rfl, h.gr.put9 (Nat.le_refl _) _ _ _ _ _ _ _ _ _, h.p.far9 (by omega) (by omega) _ _ _ _ _ _ _ _ _, LiesF.move hl fun b hb => ?_⟩;rw [size9];exact ⟨⟨by have := hb.1; omega, hb.2⟩, heap9 _ _ _ _ _ _ _ _ _ _ _ b (by have := hb.1; omega)⟩
theorem RSt.cells (h : RSt L gt C g w0 w σ) : (w.cell? ⟨w0.heap.size, 0, none⟩ = some (ι 0) ∧ w.cell? ⟨w0.heap.size, 1, none⟩ = some eS ∧ w.cell? ⟨w0.heap.size, 2, none⟩ = some (ι 0) ∧ w.cell? ⟨w0.heap.size, 3, none⟩ = some (ι 0) ∧ w.cell? ⟨w0.heap.size, 4, none⟩ = some eS ∧ w.cell? ⟨w0.heap.size, 5, none⟩ = some nL ∧ w.cell? ⟨w0.heap.size, 6, none⟩ = some nL ∧ w.cell? ⟨w0.heap.size, 7, none⟩ = some nL ∧ w.cell? ⟨w0.heap.size, 8, none⟩ = some nL) ∧ (w.frozen? ⟨w0.heap.size, 0, none⟩ = false ∧ w.frozen? ⟨w0.heap.size, 1, none⟩ = false ∧ w.frozen? ⟨w0.heap.size, 2, none⟩ = false ∧ w.frozen? ⟨w0.heap.size, 3, none⟩ = false ∧ w.frozen? ⟨w0.heap.size, 4, none⟩ = false ∧ w.frozen? ⟨w0.heap.size, 5, none⟩ = false ∧ w.frozen? ⟨w0.heap.size, 6, none⟩ = false ∧ w.frozen? ⟨w0.heap.size, 7, none⟩ = false ∧ w.frozen? ⟨w0.heap.size, 8, none⟩ = false) := box9z h.r
end
def LeafPost (op : Int) (tx : ByteArray) (k n : Int) (s : ByteArray) (w : World) (e : Ending) (w' : World) : Prop := e = .returned (.agg #[ι op, .string tx, ι k, ι n, .string s, nL, nL, nL, nL]) ∧ Below w.heap.size w w'
theorem ident_any (w : World) : Calls Tryz.prog 170 #[] w (LeafPost 1 ⟨#[]⟩ 0 0 ⟨#[]⟩ w) := by
 have HN := hI (fun W => node_any 1 none 0 0 W)
 go_enter Tryz.func170, Tryz.ntmps170
 go_wp2_with fail;refine (HN.out _).mono ?_;rintro e w1 ⟨rfl, hb1⟩;have HB := hI ((Box.laid w 29 #[ι 0, eS, ι 0, ι 0, eS, nL, nL, nL, nL]).below hb1 (by simp));have y0 := box9 HB.out;have z0 := box9f HB.out;have H1 := hI (((Below.refl w.heap.size w).alloc (Nat.le_refl _) _).trans (hb1.mono (by simp)));clear hb1;go_wp2_with fail;refine post9 Tryz.results170 rfl rfl (HB.out.put9 _ _ _ _ _ _ _ _ _) ?_;exact ⟨rfl, below9 H1.out (Nat.le_refl _) _ _ _ _ _ _ _ _ _⟩
