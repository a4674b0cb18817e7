/- Filters as trees, and what it means that nine cells read as one. Nothing of the program is named here. -/
import Derived.Test.YthgnelkppibpeaaGreatDoorYm
import Derived.Test.YthgnelkppibpeaaGreatDoorBox
set_option linter.unusedVariables false
set_option linter.unusedSimpArgs false
set_option linter.unusedSectionVars false
namespace Go.Proofs.YthgnelkppibpeaaGreatDoor
open Go.RowKit
mutual
/-- The nine cells cs read as the filter. -/
def LiesF (w : World) (S : Nat → Prop) : Ft → List Value → Prop
  | .mk op tx v ps fs, cs => (tx.size ≤ 140737488355328 ∧ (∀ x ∈ ps, x.size ≤ 140737488355328) ∧ ps.length ≤ 140737488355328 ∧ fs.length ≤ 140737488355328) ∧
      ∃ (vc : List Value) (A : Option Addr) (a : Nat) (B : Option Addr) (b : Nat) (xs : List Value), cs = [.int .i64 op, .string tx] ++ (vc ++ [.slice A ps.length a, .slice B fs.length b]) ∧ Lies w S v vc ∧
        (A = none → a = 0) ∧ (B = none → b = 0) ∧ (ps.length ≤ a ∧ a ≤ maxLen) ∧ (fs.length ≤ b ∧ b ≤ maxLen) ∧ Rs w S A (kv ps) ∧ Rs w S B xs ∧ LiesFL w S fs xs
/-- The cells xs read as the filters, nine for each. -/
def LiesFL (w : World) (S : Nat → Prop) : List Ft → List Value → Prop
  | [], xs => xs = []
  | e :: es, xs => ∃ c r, xs = c ++ r ∧ LiesF w S e c ∧ LiesFL w S es r
end
mutual
def Ft.sz : Ft → Nat
  | .mk _ _ _ _ fs => 1 + Ft.szL fs
def Ft.szL : List Ft → Nat
  | [] => 0
  | e :: es => e.sz + Ft.szL es
end
theorem fszL_mem {e : Ft} {es : List Ft} (h : e ∈ es) : e.sz ≤ Ft.szL es := by
  induction es with
  | nil => cases h
  | cons x r ih =>
    rw [Ft.szL]
    rcases List.mem_cons.1 h with rfl | h
    · omega
    · have := ih h; omega
theorem Ft.ind {p : Ft → Prop} (step : ∀ op tx v ps fs, (∀ e ∈ fs, p e) → p (.mk op tx v ps fs)) : ∀ f, p f := by
  have h : ∀ m f, Ft.sz f ≤ m → p f := by
    intro m
    induction m with
    | zero => intro f hf; cases f; rw [Ft.sz] at hf; omega
    | succ m ih =>
      intro f hf
      cases f with
      | mk op tx v ps fs =>
        refine step op tx v ps fs fun e he => ih e ?_
        have := fszL_mem he
        rw [Ft.sz] at hf
        omega
  exact fun f => h _ f (Nat.le_refl _)
theorem liesF_move_all {w w' : World} {S S' : Nat → Prop} (hk : ∀ b, S b → S' b ∧ w'.heap[b]? = w.heap[b]?) : ∀ f : Ft, ∀ cs, LiesF w S f cs → LiesF w' S' f cs := by
  refine Ft.ind fun op tx v ps fs ih cs h => ?_
  rw [LiesF] at h ⊢
  obtain ⟨h0, vc, A, a, B, b, xs, hcs, hv, h1, h2, h3, h4, hA, hB, hL⟩ := h
  refine ⟨h0, vc, A, a, B, b, xs, hcs, hv.move hk, h1, h2, h3, h4, hA.move hk, hB.move hk, ?_⟩
  clear hcs hB h0 h2 h4
  induction fs generalizing xs with
  | nil => rw [LiesFL] at hL ⊢; exact hL
  | cons e es ihl =>
    rw [LiesFL] at hL ⊢
    obtain ⟨c, r, hx, hc, hr⟩ := hL
    exact ⟨c, r, hx, ih e (by simp) c hc, ihl (fun u hu => ih u (by simp [hu])) r hr⟩
theorem LiesF.move {w w' : World} {S S' : Nat → Prop} {f : Ft} {cs : List Value} (h : LiesF w S f cs) (hk : ∀ b, S b → S' b ∧ w'.heap[b]? = w.heap[b]?) : LiesF w' S' f cs := liesF_move_all hk f cs h
theorem LiesFL.move {w w' : World} {S S' : Nat → Prop} {es : List Ft} {xs : List Value} (h : LiesFL w S es xs) (hk : ∀ b, S b → S' b ∧ w'.heap[b]? = w.heap[b]?) : LiesFL w' S' es xs := by
  induction es generalizing xs with
  | nil => rw [LiesFL] at h ⊢; exact h
  | cons e es ihl =>
    rw [LiesFL] at h ⊢
    obtain ⟨c, r, hx, hc, hr⟩ := h
    exact ⟨c, r, hx, hc.move hk, ihl hr⟩
theorem Lies.cells5 {w : World} {S : Nat → Prop} {v : V} {cs : List Value} (h : Lies w S v cs) : ∃ v0 v1 v2 v3 v4, cs = [v0, v1, v2, v3, v4] := by
  have h5 := h.five
  match cs, h5 with
  | [v0, v1, v2, v3, v4], _ => exact ⟨_, _, _, _, _, rfl⟩
theorem liesF_open {w : World} {S : Nat → Prop} {op : Int} {tx : ByteArray} {v : V} {ps : List ByteArray} {fs : List Ft} {cs : List Value} (h : LiesF w S (.mk op tx v ps fs) cs) :
    ∃ (v0 v1 v2 v3 v4 : Value) (A : Option Addr) (a : Nat) (B : Option Addr) (b : Nat) (xs : List Value), cs = [.int .i64 op, .string tx, v0, v1, v2, v3, v4, .slice A ps.length a, .slice B fs.length b] ∧ Lies w S v [v0, v1, v2, v3, v4] ∧
        (A = none → a = 0) ∧ (B = none → b = 0) ∧ (ps.length ≤ a ∧ a ≤ maxLen) ∧ (fs.length ≤ b ∧ b ≤ maxLen) ∧ Rs w S A (kv ps) ∧ Rs w S B xs ∧ LiesFL w S fs xs := by
  rw [LiesF] at h
  obtain ⟨_, vc, A, a, B, b, xs, hcs, hv, h1⟩ := h
  obtain ⟨v0, v1, v2, v3, v4, rfl⟩ := hv.cells5
  exact ⟨v0, v1, v2, v3, v4, A, a, B, b, xs, hcs, hv, h1⟩
theorem liesF_mk {w : World} {S : Nat → Prop} {op : Int} {tx : ByteArray} {v : V} {ps : List ByteArray} {fs : List Ft} {v0 v1 v2 v3 v4 : Value} {A B : Option Addr} {a b : Nat} {xs : List Value}
    (h0 : tx.size ≤ 140737488355328 ∧ (∀ x ∈ ps, x.size ≤ 140737488355328) ∧ ps.length ≤ 140737488355328 ∧ fs.length ≤ 140737488355328) (hv : Lies w S v [v0, v1, v2, v3, v4])
    (h1 : A = none → a = 0) (h2 : B = none → b = 0) (h3 : ps.length ≤ a ∧ a ≤ maxLen) (h4 : fs.length ≤ b ∧ b ≤ maxLen) (hA : Rs w S A (kv ps)) (hB : Rs w S B xs) (hL : LiesFL w S fs xs) :
    LiesF w S (.mk op tx v ps fs) [.int .i64 op, .string tx, v0, v1, v2, v3, v4, .slice A ps.length a, .slice B fs.length b] := by
  rw [LiesF]
  exact ⟨h0, [v0, v1, v2, v3, v4], A, a, B, b, xs, rfl, hv, h1, h2, h3, h4, hA, hB, hL⟩
theorem LiesF.nine {w : World} {S : Nat → Prop} {f : Ft} {cs : List Value} (h : LiesF w S f cs) : cs.length = 9 := by
  cases f with
  | mk op tx v ps fs => obtain ⟨v0, v1, v2, v3, v4, A, a, B, b, xs, rfl, _⟩ := liesF_open h; rfl
theorem LiesF.cells9 {w : World} {S : Nat → Prop} {f : Ft} {cs : List Value} (h : LiesF w S f cs) : ∃ c0 c1 c2 c3 c4 c5 c6 c7 c8, cs = [c0, c1, c2, c3, c4, c5, c6, c7, c8] := by
  have h9 := h.nine
  match cs, h9 with
  | [c0, c1, c2, c3, c4, c5, c6, c7, c8], _ => exact ⟨_, _, _, _, _, _, _, _, _, rfl⟩
theorem LiesFL.nil (w : World) (S : Nat → Prop) : LiesFL w S [] [] := by rw [LiesFL]
theorem LiesFL.one {w : World} {S : Nat → Prop} {f : Ft} {cs : List Value} (h : LiesF w S f cs) : LiesFL w S [f] cs := by
  rw [LiesFL]; exact ⟨cs, [], by simp, h, LiesFL.nil _ _⟩
theorem LiesFL.append {w : World} {S : Nat → Prop} {es fs : List Ft} {xs ys : List Value} (h : LiesFL w S es xs) (k : LiesFL w S fs ys) : LiesFL w S (es ++ fs) (xs ++ ys) := by
  induction es generalizing xs with
  | nil => rw [LiesFL] at h; subst h; exact k
  | cons x es ih =>
    rw [LiesFL] at h
    obtain ⟨d, r, rfl, hd, hr⟩ := h
    rw [List.cons_append, LiesFL]
    exact ⟨d, r ++ ys, by rw [List.append_assoc], hd, ih hr⟩
theorem LiesFL.len {w : World} {S : Nat → Prop} {es : List Ft} {xs : List Value} (h : LiesFL w S es xs) : xs.length = es.length * 9 := by
  induction es generalizing xs with
  | nil => rw [LiesFL] at h; subst h; rfl
  | cons e es ih =>
    rw [LiesFL] at h
    obtain ⟨c, r, rfl, hc, hr⟩ := h
    rw [List.length_append, hc.nine, ih hr, List.length_cons]
    omega
theorem LiesFL.at_ {w : World} {S : Nat → Prop} {es : List Ft} {xs : List Value} (h : LiesFL w S es xs) {i : Nat} {e : Ft} (hi : es[i]? = some e) : ∃ c, LiesF w S e c ∧ ∀ j, j < 9 → xs[i * 9 + j]? = c[j]? := by
  induction es generalizing xs i with
  | nil => simp at hi
  | cons x es ih =>
    rw [LiesFL] at h
    obtain ⟨c, r, rfl, hc, hr⟩ := h
    have h9 := hc.nine
    cases i with
    | zero =>
      simp at hi
      subst hi
      exact ⟨c, hc, fun j hj => by rw [Nat.zero_mul, Nat.zero_add, List.getElem?_append_left (by omega)]⟩
    | succ i =>
      obtain ⟨c', hc', hx⟩ := ih hr (by simpa using hi)
      refine ⟨c', hc', fun j hj => ?_⟩
      rw [List.getElem?_append_right (by omega), ← hx j hj]
      congr 1
      omega
/-- What lies in old blocks and not in block g. -/
def Sg (w : World) (g : Nat) : Nat → Prop := fun b => b < w.heap.size ∧ b ≠ g
/-- The world has grown, and of the old blocks block g alone may have turned. -/
def Gr (g : Nat) (w w' : World) : Prop := w.grownBy w' (some g)
theorem Gr.refl (g : Nat) (w : World) : Gr g w w := World.grownBy.refl w _
theorem Gr.trans {g : Nat} {a b c : World} (h : Gr g a b) (k : Gr g b c) : Gr g a c := grown_trans h k
theorem Gr.below {g : Nat} {w w' : World} (h : Below w.heap.size w w') : Gr g w w' := below_grown h _
theorem Gr.size {g : Nat} {w w' : World} (h : Gr g w w') : w.heap.size ≤ w'.heap.size := World.grownBy.size h
theorem Gr.block {g : Nat} {w w' : World} (h : Gr g w w') {b : Nat} (hb : b < w.heap.size) (hn : b ≠ g) : w'.heap[b]? = w.heap[b]? := World.grownBy.block h b hb (fun e => hn (by injection e))
theorem Gr.cell {g : Nat} {w w' : World} (h : Gr g w w') {b o : Nat} (hb : b < w.heap.size) (hn : b ≠ g) : w'.cell? ⟨b, o, none⟩ = w.cell? ⟨b, o, none⟩ := World.cell?_of_block (h.block hb hn)
theorem Gr.alloc {g : Nat} {w w' : World} (h : Gr g w w') (o : Obj) : Gr g w (w'.alloc o) := h.trans (World.grownBy_alloc w' o _)
theorem Gr.set {g : Nat} {w w' : World} (h : Gr g w w') (i : Nat) (u : Value) : Gr g w (w'.setCell ⟨g, i, none⟩ u) := h.trans (grown_set w' g i u)
theorem Gr.sg {g : Nat} {w w' : World} (h : Gr g w w') : ∀ b, Sg w g b → Sg w' g b ∧ w'.heap[b]? = w.heap[b]? := fun b hb => ⟨⟨Nat.lt_of_lt_of_le hb.1 h.size, hb.2⟩, h.block hb.1 hb.2⟩
theorem LiesF.gr {g : Nat} {w w' : World} {f : Ft} {cs : List Value} (h : LiesF w (Sg w g) f cs) (k : Gr g w w') : LiesF w' (Sg w' g) f cs := h.move k.sg
theorem LiesFL.gr {g : Nat} {w w' : World} {f : List Ft} {cs : List Value} (h : LiesFL w (Sg w g) f cs) (k : Gr g w w') : LiesFL w' (Sg w' g) f cs := h.move k.sg
theorem Lies.gr {g : Nat} {w w' : World} {f : V} {cs : List Value} (h : Lies w (Sg w g) f cs) (k : Gr g w w') : Lies w' (Sg w' g) f cs := h.move k.sg
theorem Rs.gr {g : Nat} {w w' : World} {A : Option Addr} {xs : List Value} (h : Rs w (Sg w g) A xs) (k : Gr g w w') : Rs w' (Sg w' g) A xs := h.move k.sg
/-- A null value. -/
theorem lies_vz (w : World) (S : Nat → Prop) : Lies w S vz [.int .i64 0, .int .i64 0, .string ⟨#[]⟩, .slice none 0 0, .slice none 0 0] := by
  unfold vz
  rw [Lies]
  refine ⟨⟨by decide, by simp, by simp, by simp⟩, none, 0, none, 0, [], rfl, fun _ => rfl, fun _ => rfl, by simp [maxLen], by simp [maxLen], ?_, Rs.nil _ _ _, by rw [LiesL]⟩
  exact Rs.nil _ _ _
theorem lies_leaf (w : World) (S : Nat → Prop) (k n : Int) (s : ByteArray) (hs : s.size ≤ 140737488355328) : Lies w S (.mk k n s [] []) [.int .i64 k, .int .i64 n, .string s, .slice none 0 0, .slice none 0 0] := by
  rw [Lies]
  refine ⟨⟨hs, by simp, by simp, by simp⟩, none, 0, none, 0, [], rfl, fun _ => rfl, fun _ => rfl, by simp [maxLen], by simp [maxLen], ?_, Rs.nil _ _ _, by rw [LiesL]⟩
  exact Rs.nil _ _ _
/-- A filter without parameters and parts. -/
theorem liesF_leaf (w : World) (S : Nat → Prop) (op : Int) (tx : ByteArray) (v : V) {v0 v1 v2 v3 v4 : Value} (hs : tx.size ≤ 140737488355328) (hv : Lies w S v [v0, v1, v2, v3, v4]) :
    LiesF w S (.mk op tx v [] []) [.int .i64 op, .string tx, v0, v1, v2, v3, v4, .slice none 0 0, .slice none 0 0] :=
  liesF_mk (A := none) (B := none) (a := 0) (b := 0) (xs := []) ⟨hs, by simp, by simp, by simp⟩ hv (fun _ => rfl) (fun _ => rfl) (by simp [maxLen]) (by simp [maxLen]) (Rs.nil _ _ _) (Rs.nil _ _ _) (LiesFL.nil _ _)
end Go.Proofs.YthgnelkppibpeaaGreatDoor
