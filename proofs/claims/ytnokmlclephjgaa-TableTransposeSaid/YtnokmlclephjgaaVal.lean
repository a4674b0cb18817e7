/- JSON values as trees, and what it means that five cells read as one. Nothing of the program is named here. -/
import Derived.WalkKit
import Derived.Laws.OwnMore
import Derived.Deep.Draws
import Derived.Test.YtnokmlclephjgaaMem
set_option linter.unusedVariables false
set_option linter.unusedSimpArgs false
namespace Go.Proofs.Ytnokmlclephjgaa
open Go.RowKit
/-- A value: its kind, its number, its string, its keys, its elements; nothing is asked of them. -/
inductive V where
  | mk (kind num : Int) (str : ByteArray) (keys : List ByteArray) (elems : List V)
/-- The slice with the address A reads as xs, in blocks of the set S. -/
def Rs (w : World) (S : Nat → Prop) (A : Option Addr) (xs : List Value) : Prop := ∀ j u, xs[j]? = some u → ∃ b o, A = some ⟨b, o, none⟩ ∧ S b ∧ w.cell? ⟨b, o + j, none⟩ = some u
theorem Rs.nil (w : World) (S : Nat → Prop) (A : Option Addr) : Rs w S A [] := fun j u h => by simp at h
theorem Rs.at_ {w : World} {S : Nat → Prop} {A : Option Addr} {xs : List Value} (h : Rs w S A xs) {j : Nat} {u : Value} (hj : xs[j]? = some u) : ∃ b o, A = some ⟨b, o, none⟩ ∧ S b ∧ w.cell? ⟨b, o + j, none⟩ = some u := h j u hj
theorem Rs.move {w w' : World} {S S' : Nat → Prop} {A : Option Addr} {xs : List Value} (h : Rs w S A xs) (hk : ∀ b, S b → S' b ∧ w'.heap[b]? = w.heap[b]?) : Rs w' S' A xs := by
  intro j u hj
  obtain ⟨b, o, e, hb, hc⟩ := h j u hj
  exact ⟨b, o, e, (hk b hb).1, (World.cell?_of_block (hk b hb).2).trans hc⟩
theorem Rs.rd {w : World} {B : Nat} {A : Option Addr} {xs : List Value} (h : Rs w (· < B) A xs) : Rd w B A xs := h
/-- Strings as cells. -/
def kv (ks : List ByteArray) : List Value := ks.map Value.string
theorem kv_at {ks : List ByteArray} {i : Nat} {s : ByteArray} (h : ks[i]? = some s) : (kv ks)[i]? = some (.string s) := by simp [kv, h]
theorem kv_length (ks : List ByteArray) : (kv ks).length = ks.length := by simp [kv]
mutual
/-- The five cells cs read as the value. -/
def Lies (w : World) (S : Nat → Prop) : V → List Value → Prop
  | .mk k n s ks es, cs => (s.size ≤ 140737488355328 ∧ (∀ x ∈ ks, x.size ≤ 140737488355328) ∧ ks.length ≤ 140737488355328 ∧ es.length ≤ 140737488355328) ∧
      ∃ (A : Option Addr) (a : Nat) (B : Option Addr) (b : Nat) (xs : List Value), cs = [.int .i64 k, .int .i64 n, .string s, .slice A ks.length a, .slice B es.length b] ∧
        (A = none → a = 0) ∧ (B = none → b = 0) ∧ (ks.length ≤ a ∧ a ≤ maxLen) ∧ (es.length ≤ b ∧ b ≤ maxLen) ∧ Rs w S A (kv ks) ∧ Rs w S B xs ∧ LiesL w S es xs
/-- The cells xs read as the values, five for each. -/
def LiesL (w : World) (S : Nat → Prop) : List V → List Value → Prop
  | [], xs => xs = []
  | e :: es, xs => ∃ c r, xs = c ++ r ∧ Lies w S e c ∧ LiesL w S es r
end
mutual
/-- The number of nodes. -/
def V.sz : V → Nat
  | .mk _ _ _ _ es => 1 + V.szL es
def V.szL : List V → Nat
  | [] => 0
  | e :: es => e.sz + V.szL es
end
theorem szL_mem {e : V} {es : List V} (h : e ∈ es) : e.sz ≤ V.szL es := by
  induction es with
  | nil => cases h
  | cons x r ih =>
    rw [V.szL]
    rcases List.mem_cons.1 h with rfl | h
    · omega
    · have := ih h; omega
/-- Induction over a value: what holds of a value whenever it holds of its elements holds of all. -/
theorem V.ind {p : V → Prop} (step : ∀ k n s ks es, (∀ e ∈ es, p e) → p (.mk k n s ks es)) : ∀ v, p v := by
  have h : ∀ m v, V.sz v ≤ m → p v := by
    intro m
    induction m with
    | zero => intro v hv; cases v; rw [V.sz] at hv; omega
    | succ m ih =>
      intro v hv
      cases v with
      | mk k n s ks es =>
        refine step k n s ks es fun e he => ih e ?_
        have := szL_mem he
        rw [V.sz] at hv
        omega
  exact fun v => h _ v (Nat.le_refl _)
theorem lies_move_both {w w' : World} {S S' : Nat → Prop} (hk : ∀ b, S b → S' b ∧ w'.heap[b]? = w.heap[b]?) : ∀ v : V, ∀ cs, Lies w S v cs → Lies w' S' v cs := by
  refine V.ind fun k n s ks es ih cs h => ?_
  rw [Lies] at h ⊢
  obtain ⟨h0, A, a, B, b, xs, hcs, h1, h2, h3, h4, hA, hB, hL⟩ := h
  refine ⟨h0, A, a, B, b, xs, hcs, h1, h2, h3, h4, hA.move hk, hB.move hk, ?_⟩
  clear hcs hB h0 h2 h4
  induction es generalizing xs with
  | nil => rw [LiesL] at hL ⊢; exact hL
  | cons e es ihl =>
    rw [LiesL] at hL ⊢
    obtain ⟨c, r, hx, hc, hr⟩ := hL
    exact ⟨c, r, hx, ih e (by simp) c hc, ihl (fun u hu => ih u (by simp [hu])) r hr⟩
theorem Lies.move {w w' : World} {S S' : Nat → Prop} {v : V} {cs : List Value} (h : Lies w S v cs) (hk : ∀ b, S b → S' b ∧ w'.heap[b]? = w.heap[b]?) : Lies w' S' v cs := lies_move_both hk v cs h
theorem LiesL.move {w w' : World} {S S' : Nat → Prop} {es : List V} {xs : List Value} (h : LiesL w S es xs) (hk : ∀ b, S b → S' b ∧ w'.heap[b]? = w.heap[b]?) : LiesL w' S' es xs := by
  induction es generalizing xs with
  | nil => rw [LiesL] at h ⊢; exact h
  | cons e es ihl =>
    rw [LiesL] at h ⊢
    obtain ⟨c, r, hx, hc, hr⟩ := h
    exact ⟨c, r, hx, hc.move hk, ihl hr⟩
theorem Lies.below {w w' : World} {B : Nat} {v : V} {cs : List Value} (h : Lies w (· < B) v cs) (hb : Below B w w') : Lies w' (· < B) v cs := h.move fun b hbB => ⟨hbB, hb.block b hbB⟩
theorem Lies.five {w : World} {S : Nat → Prop} {v : V} {cs : List Value} (h : Lies w S v cs) : cs.length = 5 := by
  cases v with
  | mk k n s ks es => rw [Lies] at h; obtain ⟨_, A, a, B, b, xs, rfl, _⟩ := h; rfl
theorem LiesL.len {w : World} {S : Nat → Prop} {es : List V} {xs : List Value} (h : LiesL w S es xs) : xs.length = es.length * 5 := by
  induction es generalizing xs with
  | nil => rw [LiesL] at h; subst h; rfl
  | cons e es ih =>
    rw [LiesL] at h
    obtain ⟨c, r, rfl, hc, hr⟩ := h
    rw [List.length_append, hc.five, ih hr, List.length_cons]
    omega
theorem LiesL.at_ {w : World} {S : Nat → Prop} {es : List V} {xs : List Value} (h : LiesL w S es xs) {i : Nat} {e : V} (hi : es[i]? = some e) : ∃ c, Lies w S e c ∧ ∀ j, j < 5 → xs[i * 5 + j]? = c[j]? := by
  induction es generalizing xs i with
  | nil => simp at hi
  | cons x es ih =>
    rw [LiesL] at h
    obtain ⟨c, r, rfl, hc, hr⟩ := h
    have h5 := hc.five
    cases i with
    | zero =>
      simp at hi
      subst hi
      exact ⟨c, hc, fun j hj => by rw [Nat.zero_mul, Nat.zero_add, List.getElem?_append_left (by omega)]⟩
    | succ i =>
      obtain ⟨c', hc', hx⟩ := ih hr (by simpa using hi)
      refine ⟨c', hc', fun j hj => ?_⟩
      rw [List.getElem?_append_right (by omega), ← hx j hj]
      congr 1
      omega
theorem LiesL.snoc {w : World} {S : Nat → Prop} {es : List V} {xs : List Value} (h : LiesL w S es xs) {e : V} {c : List Value} (hc : Lies w S e c) : LiesL w S (es ++ [e]) (xs ++ c) := by
  induction es generalizing xs with
  | nil => rw [LiesL] at h; subst h; rw [List.nil_append, LiesL]; exact ⟨c, [], by simp, hc, by rw [LiesL]⟩
  | cons x es ih =>
    rw [LiesL] at h
    obtain ⟨d, r, rfl, hd, hr⟩ := h
    rw [List.cons_append, LiesL]
    exact ⟨d, r ++ c, by rw [List.append_assoc], hd, ih hr⟩
theorem LiesL.append {w : World} {S : Nat → Prop} {es fs : List V} {xs ys : List Value} (h : LiesL w S es xs) (k : LiesL w S fs ys) : LiesL w S (es ++ fs) (xs ++ ys) := by
  induction es generalizing xs with
  | nil => rw [LiesL] at h; subst h; exact k
  | cons x es ih =>
    rw [LiesL] at h
    obtain ⟨d, r, rfl, hd, hr⟩ := h
    rw [List.cons_append, LiesL]
    exact ⟨d, r ++ ys, by rw [List.append_assoc], hd, ih hr⟩
/-- An element's five cells, where the list lies. -/
theorem elem_cells {w : World} {S : Nat → Prop} {B : Option Addr} {es : List V} {xs : List Value} (hB : Rs w S B xs) (hL : LiesL w S es xs) {i : Nat} {e : V} (hi : es[i]? = some e) :
    ∃ (b o : Nat) (v0 v1 v2 v3 v4 : Value), B = some ⟨b, o, none⟩ ∧ S b ∧ Lies w S e [v0, v1, v2, v3, v4] ∧ w.cell? ⟨b, o + i * 5, none⟩ = some v0 ∧ w.cell? ⟨b, o + i * 5 + 1, none⟩ = some v1 ∧
      w.cell? ⟨b, o + i * 5 + 2, none⟩ = some v2 ∧ w.cell? ⟨b, o + i * 5 + 3, none⟩ = some v3 ∧ w.cell? ⟨b, o + i * 5 + 4, none⟩ = some v4 := by
  obtain ⟨c, hc, hx⟩ := hL.at_ hi
  have h5 := hc.five
  match c, h5 with
  | [v0, v1, v2, v3, v4], _ =>
    obtain ⟨b, o, rfl, hS, h0⟩ := hB.at_ (hx 0 (by omega))
    refine ⟨b, o, v0, v1, v2, v3, v4, rfl, hS, hc, h0, ?_, ?_, ?_, ?_⟩
    all_goals
      first
        | (obtain ⟨b', o', e', _, h'⟩ := hB.at_ (hx 1 (by omega)); injection e' with e'; injection e' with e1 e2; subst e1; subst e2; rw [Nat.add_assoc]; exact h')
        | (obtain ⟨b', o', e', _, h'⟩ := hB.at_ (hx 2 (by omega)); injection e' with e'; injection e' with e1 e2; subst e1; subst e2; rw [Nat.add_assoc]; exact h')
        | (obtain ⟨b', o', e', _, h'⟩ := hB.at_ (hx 3 (by omega)); injection e' with e'; injection e' with e1 e2; subst e1; subst e2; rw [Nat.add_assoc]; exact h')
        | (obtain ⟨b', o', e', _, h'⟩ := hB.at_ (hx 4 (by omega)); injection e' with e'; injection e' with e1 e2; subst e1; subst e2; rw [Nat.add_assoc]; exact h')
mutual
/-- No string and no list takes more than memory has. -/
def V.Fit : V → Prop
  | .mk _ _ s ks es => s.size ≤ 140737488355328 ∧ (∀ x ∈ ks, x.size ≤ 140737488355328) ∧ ks.length ≤ 140737488355328 ∧ es.length ≤ 140737488355328 ∧ V.FitL es
def V.FitL : List V → Prop
  | [] => True
  | e :: es => e.Fit ∧ V.FitL es
end
theorem lies_fit {w : World} {S : Nat → Prop} : ∀ v : V, ∀ cs, Lies w S v cs → v.Fit := by
  refine V.ind fun k n s ks es ih cs h => ?_
  rw [Lies] at h
  obtain ⟨⟨h1, h2, h3, h4⟩, A, a, B, b, xs, hcs, u1, u2, u3, u4, _, _, hL⟩ := h
  clear hcs u1 u2 u3 u4
  rw [V.Fit]
  refine ⟨h1, h2, h3, h4, ?_⟩
  have key : ∀ ys, LiesL w S es ys → V.FitL es := ?_
  · exact key _ hL
  clear h4 hL
  induction es with
  | nil => intro ys _; rw [V.FitL]; trivial
  | cons e es ihl =>
    intro ys hL
    rw [LiesL] at hL
    obtain ⟨c, r, _, hc, hr⟩ := hL
    rw [V.FitL]
    exact ⟨ih e (by simp) c hc, ihl (fun u hu => ih u (by simp [hu])) r hr⟩
theorem lies_open {w : World} {S : Nat → Prop} {k n : Int} {s : ByteArray} {ks : List ByteArray} {es : List V} {cs : List Value} (h : Lies w S (.mk k n s ks es) cs) :
    ∃ (A : Option Addr) (a : Nat) (B : Option Addr) (b : Nat) (xs : List Value), cs = [.int .i64 k, .int .i64 n, .string s, .slice A ks.length a, .slice B es.length b] ∧
        (A = none → a = 0) ∧ (B = none → b = 0) ∧ (ks.length ≤ a ∧ a ≤ maxLen) ∧ (es.length ≤ b ∧ b ≤ maxLen) ∧ Rs w S A (kv ks) ∧ Rs w S B xs ∧ LiesL w S es xs := by
  rw [Lies] at h; exact h.2
/-- An element's five cells, written out. -/
theorem elem_open {w : World} {S : Nat → Prop} {B : Option Addr} {es : List V} {xs : List Value} (hB : Rs w S B xs) (hL : LiesL w S es xs) {i : Nat} {k n : Int} {s : ByteArray} {ks : List ByteArray} {fs : List V} (hi : es[i]? = some (.mk k n s ks fs)) :
    ∃ (b o : Nat) (A : Option Addr) (a : Nat) (C : Option Addr) (c : Nat), B = some ⟨b, o, none⟩ ∧ S b ∧ Lies w S (.mk k n s ks fs) [.int .i64 k, .int .i64 n, .string s, .slice A ks.length a, .slice C fs.length c] ∧ w.cell? ⟨b, o + i * 5, none⟩ = some (.int .i64 k) ∧
      w.cell? ⟨b, o + i * 5 + 1, none⟩ = some (.int .i64 n) ∧ w.cell? ⟨b, o + i * 5 + 2, none⟩ = some (.string s) ∧ w.cell? ⟨b, o + i * 5 + 3, none⟩ = some (.slice A ks.length a) ∧ w.cell? ⟨b, o + i * 5 + 4, none⟩ = some (.slice C fs.length c) := by
  obtain ⟨b, o, v0, v1, v2, v3, v4, hBe, hS, hl, c0, c1, c2, c3, c4⟩ := elem_cells hB hL hi
  have hl2 := hl
  rw [Lies] at hl2
  obtain ⟨_, A, a, C, c, ys, he, _⟩ := hl2
  simp only [List.cons.injEq, and_true] at he
  obtain ⟨rfl, rfl, rfl, rfl, rfl⟩ := he
  exact ⟨b, o, A, a, C, c, hBe, hS, hl, c0, c1, c2, c3, c4⟩
theorem below_old {w w' : World} {o : Obj} (hb : Below (w.heap.size + 1) (w.alloc o) w') : Below w.heap.size w w' :=
  ((Below.refl _ _).alloc (Nat.le_refl _) o).trans (hb.mono (Nat.le_succ _))
theorem below_lies {w w' : World} (hb : Below w.heap.size w w') {v : V} {cs : List Value} (h : Lies w (· < w.heap.size) v cs) : Lies w' (· < w'.heap.size) v cs :=
  h.move fun b hlt => ⟨Nat.lt_of_lt_of_le hlt hb.size, hb.block b hlt⟩
theorem below_cell {w w' : World} (hb : Below w.heap.size w w') {b i : Nat} (hlt : b < w.heap.size) {u : Value} (hu : w.cell? ⟨b, i, none⟩ = some u) : w'.cell? ⟨b, i, none⟩ = some u :=
  (hb.cell (p := ⟨b, i, none⟩) hlt).trans hu
end Go.Proofs.Ytnokmlclephjgaa
