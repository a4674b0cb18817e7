import Derived.Lib.Hide
import Derived.WalkKit
import Derived.Laws.OwnMore
import Derived.Deep.Draws
import Derived.Laws.AppendOwnNone
import Derived.OwnWalk
set_option linter.unusedVariables false
set_option linter.unusedSectionVars false
set_option linter.unusedSimpArgs false
namespace Go.Proofs.YtoleoimmpggldaaGreatDoor
open Go.RowKit
abbrev ι (n : Int) : Value := .int .i64 n
abbrev nL : Value := .slice none 0 0
abbrev eS : Value := .string ⟨#[]⟩
theorem hI {p : Prop} (h : p) : Hid p := Lib.hid h
theorem mC {α : Type _} {a : α} {l : List α} : a ∈ a :: l := List.mem_cons_self
theorem bF {α : Type _} [BEq α] [LawfulBEq α] {a b : α} : (a == b) = false ↔ a ≠ b := beq_eq_false_iff_ne
theorem gE {α : Type _} {i : Nat} {l : List α} {a : α} : l[i]? = some a ↔ ∃ h : i < l.length, l[i] = a := List.getElem?_eq_some_iff
theorem nT {a b c : Nat} (h : a < b) (k : b ≤ c) : a < c := Nat.lt_of_lt_of_le h k
theorem sA {α : Type _} {l : List α} {i : Nat} {a : α} : l.toArray.setIfInBounds i a = (l.set i a).toArray := List.setIfInBounds_toArray ..
theorem sZ {α : Type _} {a b : α} {l : List α} : (a :: l).set 0 b = b :: l := rfl
theorem sS {α : Type _} {a b : α} {l : List α} {n : Nat} : (a :: l).set (n + 1) b = a :: l.set n b := rfl
structure N9 where (o : Int) (t : ByteArray) (k j : Int) (s : ByteArray) (A : Option Addr) (a u : Nat) (B : Option Addr) (b v : Nat) (C : Option Addr) (e w : Nat) (D : Option Addr) (d x : Nat)
abbrev N9.l (n : N9) : List Value := [.int .i64 n.o, .string n.t, .int .i64 n.k, .int .i64 n.j, .string n.s, .slice n.A n.a n.u, .slice n.B n.b n.v, .slice n.C n.e n.w, .slice n.D n.d n.x]
abbrev N9.c (n : N9) : Array Value := #[.int .i64 n.o, .string n.t, .int .i64 n.k, .int .i64 n.j, .string n.s, .slice n.A n.a n.u, .slice n.B n.b n.v, .slice n.C n.e n.w, .slice n.D n.d n.x]
abbrev N9.ll (n m : N9) : List Value := [.int .i64 n.o, .string n.t, .int .i64 n.k, .int .i64 n.j, .string n.s, .slice n.A n.a n.u, .slice n.B n.b n.v, .slice n.C n.e n.w, .slice n.D n.d n.x, .int .i64 m.o, .string m.t, .int .i64 m.k, .int .i64 m.j, .string m.s, .slice m.A m.a m.u, .slice m.B m.b m.v, .slice m.C m.e m.w, .slice m.D m.d m.x]
abbrev N9.cc (n m : N9) : Array Value := #[.int .i64 n.o, .string n.t, .int .i64 n.k, .int .i64 n.j, .string n.s, .slice n.A n.a n.u, .slice n.B n.b n.v, .slice n.C n.e n.w, .slice n.D n.d n.x, .int .i64 m.o, .string m.t, .int .i64 m.k, .int .i64 m.j, .string m.s, .slice m.A m.a m.u, .slice m.B m.b m.v, .slice m.C m.e m.w, .slice m.D m.d m.x]
theorem ret_int {k : IntKind} {a b : Int} (h : a = b) : Ending.returned (.int k a) = .returned (.int k b) := by rw [h]
theorem ret_bool {a b : Bool} (h : a = b) : Ending.returned (.bool a) = .returned (.bool b) := by rw [h]
def Rd (w : World) (B : Nat) (A : Option Addr) (xs : List Value) : Prop := ∀ j u, xs[j]? = some u → ∃ b o, A = some ⟨b, o, none⟩ ∧ b < B ∧ w.cell? ⟨b, o + j, none⟩ = some u
theorem Rd.at_ {w : World} {B : Nat} {A : Option Addr} {xs : List Value} (h : Rd w B A xs) {j : Nat} {u : Value} (hj : xs[j]? = some u) : ∃ b o, A = some ⟨b, o, none⟩ ∧ b < B ∧ w.cell? ⟨b, o + j, none⟩ = some u := h j u hj
theorem Rd.nil (w : World) (B : Nat) (A : Option Addr) : Rd w B A [] := fun j u h => by simp at h
theorem Rd.keep {w w' : World} {B : Nat} {A : Option Addr} {xs : List Value} (h : Rd w B A xs) (hk : ∀ p : Addr, p.block < B → w'.cell? p = w.cell? p) : Rd w' B A xs := by
 intro j u hj;obtain ⟨b, o, e, hb, hc⟩ := h j u hj;exact ⟨b, o, e, hb, (hk _ hb).trans hc⟩
theorem Rd.mono {w : World} {B B' : Nat} {A : Option Addr} {xs : List Value} (h : Rd w B A xs) (hB : B ≤ B') : Rd w B' A xs := by
 intro j u hj;obtain ⟨b, o, e, hb, hc⟩ := h j u hj;exact ⟨b, o, e, by omega, hc⟩
theorem Rd.below {w w' : World} {B B' : Nat} {A : Option Addr} {xs : List Value} (h : Rd w B A xs) (hb : Below B' w w') (hB : B ≤ B') : Rd w' B A xs :=
 h.keep fun _ hp => hb.cell (nT hp hB)
theorem Rd.grown {w w' : World} {B : Nat} {A : Option Addr} {xs : List Value} (h : Rd w B A xs) {row : Option Nat} (hg : w.grownBy w' row) (hB : B ≤ w.heap.size) (hr : ∀ k, row = some k → B ≤ k) : Rd w' B A xs :=
 h.keep fun p hp => World.cell?_of_block (hg.block p.block (by omega) (fun e => by have := hr _ e.symm; omega))
theorem own_slice {w : World} {base n : Nat} {e : TypeId} {v : Value} {xs : List Value} (h : w.ownsRow base e 1 v n xs) :
 ∃ A c, v = .slice A n c ∧ xs.length = n ∧ Rd w w.heap.size A xs := by
 have hl : xs.length = n := by have := h.1; omega
 have h2 := h;rcases h.2 with ⟨rfl, rfl⟩ | ⟨g, cap, cur, rfl, hb, hh, hnc, hcm, hcs, ht⟩
 · refine ⟨none, 0, rfl, hl, ?_⟩;have : xs = [] := List.eq_nil_of_length_eq_zero hl;subst this; exact Rd.nil _ _ _
 · refine ⟨some ⟨g, 0, none⟩, cap, rfl, hl, fun j u hj => ⟨g, 0, rfl, ?_, ?_⟩⟩
   · exact (h2.lt g rfl).2
   · have hjn : j < n := by
      rcases Nat.lt_or_ge j xs.length with hlt | hge
      · omega
      · rw [List.getElem?_eq_none hge] at hj; cases hj
     have := h2.cellAt (g := g) (cap := cap) j (by omega);rw [Nat.zero_add, this, hj]
theorem wpList_append_rd {P : Program} (w : World) {ops : Array Oper} {rest : List Oper} {o : Oper} {a : Act} {Q : Exit → Act → World → Prop} (hgd : o.guard = none) (s x : Operand) (t : TypeId)
 (ho : o.op = .call { callee := .builtin .append, args := #[s, x], argTypes := #[t, t] })
 (base : Nat) (e : TypeId) (i : TypeInfo) (z : Value) (bytes : Nat) (ht : P.underlying t = some (.slice e)) (hi : P.info? e = some i) (hz : i.zero = some z)
 (hsize : i.size = 1) (hby : i.bytes = bytes) (hzs : z.cells.size = 1)
 (v : Value) (n : Nat) (xs : List Value) (hs : a.eval s = v) (hown : w.ownsRow base e 1 v n xs)
 (B : Nat) (A : Option Addr) (c : Nat) (news : List Value) (hx : a.eval x = .slice A news.length c) (hr : Rd w B A news) (hnil : A = none → c = 0) (h1 : ∀ u ∈ news, u.oneCell' = true)
 (h63 : n + news.length ≤ maxLen) (hbytes : (n + news.length) * bytes ≤ 140737488355328) (hbase : base ≤ w.heap.size)
 (h : ∀ v' w', w'.ownsRow base e 1 v' (n + news.length) (xs ++ news) → w.grownBy w' v.ownBlock → wpList P ops Q rest (a.put o.dst v') w') : wpList P ops Q (o :: rest) a w := by
 cases A with
 | none =>
  have hn : news = [] := by
   cases news with
   | nil => rfl
   | cons u t => obtain ⟨b, o, h1, _⟩ := hr 0 u rfl; cases h1
  subst hn;obtain rfl := hnil rfl;exact wpList_append_own_none hgd s x t ho base e i 1 ht hi v n xs hs hown hx (h v w (by simpa using hown) (World.grownBy.refl w _))
 | some ad =>
  refine wpList_append_own w hgd s x t ho base e i z 1 bytes ht hi hz hsize hby hzs (by decide) v n xs hs hown ad news.length c news hx (by omega) ?_ h1 h63 hbytes hbase (fun v' w' g1 g2 _ => h v' w' g1 g2);intro j u hj;obtain ⟨b, o, h1, _, h2⟩ := hr j u hj;injection h1 with h1
  subst h1;have h3 : ((⟨b, o, none⟩ : Addr).add j) = ⟨b, o + j, none⟩ := by
   unfold Addr.add
   by_cases h : j = 0 <;> simp [h]
  rw [h3, h2]
theorem chain {a b c : World} (h : Below a.heap.size a b) (k : Below b.heap.size b c) : Below a.heap.size a c := h.trans (k.mono h.size)
theorem below_of_drew {w w' : World} (h : Below w.drew.heap.size w.drew w') : Below w.heap.size w w' := (Below.refl w.heap.size w).drew.trans h
end Go.Proofs.YtoleoimmpggldaaGreatDoor
namespace Go.Proofs.YtoleoimmpggldaaGreatDoor
open Go.RowKit
inductive V where
 | mk (kind num : Int) (str : ByteArray) (keys : List ByteArray) (elems : List V)
def Rs (w : World) (S : Nat → Prop) (A : Option Addr) (xs : List Value) : Prop := ∀ j u, xs[j]? = some u → ∃ b o, A = some ⟨b, o, none⟩ ∧ S b ∧ w.cell? ⟨b, o + j, none⟩ = some u
theorem Rs.nil (w : World) (S : Nat → Prop) (A : Option Addr) : Rs w S A [] := fun j u h => by simp at h
theorem Rs.at_ {w : World} {S : Nat → Prop} {A : Option Addr} {xs : List Value} (h : Rs w S A xs) {j : Nat} {u : Value} (hj : xs[j]? = some u) : ∃ b o, A = some ⟨b, o, none⟩ ∧ S b ∧ w.cell? ⟨b, o + j, none⟩ = some u := h j u hj
theorem Rs.move {w w' : World} {S S' : Nat → Prop} {A : Option Addr} {xs : List Value} (h : Rs w S A xs) (hk : ∀ b, S b → S' b ∧ w'.heap[b]? = w.heap[b]?) : Rs w' S' A xs := by
 intro j u hj;obtain ⟨b, o, e, hb, hc⟩ := h j u hj;exact ⟨b, o, e, (hk b hb).1, (World.cell?_of_block (hk b hb).2).trans hc⟩
theorem Rs.rd {w : World} {B : Nat} {A : Option Addr} {xs : List Value} (h : Rs w (· < B) A xs) : Rd w B A xs := h
def kv (ks : List ByteArray) : List Value := ks.map Value.string
theorem kv_at {ks : List ByteArray} {i : Nat} {s : ByteArray} (h : ks[i]? = some s) : (kv ks)[i]? = some (.string s) := by simp [kv, h]
mutual
def Lies (w : World) (S : Nat → Prop) : V → List Value → Prop
 | .mk k n s ks es, cs => (s.size ≤ 140737488355328 ∧ (∀ x ∈ ks, x.size ≤ 140737488355328) ∧ ks.length ≤ 140737488355328 ∧ es.length ≤ 140737488355328) ∧
  ∃ (A : Option Addr) (a : Nat) (B : Option Addr) (b : Nat) (xs : List Value), cs = [ι k, ι n, .string s, .slice A ks.length a, .slice B es.length b] ∧
   (A = none → a = 0) ∧ (B = none → b = 0) ∧ (ks.length ≤ a ∧ a ≤ maxLen) ∧ (es.length ≤ b ∧ b ≤ maxLen) ∧ Rs w S A (kv ks) ∧ Rs w S B xs ∧ LiesL w S es xs
def LiesL (w : World) (S : Nat → Prop) : List V → List Value → Prop
 | [], xs => xs = []
 | e :: es, xs => ∃ c r, xs = c ++ r ∧ Lies w S e c ∧ LiesL w S es r
end
mutual
def V.sz : V → Nat
 | .mk _ _ _ _ es => 1 + V.szL es
def V.szL : List V → Nat
 | [] => 0
 | e :: es => e.sz + V.szL es
end
theorem szL_mem {e : V} {es : List V} (h : e ∈ es) : e.sz ≤ V.szL es := by
 induction es with
 | nil => cases h
 | cons x r ih =>
  rw [V.szL];rcases List.mem_cons.1 h with rfl | h
  · omega
  · have := ih h; omega
theorem V.ind {p : V → Prop} (step : ∀ k n s ks es, (∀ e ∈ es, p e) → p (.mk k n s ks es)) : ∀ v, p v := by
 have h : ∀ m v, V.sz v ≤ m → p v := by
  intro m
  induction m with
  | zero => intro v hv; cases v; rw [V.sz] at hv; omega
  | succ m ih =>
   intro v hv
   cases v with
   | mk k n s ks es =>
    refine step k n s ks es fun e he => ih e ?_
    have := szL_mem he;rw [V.sz] at hv;omega
 exact fun v => h _ v (Nat.le_refl _)
theorem lies_move_both {w w' : World} {S S' : Nat → Prop} (hk : ∀ b, S b → S' b ∧ w'.heap[b]? = w.heap[b]?) : ∀ v : V, ∀ cs, Lies w S v cs → Lies w' S' v cs := by
 refine V.ind fun k n s ks es ih cs h => ?_
 rw [Lies] at h ⊢;obtain ⟨h0, A, a, B, b, xs, hcs, h1, h2, h3, h4, hA, hB, hL⟩ := h;refine ⟨h0, A, a, B, b, xs, hcs, h1, h2, h3, h4, hA.move hk, hB.move hk, ?_⟩;clear hcs hB h0 h2 h4
 induction es generalizing xs with
 | nil => rw [LiesL] at hL ⊢; exact hL
 | cons e es ihl =>
  rw [LiesL] at hL ⊢;obtain ⟨c, r, hx, hc, hr⟩ := hL;exact ⟨c, r, hx, ih e (by simp) c hc, ihl (fun u hu => ih u (by simp [hu])) r hr⟩
theorem Lies.move {w w' : World} {S S' : Nat → Prop} {v : V} {cs : List Value} (h : Lies w S v cs) (hk : ∀ b, S b → S' b ∧ w'.heap[b]? = w.heap[b]?) : Lies w' S' v cs := lies_move_both hk v cs h
theorem LiesL.move {w w' : World} {S S' : Nat → Prop} {es : List V} {xs : List Value} (h : LiesL w S es xs) (hk : ∀ b, S b → S' b ∧ w'.heap[b]? = w.heap[b]?) : LiesL w' S' es xs := by
 induction es generalizing xs with
 | nil => rw [LiesL] at h ⊢; exact h
 | cons e es ihl =>
  rw [LiesL] at h ⊢;obtain ⟨c, r, hx, hc, hr⟩ := h;exact ⟨c, r, hx, hc.move hk, ihl hr⟩
theorem Lies.below {w w' : World} {B : Nat} {v : V} {cs : List Value} (h : Lies w (· < B) v cs) (hb : Below B w w') : Lies w' (· < B) v cs := h.move fun b hbB => ⟨hbB, hb.block b hbB⟩
theorem Lies.five {w : World} {S : Nat → Prop} {v : V} {cs : List Value} (h : Lies w S v cs) : cs.length = 5 := by
 cases v with
 | mk k n s ks es => rw [Lies] at h; obtain ⟨_, A, a, B, b, xs, rfl, _⟩ := h; rfl
theorem LiesL.len {w : World} {S : Nat → Prop} {es : List V} {xs : List Value} (h : LiesL w S es xs) : xs.length = es.length * 5 := by
 induction es generalizing xs with
 | nil => rw [LiesL] at h; subst h; rfl
 | cons e es ih =>
  rw [LiesL] at h;obtain ⟨c, r, rfl, hc, hr⟩ := h;rw [List.length_append, hc.five, ih hr, List.length_cons];omega
theorem LiesL.at_ {w : World} {S : Nat → Prop} {es : List V} {xs : List Value} (h : LiesL w S es xs) {i : Nat} {e : V} (hi : es[i]? = some e) : ∃ c, Lies w S e c ∧ ∀ j, j < 5 → xs[i * 5 + j]? = c[j]? := by
 induction es generalizing xs i with
 | nil => simp at hi
 | cons x es ih =>
  rw [LiesL] at h;obtain ⟨c, r, rfl, hc, hr⟩ := h;have h5 := hc.five
  cases i with
  | zero =>
   simp at hi;subst hi;exact ⟨c, hc, fun j hj => by rw [Nat.zero_mul, Nat.zero_add, List.getElem?_append_left (by omega)]⟩
  | succ i =>
   obtain ⟨c', hc', hx⟩ := ih hr (by simpa using hi);refine ⟨c', hc', fun j hj => ?_⟩;rw [List.getElem?_append_right (by omega), ← hx j hj]
   congr 1
   omega
theorem LiesL.append {w : World} {S : Nat → Prop} {es fs : List V} {xs ys : List Value} (h : LiesL w S es xs) (k : LiesL w S fs ys) : LiesL w S (es ++ fs) (xs ++ ys) := by
 induction es generalizing xs with
 | nil => rw [LiesL] at h; subst h; exact k
 | cons x es ih =>
  rw [LiesL] at h;obtain ⟨d, r, rfl, hd, hr⟩ := h;rw [List.cons_append, LiesL];exact ⟨d, r ++ ys, by rw [List.append_assoc], hd, ih hr⟩
theorem elem_cells {w : World} {S : Nat → Prop} {B : Option Addr} {es : List V} {xs : List Value} (hB : Rs w S B xs) (hL : LiesL w S es xs) {i : Nat} {e : V} (hi : es[i]? = some e) :
 ∃ (b o : Nat) (v0 v1 v2 v3 v4 : Value), B = some ⟨b, o, none⟩ ∧ S b ∧ Lies w S e [v0, v1, v2, v3, v4] ∧ w.cell? ⟨b, o + i * 5, none⟩ = some v0 ∧ w.cell? ⟨b, o + i * 5 + 1, none⟩ = some v1 ∧
  w.cell? ⟨b, o + i * 5 + 2, none⟩ = some v2 ∧ w.cell? ⟨b, o + i * 5 + 3, none⟩ = some v3 ∧ w.cell? ⟨b, o + i * 5 + 4, none⟩ = some v4 := by
 obtain ⟨c, hc, hx⟩ := hL.at_ hi;have h5 := hc.five
 match c, h5 with
 | [v0, v1, v2, v3, v4], _ =>
  obtain ⟨b, o, rfl, hS, h0⟩ := hB.at_ (hx 0 (by omega));refine ⟨b, o, v0, v1, v2, v3, v4, rfl, hS, hc, h0, ?_, ?_, ?_, ?_⟩
  all_goals
   first
    | (obtain ⟨b', o', e', _, h'⟩ := hB.at_ (hx 1 (by omega)); injection e' with e'; injection e' with e1 e2; subst e1; subst e2; rw [Nat.add_assoc]; exact h')
    | (obtain ⟨b', o', e', _, h'⟩ := hB.at_ (hx 2 (by omega)); injection e' with e'; injection e' with e1 e2; subst e1; subst e2; rw [Nat.add_assoc]; exact h')
    | (obtain ⟨b', o', e', _, h'⟩ := hB.at_ (hx 3 (by omega)); injection e' with e'; injection e' with e1 e2; subst e1; subst e2; rw [Nat.add_assoc]; exact h')
    | (obtain ⟨b', o', e', _, h'⟩ := hB.at_ (hx 4 (by omega)); injection e' with e'; injection e' with e1 e2; subst e1; subst e2; rw [Nat.add_assoc]; exact h')
mutual
def V.Fit : V → Prop
 | .mk _ _ s ks es => s.size ≤ 140737488355328 ∧ (∀ x ∈ ks, x.size ≤ 140737488355328) ∧ ks.length ≤ 140737488355328 ∧ es.length ≤ 140737488355328 ∧ V.FitL es
def V.FitL : List V → Prop
 | [] => True
 | e :: es => e.Fit ∧ V.FitL es
end
theorem lies_fit {w : World} {S : Nat → Prop} : ∀ v : V, ∀ cs, Lies w S v cs → v.Fit := by
 refine V.ind fun k n s ks es ih cs h => ?_
 rw [Lies] at h;obtain ⟨⟨h1, h2, h3, h4⟩, A, a, B, b, xs, hcs, u1, u2, u3, u4, _, _, hL⟩ := h;clear hcs u1 u2 u3 u4;rw [V.Fit];refine ⟨h1, h2, h3, h4, ?_⟩;have key : ∀ ys, LiesL w S es ys → V.FitL es := ?_
 · exact key _ hL
 clear h4 hL
 induction es with
 | nil => intro ys _; rw [V.FitL]; trivial
 | cons e es ihl =>
  intro ys hL;rw [LiesL] at hL;obtain ⟨c, r, _, hc, hr⟩ := hL;rw [V.FitL];exact ⟨ih e (by simp) c hc, ihl (fun u hu => ih u (by simp [hu])) r hr⟩
theorem lies_open {w : World} {S : Nat → Prop} {k n : Int} {s : ByteArray} {ks : List ByteArray} {es : List V} {cs : List Value} (h : Lies w S (.mk k n s ks es) cs) :
 ∃ (A : Option Addr) (a : Nat) (B : Option Addr) (b : Nat) (xs : List Value), cs = [ι k, ι n, .string s, .slice A ks.length a, .slice B es.length b] ∧
  (A = none → a = 0) ∧ (B = none → b = 0) ∧ (ks.length ≤ a ∧ a ≤ maxLen) ∧ (es.length ≤ b ∧ b ≤ maxLen) ∧ Rs w S A (kv ks) ∧ Rs w S B xs ∧ LiesL w S es xs := by
 rw [Lies] at h; exact h.2
theorem below_lies {w w' : World} (hb : Below w.heap.size w w') {v : V} {cs : List Value} (h : Lies w (· < w.heap.size) v cs) : Lies w' (· < w'.heap.size) v cs :=
 h.move fun b hlt => ⟨nT hlt hb.size, hb.block b hlt⟩
theorem below_cell {w w' : World} (hb : Below w.heap.size w w') {b i : Nat} (hlt : b < w.heap.size) {u : Value} (hu : w.cell? ⟨b, i, none⟩ = some u) : w'.cell? ⟨b, i, none⟩ = some u :=
 (hb.cell (p := ⟨b, i, none⟩) hlt).trans hu
end Go.Proofs.YtoleoimmpggldaaGreatDoor
namespace Go.Proofs.YtoleoimmpggldaaGreatDoor
open Go.RowKit
def Box (w : World) (g : Nat) (t : TypeId) (cs : Array Value) : Prop := w.heap[g]? = some (.cells cs t (0, 0))
section
variable {w w' : World} {g : Nat} {t : TypeId} {cs : Array Value}
theorem Box.lt (h : Box w g t cs) : g < w.heap.size := (Array.getElem?_eq_some_iff.1 h).1
theorem Box.cell (h : Box w g t cs) {i : Nat} {u : Value} (hu : cs[i]? = some u) : w.cell? ⟨g, i, none⟩ = some u := (cell_of_row w g i cs t (0, 0) h).trans hu
theorem Box.free (h : Box w g t cs) (i : Nat) : w.frozen? ⟨g, i, none⟩ = false := by
 unfold Box at h;simp [World.frozen?, h]
theorem Box.put (h : Box w g t cs) (i : Nat) (u : Value) : Box (w.setCell ⟨g, i, none⟩ u) g t (cs.setIfInBounds i u) := by
 unfold Box at h ⊢;simp [World.setCell, Array.getElem?_modify, h]
theorem Box.laid (w : World) (t : TypeId) (cs : Array Value) : Box (w.alloc (.cells cs t)) w.heap.size t cs := heap_alloc_new w _
theorem Box.drewN (h : Box w g t cs) (n : Nat) : Box (w.drewN n) g t cs := h
theorem Box.alloc (h : Box w g t cs) (o : Obj) : Box (w.alloc o) g t cs := (Below.heap_alloc w o g h.lt).trans h
theorem Box.grown (h : Box w g t cs) {row : Option Nat} (hb : w.grownBy w' row) (hg : some g ≠ row) : Box w' g t cs := (hb.block g h.lt hg).trans h
theorem Box.far (h : Box w g t cs) {p : Addr} (hp : g ≠ p.block) (u : Value) : Box (w.setCell p u) g t cs := (Below.heap_setCell w p u g hp).trans h
theorem Box.below {B : Nat} (h : Box w g t cs) (hb : Below B w w') (hg : g < B) : Box w' g t cs := (hb.block g hg).trans h
end
theorem grown_trans {a b c : World} {row : Option Nat} (h : a.grownBy b row) (k : b.grownBy c row) : a.grownBy c row :=
 ⟨k.os.trans h.os, k.tape.trans h.tape, k.output.trans h.output, Nat.le_trans h.size k.size, fun i hi hn => (k.block i (nT hi h.size) hn).trans (h.block i hi hn)⟩
theorem grown_set (w : World) (g i : Nat) (u : Value) : w.grownBy (w.setCell ⟨g, i, none⟩ u) (some g) :=
 ⟨rfl, rfl, rfl, by simp [World.setCell], fun k _ hn => Below.heap_setCell w _ u k (fun e => hn (by rw [e]))⟩
theorem below_grown {w w' : World} (h : Below w.heap.size w w') (row : Option Nat) : w.grownBy w' row := ⟨h.os, h.tape, h.output, h.size, fun k hk _ => h.block k hk⟩
theorem box5 {w : World} {g : Nat} {t : TypeId} {x0 x1 x2 x3 x4 : Value} (h : Box w g t #[x0, x1, x2, x3, x4]) : w.cell? ⟨g, 0, none⟩ = some x0 ∧ w.cell? ⟨g, 1, none⟩ = some x1 ∧ w.cell? ⟨g, 2, none⟩ = some x2 ∧ w.cell? ⟨g, 3, none⟩ = some x3 ∧ w.cell? ⟨g, 4, none⟩ = some x4 :=
 ⟨h.cell rfl, h.cell rfl, h.cell rfl, h.cell rfl, h.cell rfl⟩
