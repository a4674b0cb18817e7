import Derived.Test.YtoleoimmpggldaaGreatDoorQF
import Derived.Laws.AppendOwn
import Derived.ArgAppend
import Derived.Deep.RegionLawGrows
set_option linter.unusedVariables false
set_option linter.unusedSectionVars false
set_option linter.unusedSimpArgs false
namespace Go.Proofs.YtoleoimmpggldaaGreatDoor
open Go.RowKit
theorem inf_fi : (Tryz.prog.info? 29).map (fun i => (i.zero, i.size, i.bytes)) = some (some (.agg #[ι 0, eS, ι 0, ι 0, eS, nL, nL, nL, nL]), 9, 152) := by kernel_rfl
theorem infoF {i : Option TypeInfo} {z : Option Value} {a b : Nat} (h : i.map (fun i => (i.zero, i.size, i.bytes)) = some (z, a, b)) : ∃ i0, i = some i0 ∧ i0.zero = z ∧ i0.size = a ∧ i0.bytes = b := by
 cases i with
 | none => simp at h
 | some i0 =>
  simp only [Option.map_some, Option.some.injEq, Prod.mk.injEq] at h;exact ⟨i0, rfl, h.1, h.2.1, h.2.2⟩
theorem own_open {w : World} {base : Nat} {T : TypeId} {size n : Nat} {v : Value} {xs : List Value} (h : w.ownsRow base T size v n xs) :
 ∃ A c, v = .slice A n c ∧ n ≤ c ∧ c ≤ maxLen ∧ (A = none → c = 0) ∧ (A = none → n = 0) ∧ (∀ a, A = some a → base ≤ a.block ∧ a.block < w.heap.size) ∧ Rs w (fun b => base ≤ b ∧ b < w.heap.size) A xs := by
 have h2 := h;rcases h.2 with ⟨rfl, rfl⟩ | ⟨g, cap, cur, rfl, hb, hh, hnc, hcm, hcs, ht⟩
 · refine ⟨none, 0, rfl, Nat.le_refl _, by simp [maxLen], fun _ => rfl, fun _ => rfl, fun a e => by simp at e, fun j u hj => ?_⟩;have : xs = [] := List.eq_nil_of_length_eq_zero (by rw [h.1]; simp);subst this;simp at hj
 · have hlt : g < w.heap.size := (Array.getElem?_eq_some_iff.1 hh).1;refine ⟨some ⟨g, 0, none⟩, cap, rfl, hnc, hcm, fun e => by simp at e, fun e => by simp at e, fun a e => by injection e with e; subst e; exact ⟨hb, hlt⟩, fun j u hj => ⟨g, 0, rfl, ⟨hb, hlt⟩, ?_⟩⟩;have hjn : j < n * size := by
    rw [← h2.1];exact (gE.1 hj).1
   rw [Nat.zero_add, h2.cellAt j hjn, hj]
theorem one9 (i : Int) (tx : ByteArray) (k j : Int) (s : ByteArray) (A : Option Addr) (n m : Nat) (B : Option Addr) (p q : Nat) (C : Option Addr) (u v : Nat) (D : Option Addr) (x y : Nat) : ∀ z ∈ ([ι i, .string tx, ι k, ι j, .string s, .slice A n m, .slice B p q, .slice C u v, .slice D x y] : List Value), z.oneCell' = true := by
 intro z hz;simp only [List.mem_cons, List.not_mem_nil, or_false] at hz;rcases hz with rfl | rfl | rfl | rfl | rfl | rfl | rfl | rfl | rfl <;> rfl
theorem new9 (w : World) (T : TypeId) (cs : Array Value) {q : Nat} (hq : w.heap.size = q) : ∀ j u, cs.toList[j]? = some u → (w.alloc (.cells cs T)).cell? ((⟨q, 0, none⟩ : Addr).add j) = some u := by
 intro j u hj;subst hq;have h1 := (Box.laid w T cs).cell (i := j) (u := u) (by simpa using hj);unfold Addr.add
 by_cases h : j = 0
 · subst h; simpa using h1
 · simpa [h] using h1
theorem field_kind (t : Fk) (W : World) : Sem.run Tryz.prog (Instr.field 41 (.agg #[ι t.k, ι t.o, .string t.s, ι t.i]) 0) W = .ok (ι t.k) W := by kernel_rfl
theorem field_off (t : Fk) (W : World) : Sem.run Tryz.prog (Instr.field 41 (.agg #[ι t.k, ι t.o, .string t.s, ι t.i]) 1) W = .ok (ι t.o) W := by kernel_rfl
section
variable {S : Nat → Prop} {L : List Fk} {gt C g : Nat} {w w' w0 : World} {σ τ : PS} {bs : List (Nat × Array Value)} {ts : List (Ft × List Value)} {t : Ft} {cs : List Value}
theorem Own.lt (h : St S L gt C g w0 w σ bs ts) : ∀ b, Own S w0 w bs b → b < w.heap.size := by
 intro b hb;rcases hb with hb | hb
 · have := (h.hS b hb).1; have := h.lt; omega
 · exact hb.2.1
theorem St.maker (h : St S L gt C g w0 w σ bs ts) (hb : Below w.heap.size w w') (hl : LiesF w' (Und (Own S w0 w bs) w.heap.size w'.heap.size) t cs) : St S L gt C g w0 w' σ bs ((t, cs) :: ts) := by
 have h2 := h.low hb;refine h2.put (LiesF.move hl fun b hb' => ⟨?_, rfl⟩);rcases hb' with hb' | hb'
 · exact (Own.gr h (Gr.below hb) b hb').1
 · exact .inr ⟨nT h.lt hb'.1, hb'.2, fun q hq => by have := (h.b q hq).2.lt; have := hb'.1; omega⟩
theorem St.own_node (h : St S L gt C g w0 w σ bs ts) (op : Int) (tx : ByteArray) (htx : tx.size ≤ 140737488355328) {fs : List Ft} {xs : List Value} {A : Option Addr} {n c : Nat} (hn : fs.length = n) (hn2 : n ≤ 1000000) (hA : A = none → c = 0) (hc : n ≤ c) (hcm : c ≤ maxLen) (hR : Rs w (Own S w0 w bs) A xs) (hL : LiesFL w (Own S w0 w bs) fs xs) :
 St S L gt C g w0 w σ bs ((.mk op tx vz [] fs, [ι op, .string tx, ι 0, ι 0, eS, nL, nL, nL, .slice A n c]) :: ts) :=
 h.put (liesF_node op tx htx hn hA hc hcm (by omega) hR hL)
end
