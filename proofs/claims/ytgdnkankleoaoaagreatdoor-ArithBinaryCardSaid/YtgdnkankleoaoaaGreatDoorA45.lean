/- A value that came in reads as a tree. An api.Value that came in reads as a tree. A value that came in as an argument. ArithMerge: what its calls hand back, and the regions that lay a looked-up value's box. keep.Short at a list of strings. -/
import Derived.SliceStrings
import Derived.SizedLaws
import Derived.Test.YtgdnkankleoaoaaGreatDoorRows
import Derived.Test.YtgdnkankleoaoaaGreatDoorA44
import Derived.Test.YtgdnkankleoaoaaGreatDoorA01
import Derived.Test.YtgdnkankleoaoaaGreatDoorA41
import Derived.Test.YtgdnkankleoaoaaGreatDoorA40
import Derived.Test.YtgdnkankleoaoaaGreatDoorA36
import Derived.Deep.RegionHeld3
import Derived.Test.YtgdnkankleoaoaaGreatDoorA02
import Derived.Test.YtgdnkankleoaoaaGreatDoorA03
set_option linter.unusedVariables false
set_option linter.unusedSimpArgs false
namespace Go.Proofs.YtgdnkankleoaoaaGreatDoor
open Go.ChangeShapes Go.WideShapes Go.ChangeAt Go.RowKit
section
variable {H : Type} {enc : TypeId × Value → H} {w : World}
theorem weightsAll_mem {P : Program} {e : TypeId} {d : DataW H} : ∀ {l : List (DataW H)}, d ∈ l → ∀ n ∈ d.weights P e, n ∈ DataW.weightsAll P e l
  | [], h, _, _ => by cases h
  | x :: r, h, n, hn => by
    rw [DataW.weightsAll, List.mem_append]
    rcases List.mem_cons.1 h with rfl | h
    · exact .inl hn
    · exact .inr (weightsAll_mem h n hn)
/-- No string and no slice of the data takes more than the reach. -/
def Slim (P : Program) (t : TypeId) (d : DataW H) : Prop := ∀ n ∈ d.weights P t, n ≤ 140737488355328
theorem add_off (b o j : Nat) : ((⟨b, o, none⟩ : Addr).add j) = ⟨b, o + j, none⟩ := by
  unfold Addr.add
  by_cases h : j = 0 <;> simp [h]
theorem liesL_range {S : Nat → Prop} {Vf : Nat → V} {C : Nat → List Value} : ∀ len : Nat, (∀ i, i < len → Lies w S (Vf i) (C i)) → LiesL w S ((List.range len).map Vf) ((List.range len).flatMap C)
  | 0, _ => by simp [LiesL]
  | len + 1, h => by
    rw [List.range_succ, List.map_append, List.flatMap_append]
    have := LiesL.snoc (liesL_range len fun i hi => h i (by omega)) (h len (by omega))
    simpa using this
theorem rs_range {S : Nat → Prop} {b o : Nat} {C : Nat → List Value} (hb : ∀ i, S b ∨ i = i + 1) : ∀ len : Nat, (∀ i, i < len → (C i).length = 5 ∧ ∀ r, r < 5 → w.cell? ⟨b, o + i * 5 + r, none⟩ = (C i)[r]?) →
    ((List.range len).flatMap C).length = len * 5 ∧ ∀ j u, ((List.range len).flatMap C)[j]? = some u → w.cell? ⟨b, o + j, none⟩ = some u
  | 0, _ => by simp
  | len + 1, h => by
    obtain ⟨h1, h2⟩ := rs_range hb len fun i hi => h i (by omega)
    obtain ⟨h3, h4⟩ := h len (by omega)
    rw [List.range_succ, List.flatMap_append]
    have e : [len].flatMap C = C len := by simp
    rw [e]
    refine ⟨by rw [List.length_append, h1, h3]; omega, fun j u hj => ?_⟩
    by_cases hlt : j < len * 5
    · rw [List.getElem?_append_left (by omega)] at hj
      exact h2 j u hj
    · rw [List.getElem?_append_right (by omega), h1] at hj
      obtain ⟨hr, -⟩ := List.getElem?_eq_some_iff.1 hj
      have := h4 (j - len * 5) (by omega)
      rw [hj] at this
      rw [← this]
      congr 2
      omega
/-- A slice of strings that came in, in cells. -/
theorem open_keys {P : Program} {t e : TypeId} {fuel : Nat} {cs : List Value} {x : DataW H × List MemPlace} (ht : P.underlying t = some (.slice e)) (he : P.underlying e = some .string) (hc : P.cellsOf e = 1) (hby : 1 ≤ P.bytesOf e)
    (h : DataW.trod enc P w 0 (fun _ => true) true fuel t cs = some x) (hs : Slim P t x.1) :
    ∃ (A : Option Addr) (a : Nat) (ks : List ByteArray), cs = [.slice A ks.length a] ∧ (A = none → a = 0) ∧ (ks.length ≤ a ∧ a ≤ maxLen) ∧ Rs w (· < w.heap.size) A (kv ks) ∧ (∀ k ∈ ks, k.size ≤ 140737488355328) ∧ ks.length ≤ 140737488355328 := by
  rcases open_strings ht he hc h with ⟨rfl, rfl⟩ | ⟨a, len, cap, ss, rfl, -, hl, hm, hsl, rfl, hcell, -⟩
  · exact ⟨none, 0, [], rfl, fun _ => rfl, ⟨Nat.le_refl _, Nat.zero_le _⟩, Rs.nil _ _ _, by simp, Nat.zero_le _⟩
  · simp only [if_true] at hsl
    have htl : (ss.take len).length = len := by rw [List.length_take]; omega
    have hw := hs
    unfold Slim at hw
    simp only [DataW.weights, ht] at hw
    have hn := hw _ List.mem_cons_self
    refine ⟨some a, cap, ss.take len, by rw [htl], (fun h => by cases h), ⟨by omega, hm⟩, ?_, ?_, ?_⟩
    · intro j u hj
      have hjl : j < len := by
        rcases Nat.lt_or_ge j len with h1 | h1
        · exact h1
        · rw [List.getElem?_eq_none (by rw [kv_length]; omega)] at hj; cases hj
      have hcj := hcell j (by omega)
      have hc0 := hcell 0 (by omega)
      obtain ⟨b, o, sp⟩ := a
      have hsp : sp = none := by simpa [Addr.add] using World.cell?_spot hc0
      subst hsp
      rw [add_off] at hcj
      refine ⟨b, o, rfl, World.block_lt_of_cell? w _ hcj, ?_⟩
      rw [hcj]
      have hjz : j < ss.length := by omega
      simp only [kv, List.getElem?_map, List.getElem?_take, hjl, if_true] at hj
      rw [List.getElem?_eq_getElem hjz] at hj
      injection hj with hj
      subst hj
      simp [List.getD, List.getElem?_eq_getElem hjz]
    · intro k hk
      have := hw k.data.toList.length (List.mem_cons_of_mem _ (List.mem_append_left _ (weightsAll_mem (d := .lit (.string k.data.toList)) (by simp only [strs, List.mem_map]; exact ⟨k, hk, rfl⟩) _ (by simp [DataW.weights]))))
      simpa using this
    · rw [htl]
      have h0 : (strs (H := H) (ss.take len)).length + (strs (H := H) (ss.drop len)).length = ss.length := by simp [strs]; omega
      rw [h0] at hn
      have := Nat.mul_le_mul_left ss.length hby
      omega
end
end Go.Proofs.YtgdnkankleoaoaaGreatDoor
namespace Go.Proofs.YtgdnkankleoaoaaGreatDoor
open Go.ChangeShapes Go.WideShapes Go.ChangeAt Go.RowKit
section
variable {H : Type} {enc : TypeId × Value → H} {w : World}
theorem struct_value : ∃ f0 f1 f2 f3 f4 : Field, Tryz.prog.underlying 25 = some (.struct #[f0, f1, f2, f3, f4]) ∧ (f0.type = 3 ∧ f0.offset = 0) ∧ (f1.type = 2 ∧ f1.offset = 1) ∧ (f2.type = 9 ∧ f2.offset = 2) ∧ (f3.type = 22 ∧ f3.offset = 3) ∧ (f4.type = 23 ∧ f4.offset = 4) :=
  ⟨_, _, _, _, _, Tryz.underlying25, ⟨rfl, rfl⟩, ⟨rfl, rfl⟩, ⟨rfl, rfl⟩, ⟨rfl, rfl⟩, ⟨rfl, rfl⟩⟩
theorem cells_facts : Tryz.prog.cellsOf 3 = 1 ∧ Tryz.prog.cellsOf 2 = 1 ∧ Tryz.prog.cellsOf 9 = 1 ∧ Tryz.prog.cellsOf 22 = 1 ∧ Tryz.prog.cellsOf 23 = 1 ∧ Tryz.prog.cellsOf 25 = 5 :=
  ⟨by kernel_rfl, by kernel_rfl, by kernel_rfl, by kernel_rfl, by kernel_rfl, by kernel_rfl⟩
theorem bytes_facts : Tryz.prog.bytesOf 9 = 16 ∧ Tryz.prog.bytesOf 25 = 80 := ⟨by kernel_rfl, by kernel_rfl⟩
/-- A slice of values that came in, where each value is known to read as a tree. -/
theorem open_elems {n0 : Nat} (ih : ∀ n, n < n0 → ∀ (cs : List Value) (x : DataW H × List MemPlace), DataW.trod enc Tryz.prog w 0 (fun _ => true) true n 25 cs = some x → Slim Tryz.prog 25 x.1 → ∃ v, Lies w (· < w.heap.size) v cs)
    {cs : List Value} {x : DataW H × List MemPlace} (h : DataW.trod enc Tryz.prog w 0 (fun _ => true) true n0 23 cs = some x) (hs : Slim Tryz.prog 23 x.1) :
    ∃ (B : Option Addr) (b : Nat) (es : List V) (xs : List Value), cs = [.slice B es.length b] ∧ (B = none → b = 0) ∧ (es.length ≤ b ∧ b ≤ maxLen) ∧ Rs w (· < w.heap.size) B xs ∧ LiesL w (· < w.heap.size) es xs ∧ es.length ≤ 140737488355328 := by
  rcases DataW.trod_slice Tryz.underlying23 h with ⟨rfl, rfl⟩ | ⟨a, len, cap, elems, rest, n, rfl, rfl, rfl, -, hl, hm, hlen, hel, hsp, -⟩
  · exact ⟨none, 0, [], [], rfl, fun _ => rfl, ⟨Nat.le_refl _, Nat.zero_le _⟩, Rs.nil _ _ _, by rw [LiesL], Nat.zero_le _⟩
  · have hw := hs
    unfold Slim at hw
    simp only [DataW.weights, Tryz.underlying23] at hw
    have hn := hw _ List.mem_cons_self
    rw [bytes_facts.2] at hn
    simp only [List.length_map] at hn
    have hlenb : len ≤ 140737488355328 := by omega
    have hone : ∀ i, i < len → ∃ (v : V) (c : List Value), Lies w (· < w.heap.size) v c ∧ c.length = 5 ∧ ∀ r, r < 5 → w.cell? ((a.add (i * 5)).add r) = c[r]? := by
      intro i hi
      obtain ⟨y, hy⟩ : ∃ y, elems[i]? = some y := ⟨_, List.getElem?_eq_getElem (by omega)⟩
      have h1 := hel i hi
      rw [hy, cells_facts.2.2.2.2.2] at h1
      obtain ⟨c, hc, ht⟩ := Option.bind_eq_some_iff.1 h1
      obtain ⟨v, hv⟩ := ih n (by omega) c y ht (fun q hq => hw q (List.mem_cons_of_mem _ (List.mem_append_left _ (weightsAll_mem (d := y.1) (List.mem_map.2 ⟨y, List.mem_of_getElem? hy, rfl⟩) q hq))))
      obtain ⟨-, h5, hcell⟩ := World.cells?_some hc
      exact ⟨v, c, hv, h5, hcell⟩
    by_cases hz : len = 0
    · subst hz
      exact ⟨some a, cap, [], [], rfl, (fun h => by cases h), ⟨hl, hm⟩, Rs.nil _ _ _, by rw [LiesL], Nat.zero_le _⟩
    · obtain ⟨b, o, sp⟩ := a
      have hsp : sp = none ∧ b < w.heap.size := by
        obtain ⟨v, c, -, h5, hc⟩ := hone 0 (by omega)
        have h0 := hc 0 (by omega)
        rw [List.getElem?_eq_getElem (by omega)] at h0
        exact ⟨by simpa [Addr.add] using World.cell?_spot h0, by have := World.block_lt_of_cell? w _ h0; simpa [Addr.add] using this⟩
      obtain ⟨rfl, hblt⟩ := hsp
      have hex : ∀ i : Nat, ∃ p : V × List Value, i < len → Lies w (· < w.heap.size) p.1 p.2 ∧ p.2.length = 5 ∧ ∀ r, r < 5 → w.cell? ⟨b, o + i * 5 + r, none⟩ = p.2[r]? := by
        intro i
        by_cases hi : i < len
        · obtain ⟨v, c, h1, h2, h3⟩ := hone i hi
          refine ⟨(v, c), fun _ => ⟨h1, h2, fun r hr => ?_⟩⟩
          have := h3 r hr
          rw [add_off, add_off] at this
          exact this
        · exact ⟨(.mk 0 0 ⟨#[]⟩ [] [], []), fun h => absurd h hi⟩
      obtain ⟨f, hf⟩ := Classical.axiomOfChoice hex
      have hr := rs_range (w := w) (S := fun _ => True) (b := b) (o := o) (C := fun i => (f i).2) (fun _ => .inl trivial) len (fun i hi => ⟨(hf i hi).2.1, (hf i hi).2.2⟩)
      refine ⟨some ⟨b, o, none⟩, cap, (List.range len).map fun i => (f i).1, (List.range len).flatMap fun i => (f i).2, by simp, (fun h => by cases h), ⟨by simpa using hl, hm⟩, ?_, liesL_range len (fun i hi => (hf i hi).1), by simpa using hlenb⟩
      exact fun j u hj => ⟨b, o, rfl, hblt, hr.2 j u hj⟩
set_option maxRecDepth 100000 in
/-- An api.Value that came in. -/
theorem open_value_at : ∀ m n0 : Nat, n0 ≤ m → ∀ (cs : List Value) (x : DataW H × List MemPlace), DataW.trod enc Tryz.prog w 0 (fun _ => true) true n0 25 cs = some x → Slim Tryz.prog 25 x.1 → ∃ v, Lies w (· < w.heap.size) v cs := by
  intro m
  induction m with
  | zero =>
    intro n0 h0 cs x h _
    obtain rfl : n0 = 0 := by omega
    simp [DataW.trod] at h
  | succ m ihm =>
    intro n0 h0 cs x h hs
    obtain ⟨f0, f1, f2, f3, f4, hU, ⟨t0, o0⟩, ⟨t1, o1⟩, ⟨t2, o2⟩, ⟨t3, o3⟩, ⟨t4, o4⟩⟩ := struct_value
    obtain ⟨c0, c1, c2, c3, c4, c5⟩ := cells_facts
    obtain ⟨xs, n, rfl, rfl, hl, hlen, hf⟩ := DataW.trod_struct hU h
    rw [c5] at hl
    match cs, hl, xs, hlen with
    | [a0, a1, a2, a3, a4], _, [y0, y1, y2, y3, y4], _ =>
      have g0 := hf 0 f0 rfl
      have g1 := hf 1 f1 rfl
      have g2 := hf 2 f2 rfl
      have g3 := hf 3 f3 rfl
      have g4 := hf 4 f4 rfl
      rw [t0, o0, c0] at g0
      rw [t1, o1, c1] at g1
      rw [t2, o2, c2] at g2
      rw [t3, o3, c3] at g3
      rw [t4, o4, c4] at g4
      simp only [List.drop_zero, List.drop_succ_cons, List.take_succ_cons, List.take_zero, List.getElem?_cons_zero, List.getElem?_cons_succ] at g0 g1 g2 g3 g4
      have hsl : ∀ (j : Nat) (t : TypeId) (d : DataW H), [f0.type, f1.type, f2.type, f3.type, f4.type][j]? = some t → [y0.1, y1.1, y2.1, y3.1, y4.1][j]? = some d → Slim Tryz.prog t d := by
        intro j t d ht hd q hq
        refine hs q ?_
        have e : (DataW.agg [y0.1, y1.1, y2.1, y3.1, y4.1]).weights Tryz.prog 25 = DataW.weightsEach Tryz.prog [f0.type, f1.type, f2.type, f3.type, f4.type] [y0.1, y1.1, y2.1, y3.1, y4.1] := by
          simp only [DataW.weights, hU]
          rfl
        show q ∈ (DataW.agg [y0.1, y1.1, y2.1, y3.1, y4.1]).weights Tryz.prog 25
        rw [e]
        exact DataW.weights_mem_each ht hd q hq
      obtain ⟨k, e0, -, -⟩ := DataW.trod_int Tryz.underlying3 g0
      obtain ⟨z, e1, -, -⟩ := DataW.trod_int Tryz.underlying2 g1
      obtain ⟨s, e2, ed2, -⟩ := DataW.trod_string Tryz.underlying9 g2
      obtain ⟨A, a, ks, e3, ha0, hka, hRA, hks, hkl⟩ := open_keys Tryz.underlying22 Tryz.underlying9 c2 (by rw [bytes_facts.1]; omega) g3 (hsl 3 22 y3.1 (by rw [← t3]; rfl) rfl)
      obtain ⟨B, b, es, ys, e4, hb0, heb, hRB, hL, hel⟩ := open_elems (fun n' hn' => ihm n' (by omega)) g4 (hsl 4 23 y4.1 (by rw [← t4]; rfl) rfl)
      have hss : s.size ≤ 140737488355328 := by
        have := hsl 2 9 y2.1 (by rw [← t2]; rfl) rfl s.data.toList.length (by rw [ed2]; simp [DataW.weights])
        simpa using this
      simp only [List.cons.injEq, and_true] at e0 e1 e2 e3 e4
      subst e0 e1 e2 e3 e4
      exact ⟨.mk k z s ks es, by rw [Lies]; exact ⟨⟨hss, hks, hkl, hel⟩, A, a, B, b, ys, rfl, ha0, hb0, hka, heb, hRA, hRB, hL⟩⟩
theorem open_value {v : Value} {d : DataW H} {ps : List MemPlace} (h : DataW.Trod enc Tryz.prog w 0 (fun _ => true) true 25 v d ps) (hs : Slim Tryz.prog 25 d) : ∃ u, Lies w (· < w.heap.size) u v.cells.toList := by
  obtain ⟨fuel, hf⟩ := h
  exact open_value_at fuel fuel (Nat.le_refl _) _ _ hf hs
end
end Go.Proofs.YtgdnkankleoaoaaGreatDoor
namespace Go.Proofs.YtgdnkankleoaoaaGreatDoor
open Go.ChangeShapes Go.WideShapes Go.ChangeAt Go.RowKit Go.ChangeMaps
section
variable {H : Type} {enc : TypeId × Value → H} {w : World}
theorem slim_of {P : Program} {ts : List TypeId} {ds : List (DataW H)} (h : (DataW.weightsEach P ts ds).all (· ≤ reachBytes) = true) {j : Nat} {t : TypeId} {d : DataW H} (ht : ts[j]? = some t) (hd : ds[j]? = some d) : Slim P t d := by
  intro n hn
  have := List.all_eq_true.1 h _ (DataW.weights_mem_each ht hd n hn)
  have h2 := reachBytes_lt
  simp only [decide_eq_true_eq] at this
  omega
set_option maxRecDepth 100000 in
/-- A value that came in, its cells written out. -/
theorem open_value_arg {r : Reach} {b0 : Nat} {v : Value} {d : DataW H} {ps : List MemPlace} (hval : Value.okWide Tryz.prog w r b0 25 v) (h : DataW.Trod enc Tryz.prog w 0 (fun _ => true) true 25 v d ps) (hs : Slim Tryz.prog 25 d) :
    ∃ (u : V) (cs : List Value), v = .agg cs.toArray ∧ Lies w (· < w.heap.size) u cs := by
  obtain ⟨f0, f1, f2, f3, f4, hU, -⟩ := struct_value
  obtain ⟨cs, rfl, -⟩ := okWide_struct hU hval
  obtain ⟨u, hu⟩ := open_value h hs
  exact ⟨u, cs.toList, by simp, by simpa [Value.cells] using hu⟩
end
end Go.Proofs.YtgdnkankleoaoaaGreatDoor
namespace Go.Proofs.YtgdnkankleoaoaaGreatDoor
open Go.RowKit Go.Sort
theorem rs_boxM {w : World} {g : Nat} {t : TypeId} {cs : List Value} {S : Nat → Prop} (h : Box w g t cs.toArray) (hg : S g) : Rs w S (some ⟨g, 0, none⟩) cs := fun j u hj => ⟨g, 0, rfl, hg, by rw [Nat.zero_add]; exact h.cell (by simpa using hj)⟩
theorem two_rowM {w : World} {v u : V} {cs ds : List Value} {g : Nat} (h : Lies w (· < w.heap.size) v cs) (k : Lies w (· < w.heap.size) u ds) (hg : Box w g 25 (cs ++ ds).toArray) : Row w (some ⟨g, 0, none⟩) [v, u] (cs ++ ds) := by
  refine ⟨rs_boxM hg hg.lt, ?_⟩
  rw [LiesL]
  refine ⟨cs, ds, rfl, h, ?_⟩
  rw [LiesL]
  exact ⟨ds, [], by simp, k, by rw [LiesL]⟩
/-- An element of a value in a box, its cells named. -/
theorem vx_elem {w : World} {g : Nat} {k n : Int} {s : ByteArray} {ks : List ByteArray} {es : List V} {A C : Option Addr} {a c : Nat} (h : Vx w g (.mk k n s ks es) [.int .i64 k, .int .i64 n, .string s, .slice A ks.length a, .slice C es.length c]) {i : Nat} {e : V} (hi : es[i]? = some e) :
    ∃ (b o : Nat) (v0 v1 v2 v3 v4 : Value), C = some ⟨b, o, none⟩ ∧ b < w.heap.size ∧ Lies w (· < w.heap.size) e [v0, v1, v2, v3, v4] ∧ w.cell? ⟨b, o + i * 5, none⟩ = some v0 ∧ w.cell? ⟨b, o + i * 5 + 1, none⟩ = some v1 ∧
      w.cell? ⟨b, o + i * 5 + 2, none⟩ = some v2 ∧ w.cell? ⟨b, o + i * 5 + 3, none⟩ = some v3 ∧ w.cell? ⟨b, o + i * 5 + 4, none⟩ = some v4 := by
  obtain ⟨A', a', B', b', xs, he, _, _, _, _, hA, hB, hL⟩ := lies_open h.lies
  injection he with _ he
  injection he with _ he
  injection he with _ he
  injection he with _ he
  injection he with he _
  injection he with h1 h2 h3
  subst h1
  exact elem_cells hB hL hi
end Go.Proofs.YtgdnkankleoaoaaGreatDoor
namespace Go.Proofs.YtgdnkankleoaoaaGreatDoor
open Go.RowKit
def shortP (m : Int) (ks : List ByteArray) : Bool := ks.all fun k => decide ((k.size : Int) ≤ m)
theorem shortP_mem {m : Int} {ks : List ByteArray} (h : shortP m ks = true) : ∀ k ∈ ks, (k.size : Int) ≤ m := by
  intro k hk
  unfold shortP at h
  exact of_decide_eq_true (List.all_eq_true.1 h k hk)
set_option maxHeartbeats 1000000 in
theorem short_any (m : Int) (A : Option Addr) (a : Nat) (ks : List ByteArray) (S : Nat → Prop) (w : World) (hA : Rs w S A (kv ks)) (hk : ks.length ≤ maxLen) (hs : ∀ k ∈ ks, k.size ≤ 140737488355328) (h0 : 0 ≤ m) (h1 : m ≤ 1000000) :
    Calls Tryz.prog 17 #[.int .i64 m, .slice A ks.length a] w fun e w' => e = .returned (.bool (shortP m ks)) ∧ Below w.heap.size w w' := by
  unfold maxLen at hk
  have HA := Lib.hid hA
  have HS := Lib.hid hs
  clear hA hs
  go_enter Tryz.func17, Tryz.ntmps17
  go_wp2_with fail
  go_loopw [5] (fun t wr => ∃ i : Nat, i ≤ ks.length ∧ t = .int .i64 i ∧ shortP m ks = shortP m (ks.drop i) ∧ Below w.heap.size w wr ∧ wr.heap = w.heap) (fun t _ => ks.length - (intOf t).toNat)
  case atStart => exact ⟨0, Nat.zero_le _, rfl, rfl, Below.refl _ _, rfl⟩
  case round =>
    obtain ⟨i, hi, rfl, he0, hbel, hheap⟩ := hrel
    have HE := Lib.hid he0
    have HB := Lib.hid hbel
    have HH := Lib.hid hheap
    clear he0 hbel hheap
    by_cases hlt : i < ks.length
    · obtain ⟨x, hx⟩ : ∃ x, ks[i]? = some x := ⟨_, List.getElem?_eq_getElem hlt⟩
      obtain ⟨b0, o0, hAe, hb0, hc0⟩ := HA.out.at_ (kv_at hx)
      have hc1 : wr.cell? ⟨b0, o0 + i, none⟩ = some (.string x) := (World.cell?_of_block (by rw [HH.out])).trans hc0
      have hxs := HS.out x (List.mem_of_getElem? hx)
      have hst : Hid (shortP m ks = (decide ((x.size : Int) ≤ m) && shortP m (ks.drop (i + 1)))) := Lib.hid (by
        obtain ⟨h1, rfl⟩ := List.getElem?_eq_some_iff.1 hx
        rw [HE.out, List.drop_eq_getElem_cons h1]
        rfl)
      subst hAe
      clear hc0 hx
      by_cases hxm : (x.size : Int) ≤ m
      · have hst2 : Hid (shortP m ks = shortP m (ks.drop (i + 1))) := Lib.hid (by rw [hst.out, decide_eq_true hxm, Bool.true_and])
        have hx2 : ¬ m < (x.size : Int) := by omega
        clear hst
        go_wp2_with fail
        go_roundw
        case rel => exact ⟨i + 1, by omega, by go_num, hst2.out, by first | exact HB.out | exact HB.out.drew, by first | exact HH.out | rfl⟩
        case measure => simp [intOf]; omega
      · have hst2 : Hid (shortP m ks = false) := Lib.hid (by rw [hst.out, decide_eq_false hxm, Bool.false_and])
        have hx2 : m < (x.size : Int) := by omega
        clear hst
        go_wp2_with fail
        go_ret
        exact ⟨ret_bool hst2.out.symm, HB.out⟩
    · have hend : Hid (shortP m ks = true) := Lib.hid (by rw [HE.out, List.drop_eq_nil_of_le (by omega)]; rfl)
      go_wp2_with fail
      go_ret
      exact ⟨ret_bool hend.out.symm, HB.out⟩
end Go.Proofs.YtgdnkankleoaoaaGreatDoor
