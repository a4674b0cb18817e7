/- An api.Value that came in reads as a tree. -/
import Derived.Test.YtjafmdngbphacaaGreatDoorC41
set_option linter.unusedVariables false
set_option linter.unusedSimpArgs false
namespace Go.Proofs.YtjafmdngbphacaaGreatDoor
open Go.ChangeShapes Go.WideShapes Go.ChangeAt Go.RowKit
section
variable {H : Type} {enc : TypeId × Value → H} {w : World}
theorem struct_value : ∃ f0 f1 f2 f3 f4 : Field, Tryz.prog.underlying 25 = some (.struct #[f0, f1, f2, f3, f4]) ∧ (f0.type = 3 ∧ f0.offset = 0) ∧ (f1.type = 2 ∧ f1.offset = 1) ∧ (f2.type = 9 ∧ f2.offset = 2) ∧ (f3.type = 22 ∧ f3.offset = 3) ∧ (f4.type = 23 ∧ f4.offset = 4) :=
  ⟨_, _, _, _, _, Tryz.underlying25, ⟨rfl, rfl⟩, ⟨rfl, rfl⟩, ⟨rfl, rfl⟩, ⟨rfl, rfl⟩, ⟨rfl, rfl⟩⟩
theorem cells_facts : Tryz.prog.cellsOf 3 = 1 ∧ Tryz.prog.cellsOf 2 = 1 ∧ Tryz.prog.cellsOf 9 = 1 ∧ Tryz.prog.cellsOf 22 = 1 ∧ Tryz.prog.cellsOf 23 = 1 ∧ Tryz.prog.cellsOf 25 = 5 :=
  ⟨by kernel_rfl, by kernel_rfl, by kernel_rfl, by kernel_rfl, by kernel_rfl, by kernel_rfl⟩
theorem bytes_facts : Tryz.prog.bytesOf 9 = 16 ∧ Tryz.prog.bytesOf 25 = 80 := ⟨by kernel_rfl, by kernel_rfl⟩
/-- A slice of values that came in, where each value is known to read as a tree. -/
theorem open_elems {n0 : Nat} (ih : ∀ n, n < n0 → ∀ (cs : List Value) (x : DataW H × List MemPlace), DataW.trod enc Tryz.prog w 0 (fun _ => true) true n 25 cs = some x → Slim Tryz.prog 25 x.1 → ∃ v, Lies w (· < w.heap.size) v cs)
    {cs : List Value} {x : DataW H × List MemPlace} (h : DataW.trod enc Tryz.prog w 0 (fun _ => true) true n0 23 cs = some x) (hs : Slim Tryz.prog 23 x.1) :
    ∃ (B : Option Addr) (b : Nat) (es : List V) (xs : List Value), cs = [.slice B es.length b] ∧ (B = none → b = 0) ∧ (es.length ≤ b ∧ b ≤ maxLen) ∧ Rs w (· < w.heap.size) B xs ∧ LiesL w (· < w.heap.size) es xs ∧ es.length ≤ 140737488355328 := by
  rcases DataW.trod_slice Tryz.underlying23 h with ⟨rfl, rfl⟩ | ⟨a, len, cap, elems, rest, n, rfl, rfl, rfl, -, hl, hm, hlen, hel, hsp, -⟩
  · exact ⟨none, 0, [], [], rfl, fun _ => rfl, ⟨Nat.le_refl _, Nat.zero_le _⟩, Rs.nil _ _ _, by rw [LiesL], Nat.zero_le _⟩
  · have hw := hs
    unfold Slim at hw
    simp only [DataW.weights, Tryz.underlying23] at hw
    have hn := hw _ List.mem_cons_self
    rw [bytes_facts.2] at hn
    simp only [List.length_map] at hn
    have hlenb : len ≤ 140737488355328 := by omega
    have hone : ∀ i, i < len → ∃ (v : V) (c : List Value), Lies w (· < w.heap.size) v c ∧ c.length = 5 ∧ ∀ r, r < 5 → w.cell? ((a.add (i * 5)).add r) = c[r]? := by
      intro i hi
      obtain ⟨y, hy⟩ : ∃ y, elems[i]? = some y := ⟨_, List.getElem?_eq_getElem (by omega)⟩
      have h1 := hel i hi
      rw [hy, cells_facts.2.2.2.2.2] at h1
      obtain ⟨c, hc, ht⟩ := Option.bind_eq_some_iff.1 h1
      obtain ⟨v, hv⟩ := ih n (by omega) c y ht (fun q hq => hw q (List.mem_cons_of_mem _ (List.mem_append_left _ (weightsAll_mem (d := y.1) (List.mem_map.2 ⟨y, List.mem_of_getElem? hy, rfl⟩) q hq))))
      obtain ⟨-, h5, hcell⟩ := World.cells?_some hc
      exact ⟨v, c, hv, h5, hcell⟩
    by_cases hz : len = 0
    · subst hz
      exact ⟨some a, cap, [], [], rfl, (fun h => by cases h), ⟨hl, hm⟩, Rs.nil _ _ _, by rw [LiesL], Nat.zero_le _⟩
    · obtain ⟨b, o, sp⟩ := a
      have hsp : sp = none ∧ b < w.heap.size := by
        obtain ⟨v, c, -, h5, hc⟩ := hone 0 (by omega)
        have h0 := hc 0 (by omega)
        rw [List.getElem?_eq_getElem (by omega)] at h0
        exact ⟨by simpa [Addr.add] using World.cell?_spot h0, by have := World.block_lt_of_cell? w _ h0; simpa [Addr.add] using this⟩
      obtain ⟨rfl, hblt⟩ := hsp
      have hex : ∀ i : Nat, ∃ p : V × List Value, i < len → Lies w (· < w.heap.size) p.1 p.2 ∧ p.2.length = 5 ∧ ∀ r, r < 5 → w.cell? ⟨b, o + i * 5 + r, none⟩ = p.2[r]? := by
        intro i
        by_cases hi : i < len
        · obtain ⟨v, c, h1, h2, h3⟩ := hone i hi
          refine ⟨(v, c), fun _ => ⟨h1, h2, fun r hr => ?_⟩⟩
          have := h3 r hr
          rw [add_off, add_off] at this
          exact this
        · exact ⟨(.mk 0 0 ⟨#[]⟩ [] [], []), fun h => absurd h hi⟩
      obtain ⟨f, hf⟩ := Classical.axiomOfChoice hex
      have hr := rs_range (w := w) (S := fun _ => True) (b := b) (o := o) (C := fun i => (f i).2) (fun _ => .inl trivial) len (fun i hi => ⟨(hf i hi).2.1, (hf i hi).2.2⟩)
      refine ⟨some ⟨b, o, none⟩, cap, (List.range len).map fun i => (f i).1, (List.range len).flatMap fun i => (f i).2, by simp, (fun h => by cases h), ⟨by simpa using hl, hm⟩, ?_, liesL_range len (fun i hi => (hf i hi).1), by simpa using hlenb⟩
      exact fun j u hj => ⟨b, o, rfl, hblt, hr.2 j u hj⟩
set_option maxRecDepth 100000 in
/-- An api.Value that came in. -/
theorem open_value_at : ∀ m n0 : Nat, n0 ≤ m → ∀ (cs : List Value) (x : DataW H × List MemPlace), DataW.trod enc Tryz.prog w 0 (fun _ => true) true n0 25 cs = some x → Slim Tryz.prog 25 x.1 → ∃ v, Lies w (· < w.heap.size) v cs := by
  intro m
  induction m with
  | zero =>
    intro n0 h0 cs x h _
    obtain rfl : n0 = 0 := by omega
    simp [DataW.trod] at h
  | succ m ihm =>
    intro n0 h0 cs x h hs
    obtain ⟨f0, f1, f2, f3, f4, hU, ⟨t0, o0⟩, ⟨t1, o1⟩, ⟨t2, o2⟩, ⟨t3, o3⟩, ⟨t4, o4⟩⟩ := struct_value
    obtain ⟨c0, c1, c2, c3, c4, c5⟩ := cells_facts
    obtain ⟨xs, n, rfl, rfl, hl, hlen, hf⟩ := DataW.trod_struct hU h
    rw [c5] at hl
    match cs, hl, xs, hlen with
    | [a0, a1, a2, a3, a4], _, [y0, y1, y2, y3, y4], _ =>
      have g0 := hf 0 f0 rfl
      have g1 := hf 1 f1 rfl
      have g2 := hf 2 f2 rfl
      have g3 := hf 3 f3 rfl
      have g4 := hf 4 f4 rfl
      rw [t0, o0, c0] at g0
      rw [t1, o1, c1] at g1
      rw [t2, o2, c2] at g2
      rw [t3, o3, c3] at g3
      rw [t4, o4, c4] at g4
      simp only [List.drop_zero, List.drop_succ_cons, List.take_succ_cons, List.take_zero, List.getElem?_cons_zero, List.getElem?_cons_succ] at g0 g1 g2 g3 g4
      have hsl : ∀ (j : Nat) (t : TypeId) (d : DataW H), [f0.type, f1.type, f2.type, f3.type, f4.type][j]? = some t → [y0.1, y1.1, y2.1, y3.1, y4.1][j]? = some d → Slim Tryz.prog t d := by
        intro j t d ht hd q hq
        refine hs q ?_
        have e : (DataW.agg [y0.1, y1.1, y2.1, y3.1, y4.1]).weights Tryz.prog 25 = DataW.weightsEach Tryz.prog [f0.type, f1.type, f2.type, f3.type, f4.type] [y0.1, y1.1, y2.1, y3.1, y4.1] := by
          simp only [DataW.weights, hU]
          rfl
        show q ∈ (DataW.agg [y0.1, y1.1, y2.1, y3.1, y4.1]).weights Tryz.prog 25
        rw [e]
        exact DataW.weights_mem_each ht hd q hq
      obtain ⟨k, e0, -, -⟩ := DataW.trod_int Tryz.underlying3 g0
      obtain ⟨z, e1, -, -⟩ := DataW.trod_int Tryz.underlying2 g1
      obtain ⟨s, e2, ed2, -⟩ := DataW.trod_string Tryz.underlying9 g2
      obtain ⟨A, a, ks, e3, ha0, hka, hRA, hks, hkl⟩ := open_keys Tryz.underlying22 Tryz.underlying9 c2 (by rw [bytes_facts.1]; omega) g3 (hsl 3 22 y3.1 (by rw [← t3]; rfl) rfl)
      obtain ⟨B, b, es, ys, e4, hb0, heb, hRB, hL, hel⟩ := open_elems (fun n' hn' => ihm n' (by omega)) g4 (hsl 4 23 y4.1 (by rw [← t4]; rfl) rfl)
      have hss : s.size ≤ 140737488355328 := by
        have := hsl 2 9 y2.1 (by rw [← t2]; rfl) rfl s.data.toList.length (by rw [ed2]; simp [DataW.weights])
        simpa using this
      simp only [List.cons.injEq, and_true] at e0 e1 e2 e3 e4
      subst e0 e1 e2 e3 e4
      exact ⟨.mk k z s ks es, by rw [Lies]; exact ⟨⟨hss, hks, hkl, hel⟩, A, a, B, b, ys, rfl, ha0, hb0, hka, heb, hRA, hRB, hL⟩⟩
theorem open_value {v : Value} {d : DataW H} {ps : List MemPlace} (h : DataW.Trod enc Tryz.prog w 0 (fun _ => true) true 25 v d ps) (hs : Slim Tryz.prog 25 d) : ∃ u, Lies w (· < w.heap.size) u v.cells.toList := by
  obtain ⟨fuel, hf⟩ := h
  exact open_value_at fuel fuel (Nat.le_refl _) _ _ hf hs
end
end Go.Proofs.YtjafmdngbphacaaGreatDoor
