/- An api.Value that came in reads as a tree. A value that came in as an argument. The wrap of a law whose row lists variables, the world's shape kept. Nothing of the program is named here. arith.stringArray. -/
import Derived.Test.YtjafmdngbphacaaGreatDoorM50
import Derived.SizedLaws
import Derived.Handed
import Derived.HandedShaped
import Derived.Test.YtjafmdngbphacaaGreatDoorM38
import Derived.Laws.MakeOwn
set_option linter.unusedVariables false
set_option linter.unusedSimpArgs false
namespace Go.Proofs.YtjafmdngbphacaaGreatDoor
open Go.ChangeShapes Go.WideShapes Go.ChangeAt Go.RowKit
section
variable {H : Type} {enc : TypeId × Value → H} {w : World}
theorem struct_value : ∃ f0 f1 f2 f3 f4 : Field, Tryz.prog.underlying 25 = some (.struct #[f0, f1, f2, f3, f4]) ∧ (f0.type = 3 ∧ f0.offset = 0) ∧ (f1.type = 2 ∧ f1.offset = 1) ∧ (f2.type = 9 ∧ f2.offset = 2) ∧ (f3.type = 22 ∧ f3.offset = 3) ∧ (f4.type = 23 ∧ f4.offset = 4) :=
  ⟨_, _, _, _, _, Tryz.underlying25, ⟨rfl, rfl⟩, ⟨rfl, rfl⟩, ⟨rfl, rfl⟩, ⟨rfl, rfl⟩, ⟨rfl, rfl⟩⟩
theorem cells_facts : Tryz.prog.cellsOf 3 = 1 ∧ Tryz.prog.cellsOf 2 = 1 ∧ Tryz.prog.cellsOf 9 = 1 ∧ Tryz.prog.cellsOf 22 = 1 ∧ Tryz.prog.cellsOf 23 = 1 ∧ Tryz.prog.cellsOf 25 = 5 :=
  ⟨by kernel_rfl, by kernel_rfl, by kernel_rfl, by kernel_rfl, by kernel_rfl, by kernel_rfl⟩
theorem bytes_facts : Tryz.prog.bytesOf 9 = 16 ∧ Tryz.prog.bytesOf 25 = 80 := ⟨by kernel_rfl, by kernel_rfl⟩
/-- A slice of values that came in, where each value is known to read as a tree. -/
theorem open_elems {n0 : Nat} (ih : ∀ n, n < n0 → ∀ (cs : List Value) (x : DataW H × List MemPlace), DataW.trod enc Tryz.prog w 0 (fun _ => true) true n 25 cs = some x → Slim Tryz.prog 25 x.1 → ∃ v, Lies w (· < w.heap.size) v cs)
    {cs : List Value} {x : DataW H × List MemPlace} (h : DataW.trod enc Tryz.prog w 0 (fun _ => true) true n0 23 cs = some x) (hs : Slim Tryz.prog 23 x.1) :
    ∃ (B : Option Addr) (b : Nat) (es : List V) (xs : List Value), cs = [.slice B es.length b] ∧ (B = none → b = 0) ∧ (es.length ≤ b ∧ b ≤ maxLen) ∧ Rs w (· < w.heap.size) B xs ∧ LiesL w (· < w.heap.size) es xs ∧ es.length ≤ 140737488355328 := by
  rcases DataW.trod_slice Tryz.underlying23 h with ⟨rfl, rfl⟩ | ⟨a, len, cap, elems, rest, n, rfl, rfl, rfl, -, hl, hm, hlen, hel, hsp, -⟩
  · exact ⟨none, 0, [], [], rfl, fun _ => rfl, ⟨Nat.le_refl _, Nat.zero_le _⟩, Rs.nil _ _ _, by rw [LiesL], Nat.zero_le _⟩
  · have hw := hs
    unfold Slim at hw
    simp only [DataW.weights, Tryz.underlying23] at hw
    have hn := hw _ List.mem_cons_self
    rw [bytes_facts.2] at hn
    simp only [List.length_map] at hn
    have hlenb : len ≤ 140737488355328 := by omega
    have hone : ∀ i, i < len → ∃ (v : V) (c : List Value), Lies w (· < w.heap.size) v c ∧ c.length = 5 ∧ ∀ r, r < 5 → w.cell? ((a.add (i * 5)).add r) = c[r]? := by
      intro i hi
      obtain ⟨y, hy⟩ : ∃ y, elems[i]? = some y := ⟨_, List.getElem?_eq_getElem (by omega)⟩
      have h1 := hel i hi
      rw [hy, cells_facts.2.2.2.2.2] at h1
      obtain ⟨c, hc, ht⟩ := Option.bind_eq_some_iff.1 h1
      obtain ⟨v, hv⟩ := ih n (by omega) c y ht (fun q hq => hw q (List.mem_cons_of_mem _ (List.mem_append_left _ (weightsAll_mem (d := y.1) (List.mem_map.2 ⟨y, List.mem_of_getElem? hy, rfl⟩) q hq))))
      obtain ⟨-, h5, hcell⟩ := World.cells?_some hc
      exact ⟨v, c, hv, h5, hcell⟩
    by_cases hz : len = 0
    · subst hz
      exact ⟨some a, cap, [], [], rfl, (fun h => by cases h), ⟨hl, hm⟩, Rs.nil _ _ _, by rw [LiesL], Nat.zero_le _⟩
    · obtain ⟨b, o, sp⟩ := a
      have hsp : sp = none ∧ b < w.heap.size := by
        obtain ⟨v, c, -, h5, hc⟩ := hone 0 (by omega)
        have h0 := hc 0 (by omega)
        rw [List.getElem?_eq_getElem (by omega)] at h0
        exact ⟨by simpa [Addr.add] using World.cell?_spot h0, by have := World.block_lt_of_cell? w _ h0; simpa [Addr.add] using this⟩
      obtain ⟨rfl, hblt⟩ := hsp
      have hex : ∀ i : Nat, ∃ p : V × List Value, i < len → Lies w (· < w.heap.size) p.1 p.2 ∧ p.2.length = 5 ∧ ∀ r, r < 5 → w.cell? ⟨b, o + i * 5 + r, none⟩ = p.2[r]? := by
        intro i
        by_cases hi : i < len
        · obtain ⟨v, c, h1, h2, h3⟩ := hone i hi
          refine ⟨(v, c), fun _ => ⟨h1, h2, fun r hr => ?_⟩⟩
          have := h3 r hr
          rw [add_off, add_off] at this
          exact this
        · exact ⟨(.mk 0 0 ⟨#[]⟩ [] [], []), fun h => absurd h hi⟩
      obtain ⟨f, hf⟩ := Classical.axiomOfChoice hex
      have hr := rs_range (w := w) (S := fun _ => True) (b := b) (o := o) (C := fun i => (f i).2) (fun _ => .inl trivial) len (fun i hi => ⟨(hf i hi).2.1, (hf i hi).2.2⟩)
      refine ⟨some ⟨b, o, none⟩, cap, (List.range len).map fun i => (f i).1, (List.range len).flatMap fun i => (f i).2, by simp, (fun h => by cases h), ⟨by simpa using hl, hm⟩, ?_, liesL_range len (fun i hi => (hf i hi).1), by simpa using hlenb⟩
      exact fun j u hj => ⟨b, o, rfl, hblt, hr.2 j u hj⟩
set_option maxRecDepth 100000 in
/-- An api.Value that came in. -/
theorem open_value_at : ∀ m n0 : Nat, n0 ≤ m → ∀ (cs : List Value) (x : DataW H × List MemPlace), DataW.trod enc Tryz.prog w 0 (fun _ => true) true n0 25 cs = some x → Slim Tryz.prog 25 x.1 → ∃ v, Lies w (· < w.heap.size) v cs := by
  intro m
  induction m with
  | zero =>
    intro n0 h0 cs x h _
    obtain rfl : n0 = 0 := by omega
    simp [DataW.trod] at h
  | succ m ihm =>
    intro n0 h0 cs x h hs
    obtain ⟨f0, f1, f2, f3, f4, hU, ⟨t0, o0⟩, ⟨t1, o1⟩, ⟨t2, o2⟩, ⟨t3, o3⟩, ⟨t4, o4⟩⟩ := struct_value
    obtain ⟨c0, c1, c2, c3, c4, c5⟩ := cells_facts
    obtain ⟨xs, n, rfl, rfl, hl, hlen, hf⟩ := DataW.trod_struct hU h
    rw [c5] at hl
    match cs, hl, xs, hlen with
    | [a0, a1, a2, a3, a4], _, [y0, y1, y2, y3, y4], _ =>
      have g0 := hf 0 f0 rfl
      have g1 := hf 1 f1 rfl
      have g2 := hf 2 f2 rfl
      have g3 := hf 3 f3 rfl
      have g4 := hf 4 f4 rfl
      rw [t0, o0, c0] at g0
      rw [t1, o1, c1] at g1
      rw [t2, o2, c2] at g2
      rw [t3, o3, c3] at g3
      rw [t4, o4, c4] at g4
      simp only [List.drop_zero, List.drop_succ_cons, List.take_succ_cons, List.take_zero, List.getElem?_cons_zero, List.getElem?_cons_succ] at g0 g1 g2 g3 g4
      have hsl : ∀ (j : Nat) (t : TypeId) (d : DataW H), [f0.type, f1.type, f2.type, f3.type, f4.type][j]? = some t → [y0.1, y1.1, y2.1, y3.1, y4.1][j]? = some d → Slim Tryz.prog t d := by
        intro j t d ht hd q hq
        refine hs q ?_
        have e : (DataW.agg [y0.1, y1.1, y2.1, y3.1, y4.1]).weights Tryz.prog 25 = DataW.weightsEach Tryz.prog [f0.type, f1.type, f2.type, f3.type, f4.type] [y0.1, y1.1, y2.1, y3.1, y4.1] := by
          simp only [DataW.weights, hU]
          rfl
        show q ∈ (DataW.agg [y0.1, y1.1, y2.1, y3.1, y4.1]).weights Tryz.prog 25
        rw [e]
        exact DataW.weights_mem_each ht hd q hq
      obtain ⟨k, e0, -, -⟩ := DataW.trod_int Tryz.underlying3 g0
      obtain ⟨z, e1, -, -⟩ := DataW.trod_int Tryz.underlying2 g1
      obtain ⟨s, e2, ed2, -⟩ := DataW.trod_string Tryz.underlying9 g2
      obtain ⟨A, a, ks, e3, ha0, hka, hRA, hks, hkl⟩ := open_keys Tryz.underlying22 Tryz.underlying9 c2 (by rw [bytes_facts.1]; omega) g3 (hsl 3 22 y3.1 (by rw [← t3]; rfl) rfl)
      obtain ⟨B, b, es, ys, e4, hb0, heb, hRB, hL, hel⟩ := open_elems (fun n' hn' => ihm n' (by omega)) g4 (hsl 4 23 y4.1 (by rw [← t4]; rfl) rfl)
      have hss : s.size ≤ 140737488355328 := by
        have := hsl 2 9 y2.1 (by rw [← t2]; rfl) rfl s.data.toList.length (by rw [ed2]; simp [DataW.weights])
        simpa using this
      simp only [List.cons.injEq, and_true] at e0 e1 e2 e3 e4
      subst e0 e1 e2 e3 e4
      exact ⟨.mk k z s ks es, by rw [Lies]; exact ⟨⟨hss, hks, hkl, hel⟩, A, a, B, b, ys, rfl, ha0, hb0, hka, heb, hRA, hRB, hL⟩⟩
theorem open_value {v : Value} {d : DataW H} {ps : List MemPlace} (h : DataW.Trod enc Tryz.prog w 0 (fun _ => true) true 25 v d ps) (hs : Slim Tryz.prog 25 d) : ∃ u, Lies w (· < w.heap.size) u v.cells.toList := by
  obtain ⟨fuel, hf⟩ := h
  exact open_value_at fuel fuel (Nat.le_refl _) _ _ hf hs
end
end Go.Proofs.YtjafmdngbphacaaGreatDoor
namespace Go.Proofs.YtjafmdngbphacaaGreatDoor
open Go.ChangeShapes Go.WideShapes Go.ChangeAt Go.RowKit Go.ChangeMaps
section
variable {H : Type} {enc : TypeId × Value → H} {w : World}
theorem slim_of {P : Program} {ts : List TypeId} {ds : List (DataW H)} (h : (DataW.weightsEach P ts ds).all (· ≤ reachBytes) = true) {j : Nat} {t : TypeId} {d : DataW H} (ht : ts[j]? = some t) (hd : ds[j]? = some d) : Slim P t d := by
  intro n hn
  have := List.all_eq_true.1 h _ (DataW.weights_mem_each ht hd n hn)
  have h2 := reachBytes_lt
  simp only [decide_eq_true_eq] at this
  omega
set_option maxRecDepth 100000 in
/-- A value that came in, its cells written out. -/
theorem open_value_arg {r : Reach} {b0 : Nat} {v : Value} {d : DataW H} {ps : List MemPlace} (hval : Value.okWide Tryz.prog w r b0 25 v) (h : DataW.Trod enc Tryz.prog w 0 (fun _ => true) true 25 v d ps) (hs : Slim Tryz.prog 25 d) :
    ∃ (u : V) (cs : List Value), v = .agg cs.toArray ∧ Lies w (· < w.heap.size) u cs := by
  obtain ⟨f0, f1, f2, f3, f4, hU, -⟩ := struct_value
  obtain ⟨cs, rfl, -⟩ := okWide_struct hU hval
  obtain ⟨u, hu⟩ := open_value h hs
  exact ⟨u, cs.toList, by simp, by simpa [Value.cells] using hu⟩
end
end Go.Proofs.YtjafmdngbphacaaGreatDoor
namespace Go.Proofs.YtjafmdngbphacaaGreatDoor
section
variable {H : Type} {enc : TypeId × Value → H}
theorem returnsInHanded_and_shape {a : Assume} {C : Checked} {os : Os} {f : FuncId} {fn : Func} {s : ChangeSpec} {conds : List PathCond} {apart fresh handsOn again : Bool} {X : World → Array Value → Prop}
    (hX : ∀ (w w' : World) (args : Array Value), w.heap = w'.heap → X w args → X w' args)
    (own : ownKnob C.prog.godebug = none) (started : os.Started) (noInit : C.prog.inits.idxOf? f = none) (hfn : C.prog.funcs[f]? = some fn)
    (witness : ∃ (w : World) (tape : Tape) (i : Input), w.os = os ∧ (w.forCall tape i).Shaped C.prog ∧ i.vars = [] ∧ Input.okWide C.prog (w.forCall tape i) .any w.heap.size f i ∧
      ((s.pre enc C.prog fn conds apart (w.forCall tape i).memory i.args ∧ X (w.forCall tape i).memory i.args) ∧ sizedMet enc C.prog fn (OpenSpec.ofChange s) apart (w.forCall tape i).memory i.args) ∧ a.holds C.prog (lone (Frame.enter C.prog f i.args .normal) [] (w.forCall tape i)))
    (contract : ∀ (W : World) (base : Nat) (args : Array Value) (ds gs : List (DataW H)) (before : List MemPlace),
      (∀ (j : Nat) t v, fn.params[j]? = some t → args[j]? = some v → Value.okWide C.prog W .any base t v) →
      DataW.Whole enc C.prog fn.params.toList s.vars apart W args.toList ds gs before →
      (DataW.weightsEach C.prog (fn.params.toList ++ s.plain.varTypes C.prog) (ds ++ gs)).all (· ≤ reachBytes) = true → X W args → W.ShapedOpen C.prog →
      Calls C.prog f args W fun e W' => ∃ v, e = .returned v ∧ s.post enc C.prog fn apart fresh handsOn again W args v W') :
    ReturnsInHanded a C os f .any (fun w args => (s.pre enc C.prog fn conds apart w args ∧ X w args) ∧ sizedMet enc C.prog fn (OpenSpec.ofChange s) apart w args) (s.post enc C.prog fn apart fresh handsOn again) := by
  refine returnsInHanded_of_calls own started noInit witness ?_
  intro w tape i _ hsh _ hok hpre _
  obtain ⟨_, _, _, fn', hfn', _, _, _, _, hval⟩ := hok
  have e : fn' = fn := Option.some.inj (hfn'.symm.trans hfn)
  subst e
  obtain ⟨⟨⟨ds, gs, before, hw, _⟩, hx⟩, hz⟩ := hpre
  have hw' := DataW.Whole.of_heap (w' := w.forCall tape i) (by rfl) hw
  refine (contract (w.forCall tape i) w.heap.size i.args ds gs before hval hw' (hz.weights hw) (hX _ _ _ (by rfl) hx) hsh).mono fun e W' ⟨v, he, hp⟩ => ?_
  subst he
  exact ChangeSpec.post_blind hp
end
end Go.Proofs.YtjafmdngbphacaaGreatDoor
namespace Go.Proofs.YtjafmdngbphacaaGreatDoor
open Go.RowKit Go.Shelf Go.Sort
def zl : Nat → List Value
  | 0 => []
  | n + 1 => [.int .i64 0, .int .i64 0, .string ⟨#[]⟩, .slice none 0 0, .slice none 0 0] ++ zl n
theorem zl_len : ∀ n, (zl n).length = n * 5
  | 0 => rfl
  | n + 1 => by rw [zl, List.length_append, zl_len n]; simp; omega
theorem zl_get : ∀ (n j : Nat), j < n * 5 → (zl n)[j]? = ([Value.int .i64 0, .int .i64 0, .string ⟨#[]⟩, .slice none 0 0, .slice none 0 0] : List Value)[j % 5]?
  | 0, j, h => by omega
  | n + 1, j, h => by
    rw [zl]
    by_cases hj : j < 5
    · rw [List.getElem?_append_left (by simpa using hj), Nat.mod_eq_of_lt hj]
    · rw [List.getElem?_append_right (by simp; omega), zl_get n _ (by simp; omega)]
      congr 1
      simp
      omega
set_option maxRecDepth 100000 in
theorem made_nulls (n : Nat) (hn : n ≤ 1000000) : ∀ W, (Instr.makeSlice 23 (.int .i64 (n : Int)) (.int .i64 (n : Int))).run Tryz.prog W = .ok (.slice (some ⟨W.heap.size, 0, none⟩) n n) (W.alloc (.cells (zl n).toArray 25)) := by
  obtain ⟨i, hi, hz, hs, hb⟩ := info_parts inf_value
  intro W
  have := run_make W 23 25 i zeroVal Tryz.underlying23 hi hz .i64 .i64 n n (by omega) (by omega) (by rw [hb]; omega) (by omega)
  rw [hs] at this
  have hC : madeCells zeroVal.cells (n * 5) = (zl n).toArray := by
    refine Array.ext (by simp [madeCells, zl_len]) fun j h1 h2 => ?_
    have hj : j < n * 5 := by simpa [madeCells] using h1
    have hm : j % 5 < 5 := Nat.mod_lt _ (by omega)
    have hz2 := zl_get n j hj
    have : (madeCells zeroVal.cells (n * 5))[j] = ([Value.int .i64 0, .int .i64 0, .string ⟨#[]⟩, .slice none 0 0, .slice none 0 0] : List Value)[j % 5] := by
      simp only [madeCells, zeroVal, Value.cells]
      simp
      rw [List.getElem?_eq_getElem hm, Option.getD_some]
    rw [this]
    rw [List.getElem?_eq_getElem (by rw [zl_len]; exact hj), List.getElem?_eq_getElem hm] at hz2
    injection hz2 with hz2
    rw [← hz2]
    simp
  simp only [Int.toNat_natCast] at this
  rw [hC] at this
  exact this
/-- The cells of a string as a value. -/
def strF (s : ByteArray) : Fv := ⟨4, 0, s, none, 0, 0, none, 0, 0⟩
theorem zl_flat : ∀ n, zl n = (List.replicate n fvZero).flatMap Fv.cs
  | 0 => rfl
  | n + 1 => by
    rw [List.replicate_succ, List.flatMap_cons, ← zl_flat n]
    rfl
/-- Between two rounds. -/
structure SaSt (g n : Nat) (ps : List ByteArray) (w0 w : World) (i : Nat) (ys : List Fv) : Prop where
  own : w.ownsRow w0.heap.size 25 5 (.slice (some ⟨g, 0, none⟩) n n) n (ys.flatMap Fv.cs)
  len : ys.length = n
  head : ys.take i = (ps.take i).map strF
  res : Box w w0.heap.size 25 #[.int .i64 0, .int .i64 0, .string ⟨#[]⟩, .slice none 0 0, .slice none 0 0]
  ne : w0.heap.size < g
  below : Below w0.heap.size w0 w
theorem SaSt.put {g n i : Nat} {ps : List ByteArray} {w0 w : World} {ys : List Fv} {s : ByteArray} (h : SaSt g n ps w0 w i ys) (hs : ps[i]? = some s) (hi : i < n) :
    SaSt g n ps w0 (((((w.setCell ⟨g, i * 5, none⟩ (.int .i64 4)).setCell ⟨g, i * 5 + 1, none⟩ (.int .i64 0)).setCell ⟨g, i * 5 + 2, none⟩ (.string s)).setCell ⟨g, i * 5 + 3, none⟩ (.slice none 0 0)).setCell ⟨g, i * 5 + 4, none⟩ (.slice none 0 0)) (i + 1) (ys.set i (strF s)) := by
  have hl := h.len
  have hg : w0.heap.size ≤ g := Nat.le_of_lt h.ne
  have hne : w0.heap.size ≠ g := Nat.ne_of_lt h.ne
  refine ⟨?_, by rw [List.length_set]; exact hl, ?_, ((((h.res.far hne _).far hne _).far hne _).far hne _).far hne _, h.ne, ((((h.below.setCell hg _).setCell hg _).setCell hg _).setCell hg _).setCell hg _⟩
  · rw [← flat_set (strF s) ys i (by omega)]
    exact own_set (own_set (own_set (own_set (own_set h.own (i := i * 5) (by omega) _) (i := i * 5 + 1) (by omega) _) (i := i * 5 + 2) (by omega) _) (i := i * 5 + 3) (by omega) _) (i := i * 5 + 4) (by omega) _
  · rw [List.take_add_one, List.getElem?_set_self (by omega), List.take_set_of_le (Nat.le_refl _), h.head, List.take_add_one, hs, List.map_append]
    rfl
theorem SaSt.free {g n i : Nat} {ps : List ByteArray} {w0 w : World} {ys : List Fv} (h : SaSt g n ps w0 w i ys) (k : Nat) : w.frozen? ⟨g, k, none⟩ = false := by
  rcases h.own.2 with ⟨h0, _⟩ | ⟨g', cap', cur, hv, hbg, hgg, _⟩
  · cases h0
  · cases hv
    exact (show Box w g _ cur from hgg).free k
theorem SaSt.there {g n i : Nat} {ps : List ByteArray} {w0 w : World} {ys : List Fv} (h : SaSt g n ps w0 w i ys) (k : Nat) (hk : k < n * 5) : ∃ u, w.cell? ⟨g, k, none⟩ = some u := by
  have h1 := h.own.1
  rw [h.own.cellAt k hk]
  exact ⟨_, List.getElem?_eq_getElem (by omega)⟩
end Go.Proofs.YtjafmdngbphacaaGreatDoor
