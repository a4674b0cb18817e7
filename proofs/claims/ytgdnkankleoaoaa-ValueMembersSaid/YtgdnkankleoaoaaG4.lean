/- The last step of a law's row: the call has answered true, and nothing that was there has changed. Nothing of the program is named here. A value that came in reads as a tree. An api.Value that came in reads as a tree. ValueValid answers true for every value, and the value reads behind the call as it read before. No condition. -/
import Derived.Test.YtgdnkankleoaoaaG1
import Derived.WalkKit
import Derived.ProofKit
import Derived.OpenShut
import Derived.Carry
import Derived.KernelRfl
import Derived.SliceStrings
import Derived.SizedLaws
import Derived.Test.YtgdnkankleoaoaaRows
import Derived.Test.YtgdnkankleoaoaaVal
import Derived.Test.YtgdnkankleoaoaaG3
import Derived.Test.YtgdnkankleoaoaaAgree2
set_option linter.unusedVariables false
set_option linter.unusedSimpArgs false
namespace Go.Proofs.Ytgdnkankleoaoaa
open Go.ChangeShapes Go.WideShapes Go.ChangeAt Go.RowKit
section
variable {H : Type} {enc : TypeId × Value → H} {P : Program}
theorem trodAll_stays (hl : laidOutB P = true) {W W' : World} (hb : Below W.heap.size W W') :
    ∀ {ts : List TypeId} {vs : List Value} {ds : List (DataW H)} {ps : List MemPlace}, (∀ t ∈ ts, P.readableRec t = true ∧ t < P.types.size) →
      DataW.TrodAll enc P W 0 (fun _ => true) true ts vs ds ps → (∀ x ∈ ps, x.block < W.heap.size) → DataW.TrodAll enc P W' 0 (fun b => decide (b < W.heap.size)) true ts vs ds ps := by
  intro ts
  induction ts with
  | nil =>
    intro vs ds ps _ h _
    obtain ⟨rfl, rfl, rfl⟩ := trodAll_nil h
    exact trodAll_mk0
  | cons t ts ih =>
    intro vs ds ps ht h hlt
    obtain ⟨v, vs', d, ds', p, q, rfl, rfl, rfl, h0, h1⟩ := trodAll_cons h
    have t0 := ht t (by simp)
    exact trodAll_cons_mk (Below.trod hl t0.1 t0.2 h0 hb (fun x hx => hlt x (by simp [hx]))) (ih (fun u hu => ht u (by simp [hu])) h1 (fun x hx => hlt x (by simp [hx])))
/-- One closed fact: the parameters' types can be read and are rows of the table. -/
def parsRowed (P : Program) (f : Func) : Bool := f.params.toList.all fun t => P.readableRec t && decide (t < P.types.size)
theorem law_post {f : Func} {s : ChangeSpec} {W W' : World} {args : Array Value} {ds gs : List (DataW H)} {before : List MemPlace} {tb : TypeId}
    (hW : DataW.Whole enc P f.params.toList s.vars false W args.toList ds gs before) (hvars : s.vars = [])
    (hres : (s.fn H (ds ++ gs)).results = [.lit (.bool true)]) (hargs : (s.fn H (ds ++ gs)).args = ds) (hsv : (s.fn H (ds ++ gs)).vars = [])
    (hrt : f.resultTypes = #[tb]) (hbt : P.underlying tb = some .bool) (hl : laidOutB P = true) (hp : parsRowed P f = true) (hB : Below W.heap.size W W') :
    s.post enc P f false true false false W args (.bool true) W' := by
  have hlt : ∀ x ∈ before, x.block < W.heap.size := fun x hx => hW.lt x hx
  have hW2 := hW
  obtain ⟨p, q, hA, hV, rfl, hfz, hnd⟩ := hW2
  rw [hvars] at hV
  obtain ⟨rfl, rfl⟩ := trodVars_none hV
  have hp2 : ∀ t ∈ f.params.toList, P.readableRec t = true ∧ t < P.types.size := by
    intro t ht
    have := List.all_eq_true.1 hp t ht
    simpa using this
  refine ⟨ds, [], p ++ [], [], p, [], hW, ?_, ?_, ?_, hB.frame _ |> World.keptBut_mono (fun x hx => ⟨hx, Or.inr (Or.inl (by simpa using hx))⟩), fun h => by cases h⟩
  · rw [hres, hrt]
    exact trodAll_cons_mk (shut_bool hbt true) trodAll_mk0
  · rw [hargs]
    exact trodAll_stays hl hB hp2 hA (fun x hx => hlt x (by simp [hx]))
  · rw [hsv, hvars]
    exact rfl
end
end Go.Proofs.Ytgdnkankleoaoaa
namespace Go.Proofs.Ytgdnkankleoaoaa
open Go.ChangeShapes Go.WideShapes Go.ChangeAt Go.RowKit
section
variable {H : Type} {enc : TypeId × Value → H} {w : World}
theorem weightsAll_mem {P : Program} {e : TypeId} {d : DataW H} : ∀ {l : List (DataW H)}, d ∈ l → ∀ n ∈ d.weights P e, n ∈ DataW.weightsAll P e l
  | [], h, _, _ => by cases h
  | x :: r, h, n, hn => by
    rw [DataW.weightsAll, List.mem_append]
    rcases List.mem_cons.1 h with rfl | h
    · exact .inl hn
    · exact .inr (weightsAll_mem h n hn)
/-- No string and no slice of the data takes more than the reach. -/
def Slim (P : Program) (t : TypeId) (d : DataW H) : Prop := ∀ n ∈ d.weights P t, n ≤ 140737488355328
theorem add_off (b o j : Nat) : ((⟨b, o, none⟩ : Addr).add j) = ⟨b, o + j, none⟩ := by
  unfold Addr.add
  by_cases h : j = 0 <;> simp [h]
theorem liesL_range {S : Nat → Prop} {Vf : Nat → V} {C : Nat → List Value} : ∀ len : Nat, (∀ i, i < len → Lies w S (Vf i) (C i)) → LiesL w S ((List.range len).map Vf) ((List.range len).flatMap C)
  | 0, _ => by simp [LiesL]
  | len + 1, h => by
    rw [List.range_succ, List.map_append, List.flatMap_append]
    have := LiesL.snoc (liesL_range len fun i hi => h i (by omega)) (h len (by omega))
    simpa using this
theorem rs_range {S : Nat → Prop} {b o : Nat} {C : Nat → List Value} (hb : ∀ i, S b ∨ i = i + 1) : ∀ len : Nat, (∀ i, i < len → (C i).length = 5 ∧ ∀ r, r < 5 → w.cell? ⟨b, o + i * 5 + r, none⟩ = (C i)[r]?) →
    ((List.range len).flatMap C).length = len * 5 ∧ ∀ j u, ((List.range len).flatMap C)[j]? = some u → w.cell? ⟨b, o + j, none⟩ = some u
  | 0, _ => by simp
  | len + 1, h => by
    obtain ⟨h1, h2⟩ := rs_range hb len fun i hi => h i (by omega)
    obtain ⟨h3, h4⟩ := h len (by omega)
    rw [List.range_succ, List.flatMap_append]
    have e : [len].flatMap C = C len := by simp
    rw [e]
    refine ⟨by rw [List.length_append, h1, h3]; omega, fun j u hj => ?_⟩
    by_cases hlt : j < len * 5
    · rw [List.getElem?_append_left (by omega)] at hj
      exact h2 j u hj
    · rw [List.getElem?_append_right (by omega), h1] at hj
      obtain ⟨hr, -⟩ := List.getElem?_eq_some_iff.1 hj
      have := h4 (j - len * 5) (by omega)
      rw [hj] at this
      rw [← this]
      congr 2
      omega
/-- A slice of strings that came in, in cells. -/
theorem open_keys {P : Program} {t e : TypeId} {fuel : Nat} {cs : List Value} {x : DataW H × List MemPlace} (ht : P.underlying t = some (.slice e)) (he : P.underlying e = some .string) (hc : P.cellsOf e = 1) (hby : 1 ≤ P.bytesOf e)
    (h : DataW.trod enc P w 0 (fun _ => true) true fuel t cs = some x) (hs : Slim P t x.1) :
    ∃ (A : Option Addr) (a : Nat) (ks : List ByteArray), cs = [.slice A ks.length a] ∧ (A = none → a = 0) ∧ (ks.length ≤ a ∧ a ≤ maxLen) ∧ Rs w (· < w.heap.size) A (kv ks) ∧ (∀ k ∈ ks, k.size ≤ 140737488355328) ∧ ks.length ≤ 140737488355328 := by
  rcases open_strings ht he hc h with ⟨rfl, rfl⟩ | ⟨a, len, cap, ss, rfl, -, hl, hm, hsl, rfl, hcell, -⟩
  · exact ⟨none, 0, [], rfl, fun _ => rfl, ⟨Nat.le_refl _, Nat.zero_le _⟩, Rs.nil _ _ _, by simp, Nat.zero_le _⟩
  · simp only [if_true] at hsl
    have htl : (ss.take len).length = len := by rw [List.length_take]; omega
    have hw := hs
    unfold Slim at hw
    simp only [DataW.weights, ht] at hw
    have hn := hw _ List.mem_cons_self
    refine ⟨some a, cap, ss.take len, by rw [htl], (fun h => by cases h), ⟨by omega, hm⟩, ?_, ?_, ?_⟩
    · intro j u hj
      have hjl : j < len := by
        rcases Nat.lt_or_ge j len with h1 | h1
        · exact h1
        · rw [List.getElem?_eq_none (by rw [kv_length]; omega)] at hj; cases hj
      have hcj := hcell j (by omega)
      have hc0 := hcell 0 (by omega)
      obtain ⟨b, o, sp⟩ := a
      have hsp : sp = none := by simpa [Addr.add] using World.cell?_spot hc0
      subst hsp
      rw [add_off] at hcj
      refine ⟨b, o, rfl, World.block_lt_of_cell? w _ hcj, ?_⟩
      rw [hcj]
      have hjz : j < ss.length := by omega
      simp only [kv, List.getElem?_map, List.getElem?_take, hjl, if_true] at hj
      rw [List.getElem?_eq_getElem hjz] at hj
      injection hj with hj
      subst hj
      simp [List.getD, List.getElem?_eq_getElem hjz]
    · intro k hk
      have := hw k.data.toList.length (List.mem_cons_of_mem _ (List.mem_append_left _ (weightsAll_mem (d := .lit (.string k.data.toList)) (by simp only [strs, List.mem_map]; exact ⟨k, hk, rfl⟩) _ (by simp [DataW.weights]))))
      simpa using this
    · rw [htl]
      have h0 : (strs (H := H) (ss.take len)).length + (strs (H := H) (ss.drop len)).length = ss.length := by simp [strs]; omega
      rw [h0] at hn
      have := Nat.mul_le_mul_left ss.length hby
      omega
end
end Go.Proofs.Ytgdnkankleoaoaa
namespace Go.Proofs.Ytgdnkankleoaoaa
open Go.ChangeShapes Go.WideShapes Go.ChangeAt Go.RowKit
section
variable {H : Type} {enc : TypeId × Value → H} {w : World}
theorem struct_value : ∃ f0 f1 f2 f3 f4 : Field, Try.prog.underlying 28 = some (.struct #[f0, f1, f2, f3, f4]) ∧ (f0.type = 3 ∧ f0.offset = 0) ∧ (f1.type = 2 ∧ f1.offset = 1) ∧ (f2.type = 9 ∧ f2.offset = 2) ∧ (f3.type = 22 ∧ f3.offset = 3) ∧ (f4.type = 23 ∧ f4.offset = 4) :=
  ⟨_, _, _, _, _, Try.underlying28, ⟨rfl, rfl⟩, ⟨rfl, rfl⟩, ⟨rfl, rfl⟩, ⟨rfl, rfl⟩, ⟨rfl, rfl⟩⟩
theorem cells_facts : Try.prog.cellsOf 3 = 1 ∧ Try.prog.cellsOf 2 = 1 ∧ Try.prog.cellsOf 9 = 1 ∧ Try.prog.cellsOf 22 = 1 ∧ Try.prog.cellsOf 23 = 1 ∧ Try.prog.cellsOf 28 = 5 :=
  ⟨by kernel_rfl, by kernel_rfl, by kernel_rfl, by kernel_rfl, by kernel_rfl, by kernel_rfl⟩
theorem bytes_facts : Try.prog.bytesOf 9 = 16 ∧ Try.prog.bytesOf 28 = 80 := ⟨by kernel_rfl, by kernel_rfl⟩
/-- A slice of values that came in, where each value is known to read as a tree. -/
theorem open_elems {n0 : Nat} (ih : ∀ n, n < n0 → ∀ (cs : List Value) (x : DataW H × List MemPlace), DataW.trod enc Try.prog w 0 (fun _ => true) true n 28 cs = some x → Slim Try.prog 28 x.1 → ∃ v, Lies w (· < w.heap.size) v cs)
    {cs : List Value} {x : DataW H × List MemPlace} (h : DataW.trod enc Try.prog w 0 (fun _ => true) true n0 23 cs = some x) (hs : Slim Try.prog 23 x.1) :
    ∃ (B : Option Addr) (b : Nat) (es : List V) (xs : List Value), cs = [.slice B es.length b] ∧ (B = none → b = 0) ∧ (es.length ≤ b ∧ b ≤ maxLen) ∧ Rs w (· < w.heap.size) B xs ∧ LiesL w (· < w.heap.size) es xs ∧ es.length ≤ 140737488355328 := by
  rcases DataW.trod_slice Try.underlying23 h with ⟨rfl, rfl⟩ | ⟨a, len, cap, elems, rest, n, rfl, rfl, rfl, -, hl, hm, hlen, hel, hsp, -⟩
  · exact ⟨none, 0, [], [], rfl, fun _ => rfl, ⟨Nat.le_refl _, Nat.zero_le _⟩, Rs.nil _ _ _, by rw [LiesL], Nat.zero_le _⟩
  · have hw := hs
    unfold Slim at hw
    simp only [DataW.weights, Try.underlying23] at hw
    have hn := hw _ List.mem_cons_self
    rw [bytes_facts.2] at hn
    simp only [List.length_map] at hn
    have hlenb : len ≤ 140737488355328 := by omega
    have hone : ∀ i, i < len → ∃ (v : V) (c : List Value), Lies w (· < w.heap.size) v c ∧ c.length = 5 ∧ ∀ r, r < 5 → w.cell? ((a.add (i * 5)).add r) = c[r]? := by
      intro i hi
      obtain ⟨y, hy⟩ : ∃ y, elems[i]? = some y := ⟨_, List.getElem?_eq_getElem (by omega)⟩
      have h1 := hel i hi
      rw [hy, cells_facts.2.2.2.2.2] at h1
      obtain ⟨c, hc, ht⟩ := Option.bind_eq_some_iff.1 h1
      obtain ⟨v, hv⟩ := ih n (by omega) c y ht (fun q hq => hw q (List.mem_cons_of_mem _ (List.mem_append_left _ (weightsAll_mem (d := y.1) (List.mem_map.2 ⟨y, List.mem_of_getElem? hy, rfl⟩) q hq))))
      obtain ⟨-, h5, hcell⟩ := World.cells?_some hc
      exact ⟨v, c, hv, h5, hcell⟩
    by_cases hz : len = 0
    · subst hz
      exact ⟨some a, cap, [], [], rfl, (fun h => by cases h), ⟨hl, hm⟩, Rs.nil _ _ _, by rw [LiesL], Nat.zero_le _⟩
    · obtain ⟨b, o, sp⟩ := a
      have hsp : sp = none ∧ b < w.heap.size := by
        obtain ⟨v, c, -, h5, hc⟩ := hone 0 (by omega)
        have h0 := hc 0 (by omega)
        rw [List.getElem?_eq_getElem (by omega)] at h0
        exact ⟨by simpa [Addr.add] using World.cell?_spot h0, by have := World.block_lt_of_cell? w _ h0; simpa [Addr.add] using this⟩
      obtain ⟨rfl, hblt⟩ := hsp
      have hex : ∀ i : Nat, ∃ p : V × List Value, i < len → Lies w (· < w.heap.size) p.1 p.2 ∧ p.2.length = 5 ∧ ∀ r, r < 5 → w.cell? ⟨b, o + i * 5 + r, none⟩ = p.2[r]? := by
        intro i
        by_cases hi : i < len
        · obtain ⟨v, c, h1, h2, h3⟩ := hone i hi
          refine ⟨(v, c), fun _ => ⟨h1, h2, fun r hr => ?_⟩⟩
          have := h3 r hr
          rw [add_off, add_off] at this
          exact this
        · exact ⟨(.mk 0 0 ⟨#[]⟩ [] [], []), fun h => absurd h hi⟩
      obtain ⟨f, hf⟩ := Classical.axiomOfChoice hex
      have hr := rs_range (w := w) (S := fun _ => True) (b := b) (o := o) (C := fun i => (f i).2) (fun _ => .inl trivial) len (fun i hi => ⟨(hf i hi).2.1, (hf i hi).2.2⟩)
      refine ⟨some ⟨b, o, none⟩, cap, (List.range len).map fun i => (f i).1, (List.range len).flatMap fun i => (f i).2, by simp, (fun h => by cases h), ⟨by simpa using hl, hm⟩, ?_, liesL_range len (fun i hi => (hf i hi).1), by simpa using hlenb⟩
      exact fun j u hj => ⟨b, o, rfl, hblt, hr.2 j u hj⟩
set_option maxRecDepth 100000 in
/-- An api.Value that came in. -/
theorem open_value_at : ∀ m n0 : Nat, n0 ≤ m → ∀ (cs : List Value) (x : DataW H × List MemPlace), DataW.trod enc Try.prog w 0 (fun _ => true) true n0 28 cs = some x → Slim Try.prog 28 x.1 → ∃ v, Lies w (· < w.heap.size) v cs := by
  intro m
  induction m with
  | zero =>
    intro n0 h0 cs x h _
    obtain rfl : n0 = 0 := by omega
    simp [DataW.trod] at h
  | succ m ihm =>
    intro n0 h0 cs x h hs
    obtain ⟨f0, f1, f2, f3, f4, hU, ⟨t0, o0⟩, ⟨t1, o1⟩, ⟨t2, o2⟩, ⟨t3, o3⟩, ⟨t4, o4⟩⟩ := struct_value
    obtain ⟨c0, c1, c2, c3, c4, c5⟩ := cells_facts
    obtain ⟨xs, n, rfl, rfl, hl, hlen, hf⟩ := DataW.trod_struct hU h
    rw [c5] at hl
    match cs, hl, xs, hlen with
    | [a0, a1, a2, a3, a4], _, [y0, y1, y2, y3, y4], _ =>
      have g0 := hf 0 f0 rfl
      have g1 := hf 1 f1 rfl
      have g2 := hf 2 f2 rfl
      have g3 := hf 3 f3 rfl
      have g4 := hf 4 f4 rfl
      rw [t0, o0, c0] at g0
      rw [t1, o1, c1] at g1
      rw [t2, o2, c2] at g2
      rw [t3, o3, c3] at g3
      rw [t4, o4, c4] at g4
      simp only [List.drop_zero, List.drop_succ_cons, List.take_succ_cons, List.take_zero, List.getElem?_cons_zero, List.getElem?_cons_succ] at g0 g1 g2 g3 g4
      have hsl : ∀ (j : Nat) (t : TypeId) (d : DataW H), [f0.type, f1.type, f2.type, f3.type, f4.type][j]? = some t → [y0.1, y1.1, y2.1, y3.1, y4.1][j]? = some d → Slim Try.prog t d := by
        intro j t d ht hd q hq
        refine hs q ?_
        have e : (DataW.agg [y0.1, y1.1, y2.1, y3.1, y4.1]).weights Try.prog 28 = DataW.weightsEach Try.prog [f0.type, f1.type, f2.type, f3.type, f4.type] [y0.1, y1.1, y2.1, y3.1, y4.1] := by
          simp only [DataW.weights, hU]
          rfl
        show q ∈ (DataW.agg [y0.1, y1.1, y2.1, y3.1, y4.1]).weights Try.prog 28
        rw [e]
        exact DataW.weights_mem_each ht hd q hq
      obtain ⟨k, e0, -, -⟩ := DataW.trod_int Try.underlying3 g0
      obtain ⟨z, e1, -, -⟩ := DataW.trod_int Try.underlying2 g1
      obtain ⟨s, e2, ed2, -⟩ := DataW.trod_string Try.underlying9 g2
      obtain ⟨A, a, ks, e3, ha0, hka, hRA, hks, hkl⟩ := open_keys Try.underlying22 Try.underlying9 c2 (by rw [bytes_facts.1]; omega) g3 (hsl 3 22 y3.1 (by rw [← t3]; rfl) rfl)
      obtain ⟨B, b, es, ys, e4, hb0, heb, hRB, hL, hel⟩ := open_elems (fun n' hn' => ihm n' (by omega)) g4 (hsl 4 23 y4.1 (by rw [← t4]; rfl) rfl)
      have hss : s.size ≤ 140737488355328 := by
        have := hsl 2 9 y2.1 (by rw [← t2]; rfl) rfl s.data.toList.length (by rw [ed2]; simp [DataW.weights])
        simpa using this
      simp only [List.cons.injEq, and_true] at e0 e1 e2 e3 e4
      subst e0 e1 e2 e3 e4
      exact ⟨.mk k z s ks es, by rw [Lies]; exact ⟨⟨hss, hks, hkl, hel⟩, A, a, B, b, ys, rfl, ha0, hb0, hka, heb, hRA, hRB, hL⟩⟩
end
end Go.Proofs.Ytgdnkankleoaoaa
namespace Go.Proofs.Ytgdnkankleoaoaa
open Go.ChangeShapes Go.WideShapes Go.ChangeAt Go.RowKit Go.ChangeMaps
section
variable {H : Type} {enc : TypeId × Value → H} {w : World}
theorem slim_of {P : Program} {ts : List TypeId} {ds : List (DataW H)} (h : (DataW.weightsEach P ts ds).all (· ≤ reachBytes) = true) {j : Nat} {t : TypeId} {d : DataW H} (ht : ts[j]? = some t) (hd : ds[j]? = some d) : Slim P t d := by
  intro n hn
  have := List.all_eq_true.1 h _ (DataW.weights_mem_each ht hd n hn)
  have h2 := reachBytes_lt
  simp only [decide_eq_true_eq] at this
  omega
end
end Go.Proofs.Ytgdnkankleoaoaa
