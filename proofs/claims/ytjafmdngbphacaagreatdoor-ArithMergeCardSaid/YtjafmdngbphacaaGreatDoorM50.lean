/- ArithMerge answers true for every two values. The last step of a law's row: the call has answered true, and nothing that was there has changed. Nothing of the program is named here. A value that came in reads as a tree. -/
import Derived.Test.YtjafmdngbphacaaGreatDoorM48
import Derived.Test.YtjafmdngbphacaaGreatDoorM49
import Derived.Test.YtjafmdngbphacaaGreatDoorM01
import Derived.WalkKit
import Derived.ProofKit
import Derived.OpenShut
import Derived.Carry
import Derived.KernelRfl
import Derived.SliceStrings
import Derived.SizedLaws
import Derived.Test.YtjafmdngbphacaaGreatDoorRows
set_option linter.unusedVariables false
set_option linter.unusedSimpArgs false
namespace Go.Proofs.YtjafmdngbphacaaGreatDoor
open Go.RowKit Go.Sort
set_option maxHeartbeats 8000000 in
set_option maxRecDepth 100000 in
theorem merge_others (k n k2 n2 : Int) (s s2 : ByteArray) (ks ks2 : List ByteArray) (es es2 : List V) (cs ds : List Value) (w : World) (h : Lies w (· < w.heap.size) (.mk k n s ks es) cs) (h' : Lies w (· < w.heap.size) (.mk k2 n2 s2 ks2 es2) ds) (hml : MaxL w)
    (hno : smallP 100 [.mk k n s ks es, .mk k2 n2 s2 ks2 es2] = true → valid (.mk k n s ks es) = true → valid (.mk k2 n2 s2 ks2 es2) = true → k ≠ k2 ∨ k < 5) :
    Calls Tryz.prog 5 #[.agg cs.toArray, .agg ds.toArray] w fun e w' => e = .returned (.bool true) ∧ Below w.heap.size w w' := by
  have haw := Lib.hid (fun W (hW : Below w.heap.size w W) => awake6_any W (hml.next hW))
  have hva := Lib.hid (fun W (hW : Below w.heap.size w W) => valid_any _ cs W (below_lies hW h))
  have hvb := Lib.hid (fun W (hW : Below w.heap.size w W) => valid_any _ ds W (below_lies hW h'))
  have hsm := Lib.hid (fun W (hW : Below w.heap.size w W) g hg => small_any 100 [.mk k n s ks es, .mk k2 n2 s2 ks2 es2] (some ⟨g, 0, none⟩) 2 (cs ++ ds) W (two_rowM (below_lies hW h) (below_lies hW h') hg) (by simp) (by omega) (by omega))
  generalize smallP 100 [.mk k n s ks es, .mk k2 n2 s2 ks2 es2] = sm at hsm hno
  generalize valid (.mk k n s ks es) = va at hva hno
  generalize valid (.mk k2 n2 s2 ks2 es2) = vb at hvb hno
  have HNO := Lib.hid hno
  clear hno
  obtain ⟨A, a, B, b, xs, rfl, -⟩ := lies_open h
  obtain ⟨A2, a2, B2, b2, xs2, rfl, -⟩ := lies_open h'
  have L1 := Lib.hid h
  have L2 := Lib.hid h'
  clear h h' hml
  show Calls _ _ #[.agg #[.int .i64 k, .int .i64 n, .string s, .slice A ks.length a, .slice B es.length b], .agg #[.int .i64 k2, .int .i64 n2, .string s2, .slice A2 ks2.length a2, .slice B2 es2.length b2]] w _
  obtain ⟨W0, hW0⟩ : ∃ X, X = (w.alloc (.cells #[.int .i64 k, .int .i64 n, .string s, .slice A ks.length a, .slice B es.length b] 25)).alloc (.cells #[.int .i64 k2, .int .i64 n2, .string s2, .slice A2 ks2.length a2, .slice B2 es2.length b2] 25) := ⟨_, rfl⟩
  have HB0 := Lib.hid (show Below w.heap.size w W0 by rw [hW0]; exact ((Below.refl _ _).alloc (Nat.le_refl _) _).alloc (by simp) _)
  have HX0 : Hid (Vx W0 w.heap.size (.mk k n s ks es) [.int .i64 k, .int .i64 n, .string s, .slice A ks.length a, .slice B es.length b]) := Lib.hid ⟨by rw [hW0]; exact (Box.laid w _ _).alloc _, below_lies HB0.out L1.out⟩
  have HY0 : Hid (Vx W0 (w.heap.size + 1) (.mk k2 n2 s2 ks2 es2) [.int .i64 k2, .int .i64 n2, .string s2, .slice A2 ks2.length a2, .slice B2 es2.length b2]) := Lib.hid ⟨by rw [hW0]; exact box_at _ _ _ _ (by simp), below_lies HB0.out L2.out⟩
  have HW0 := Lib.hid hW0
  have hsm1 := Lib.hid (hsm.out (W0.alloc (.cells #[.int .i64 k, .int .i64 n, .string s, .slice A ks.length a, .slice B es.length b, .int .i64 k2, .int .i64 n2, .string s2, .slice A2 ks2.length a2, .slice B2 es2.length b2] 25)) (chain HB0.out (below1 _ _)) W0.heap.size (Box.laid W0 _ _))
  clear hW0 hsm L1 L2
  obtain ⟨t0, t1, t2, t3, t4⟩ := box5 HX0.out.box
  obtain ⟨y0, y1, y2, y3, y4⟩ := box5 HY0.out.box
  go_enter Tryz.func5, Tryz.ntmps5
  go_upto_region 1 with fail
  rw [← HW0.out]
  go_wp2_with fail
  refine hsm1.out.mono ?_
  rintro e1 w1 ⟨rfl, hb1⟩
  have HB1 := Lib.hid (chain HB0.out (chain (below1 W0 _) hb1))
  have HX1 := Lib.hid (HX0.out.next (chain (below1 W0 _) hb1))
  have HY1 := Lib.hid (HY0.out.next (chain (below1 W0 _) hb1))
  clear hsm1 hb1 t0 t1 t2 t3 t4 y0 y1 y2 y3 y4 HX0 HY0 HB0 HW0
  cases sm with
  | false =>
    go_wp2_with fail
    refine (haw.out _ HB1.out).mono ?_
    rintro e9 w9 ⟨rfl, hb9⟩
    go_wp2_with fail
    go_ret
    exact ⟨rfl, chain HB1.out hb9⟩
  | true =>
    obtain ⟨t0, t1, t2, t3, t4⟩ := box5 HX1.out.box
    go_wp2_with fail
    refine (hva.out _ HB1.out).mono ?_
    rintro e2 w2 ⟨rfl, hb2⟩
    have HB2 := Lib.hid (chain HB1.out hb2)
    have HX2 := Lib.hid (HX1.out.next hb2)
    have HY2 := Lib.hid (HY1.out.next hb2)
    clear hb2 t0 t1 t2 t3 t4 HB1 HX1 HY1 hva
    cases va with
    | false =>
      go_wp2_with fail
      refine (haw.out _ HB2.out).mono ?_
      rintro e9 w9 ⟨rfl, hb9⟩
      go_wp2_with fail
      go_ret
      exact ⟨rfl, chain HB2.out hb9⟩
    | true =>
      obtain ⟨y0, y1, y2, y3, y4⟩ := box5 HY2.out.box
      go_wp2_with fail
      refine (hvb.out _ HB2.out).mono ?_
      rintro e3 w3 ⟨rfl, hb3⟩
      have HB3 := Lib.hid (chain HB2.out hb3)
      have HX3 := Lib.hid (HX2.out.next hb3)
      have HY3 := Lib.hid (HY2.out.next hb3)
      clear hb3 y0 y1 y2 y3 y4 HB2 HX2 HY2 hvb
      cases vb with
      | false =>
        go_wp2_with fail
        refine (haw.out _ HB3.out).mono ?_
        rintro e9 w9 ⟨rfl, hb9⟩
        go_wp2_with fail
        go_ret
        exact ⟨rfl, chain HB3.out hb9⟩
      | true =>
        have hno := HNO.out (by trivial) (by trivial) (by trivial)
        obtain ⟨t0, t1, t2, t3, t4⟩ := box5 HX3.out.box
        obtain ⟨y0, y1, y2, y3, y4⟩ := box5 HY3.out.box
        by_cases hk : k = k2
        · have h5 : k < 5 := by omega
          subst hk
          have hq : (k != k) = false := by simp
          have hd : decide (k < 5) = true := by simp; omega
          clear hno HNO
          go_wp2_with fail
          refine (haw.out _ HB3.out).mono ?_
          rintro e9 w9 ⟨rfl, hb9⟩
          go_wp2_with fail
          go_ret
          exact ⟨rfl, chain HB3.out hb9⟩
        · have hq : (k != k2) = true := by simp; omega
          clear hno HNO
          go_wp2_with fail
          refine (haw.out _ HB3.out).mono ?_
          rintro e9 w9 ⟨rfl, hb9⟩
          go_wp2_with fail
          go_ret
          exact ⟨rfl, chain HB3.out hb9⟩
theorem arithMerge_walk (v u : V) (cs ds : List Value) (w : World) (h : Lies w (· < w.heap.size) v cs) (h' : Lies w (· < w.heap.size) u ds) (hml : MaxL w) :
    Calls Tryz.prog 5 #[.agg cs.toArray, .agg ds.toArray] w fun e w' => e = .returned (.bool true) ∧ Below w.heap.size w w' := by
  obtain ⟨k, n, s, ks, es⟩ := v
  obtain ⟨k2, n2, s2, ks2, es2⟩ := u
  by_cases hc : smallP 100 [.mk k n s ks es, .mk k2 n2 s2 ks2 es2] = true ∧ valid (.mk k n s ks es) = true ∧ valid (.mk k2 n2 s2 ks2 es2) = true ∧ k = k2 ∧ 5 ≤ k
  · obtain ⟨h1, h2, h3, rfl, h5⟩ := hc
    have hk : k = 5 ∨ k = 6 := by
      rcases valid_shape h2 with ⟨q, _⟩ | ⟨q, _⟩ | ⟨q, _⟩ | ⟨q, _⟩ | ⟨q, _⟩ <;> omega
    rcases hk with rfl | rfl
    · exact merge_arrs n n2 s s2 ks ks2 es es2 cs ds w h h' hml h1 h2 h3
    · exact merge_objs n n2 s s2 ks ks2 es es2 cs ds w h h' hml h1 h2 h3
  · exact merge_others k n k2 n2 s s2 ks ks2 es es2 cs ds w h h' hml fun h1 h2 h3 => by
      by_cases hk : k = k2
      · by_cases h5 : 5 ≤ k
        · exact absurd ⟨h1, h2, h3, hk, h5⟩ hc
        · omega
      · exact .inl hk
end Go.Proofs.YtjafmdngbphacaaGreatDoor
namespace Go.Proofs.YtjafmdngbphacaaGreatDoor
open Go.ChangeShapes Go.WideShapes Go.ChangeAt Go.RowKit
section
variable {H : Type} {enc : TypeId × Value → H} {P : Program}
theorem trodAll_stays (hl : laidOutB P = true) {W W' : World} (hb : Below W.heap.size W W') :
    ∀ {ts : List TypeId} {vs : List Value} {ds : List (DataW H)} {ps : List MemPlace}, (∀ t ∈ ts, P.readableRec t = true ∧ t < P.types.size) →
      DataW.TrodAll enc P W 0 (fun _ => true) true ts vs ds ps → (∀ x ∈ ps, x.block < W.heap.size) → DataW.TrodAll enc P W' 0 (fun b => decide (b < W.heap.size)) true ts vs ds ps := by
  intro ts
  induction ts with
  | nil =>
    intro vs ds ps _ h _
    obtain ⟨rfl, rfl, rfl⟩ := trodAll_nil h
    exact trodAll_mk0
  | cons t ts ih =>
    intro vs ds ps ht h hlt
    obtain ⟨v, vs', d, ds', p, q, rfl, rfl, rfl, h0, h1⟩ := trodAll_cons h
    have t0 := ht t (by simp)
    exact trodAll_cons_mk (Below.trod hl t0.1 t0.2 h0 hb (fun x hx => hlt x (by simp [hx]))) (ih (fun u hu => ht u (by simp [hu])) h1 (fun x hx => hlt x (by simp [hx])))
/-- One closed fact: the parameters' types can be read and are rows of the table. -/
def parsRowed (P : Program) (f : Func) : Bool := f.params.toList.all fun t => P.readableRec t && decide (t < P.types.size)
theorem law_post {f : Func} {s : ChangeSpec} {W W' : World} {args : Array Value} {ds gs : List (DataW H)} {before : List MemPlace} {tb : TypeId}
    (hW : DataW.Whole enc P f.params.toList s.vars false W args.toList ds gs before) (hvars : s.vars = [])
    (hres : (s.fn H (ds ++ gs)).results = [.lit (.bool true)]) (hargs : (s.fn H (ds ++ gs)).args = ds) (hsv : (s.fn H (ds ++ gs)).vars = [])
    (hrt : f.resultTypes = #[tb]) (hbt : P.underlying tb = some .bool) (hl : laidOutB P = true) (hp : parsRowed P f = true) (hB : Below W.heap.size W W') :
    s.post enc P f false true false false W args (.bool true) W' := by
  have hlt : ∀ x ∈ before, x.block < W.heap.size := fun x hx => hW.lt x hx
  have hW2 := hW
  obtain ⟨p, q, hA, hV, rfl, hfz, hnd⟩ := hW2
  rw [hvars] at hV
  obtain ⟨rfl, rfl⟩ := trodVars_none hV
  have hp2 : ∀ t ∈ f.params.toList, P.readableRec t = true ∧ t < P.types.size := by
    intro t ht
    have := List.all_eq_true.1 hp t ht
    simpa using this
  refine ⟨ds, [], p ++ [], [], p, [], hW, ?_, ?_, ?_, hB.frame _ |> World.keptBut_mono (fun x hx => ⟨hx, Or.inr (Or.inl (by simpa using hx))⟩), fun h => by cases h⟩
  · rw [hres, hrt]
    exact trodAll_cons_mk (shut_bool hbt true) trodAll_mk0
  · rw [hargs]
    exact trodAll_stays hl hB hp2 hA (fun x hx => hlt x (by simp [hx]))
  · rw [hsv, hvars]
    exact rfl
end
end Go.Proofs.YtjafmdngbphacaaGreatDoor
namespace Go.Proofs.YtjafmdngbphacaaGreatDoor
open Go.ChangeShapes Go.WideShapes Go.ChangeAt Go.RowKit
section
variable {H : Type} {enc : TypeId × Value → H} {w : World}
theorem weightsAll_mem {P : Program} {e : TypeId} {d : DataW H} : ∀ {l : List (DataW H)}, d ∈ l → ∀ n ∈ d.weights P e, n ∈ DataW.weightsAll P e l
  | [], h, _, _ => by cases h
  | x :: r, h, n, hn => by
    rw [DataW.weightsAll, List.mem_append]
    rcases List.mem_cons.1 h with rfl | h
    · exact .inl hn
    · exact .inr (weightsAll_mem h n hn)
/-- No string and no slice of the data takes more than the reach. -/
def Slim (P : Program) (t : TypeId) (d : DataW H) : Prop := ∀ n ∈ d.weights P t, n ≤ 140737488355328
theorem add_off (b o j : Nat) : ((⟨b, o, none⟩ : Addr).add j) = ⟨b, o + j, none⟩ := by
  unfold Addr.add
  by_cases h : j = 0 <;> simp [h]
theorem liesL_range {S : Nat → Prop} {Vf : Nat → V} {C : Nat → List Value} : ∀ len : Nat, (∀ i, i < len → Lies w S (Vf i) (C i)) → LiesL w S ((List.range len).map Vf) ((List.range len).flatMap C)
  | 0, _ => by simp [LiesL]
  | len + 1, h => by
    rw [List.range_succ, List.map_append, List.flatMap_append]
    have := LiesL.snoc (liesL_range len fun i hi => h i (by omega)) (h len (by omega))
    simpa using this
theorem rs_range {S : Nat → Prop} {b o : Nat} {C : Nat → List Value} (hb : ∀ i, S b ∨ i = i + 1) : ∀ len : Nat, (∀ i, i < len → (C i).length = 5 ∧ ∀ r, r < 5 → w.cell? ⟨b, o + i * 5 + r, none⟩ = (C i)[r]?) →
    ((List.range len).flatMap C).length = len * 5 ∧ ∀ j u, ((List.range len).flatMap C)[j]? = some u → w.cell? ⟨b, o + j, none⟩ = some u
  | 0, _ => by simp
  | len + 1, h => by
    obtain ⟨h1, h2⟩ := rs_range hb len fun i hi => h i (by omega)
    obtain ⟨h3, h4⟩ := h len (by omega)
    rw [List.range_succ, List.flatMap_append]
    have e : [len].flatMap C = C len := by simp
    rw [e]
    refine ⟨by rw [List.length_append, h1, h3]; omega, fun j u hj => ?_⟩
    by_cases hlt : j < len * 5
    · rw [List.getElem?_append_left (by omega)] at hj
      exact h2 j u hj
    · rw [List.getElem?_append_right (by omega), h1] at hj
      obtain ⟨hr, -⟩ := List.getElem?_eq_some_iff.1 hj
      have := h4 (j - len * 5) (by omega)
      rw [hj] at this
      rw [← this]
      congr 2
      omega
/-- A slice of strings that came in, in cells. -/
theorem open_keys {P : Program} {t e : TypeId} {fuel : Nat} {cs : List Value} {x : DataW H × List MemPlace} (ht : P.underlying t = some (.slice e)) (he : P.underlying e = some .string) (hc : P.cellsOf e = 1) (hby : 1 ≤ P.bytesOf e)
    (h : DataW.trod enc P w 0 (fun _ => true) true fuel t cs = some x) (hs : Slim P t x.1) :
    ∃ (A : Option Addr) (a : Nat) (ks : List ByteArray), cs = [.slice A ks.length a] ∧ (A = none → a = 0) ∧ (ks.length ≤ a ∧ a ≤ maxLen) ∧ Rs w (· < w.heap.size) A (kv ks) ∧ (∀ k ∈ ks, k.size ≤ 140737488355328) ∧ ks.length ≤ 140737488355328 := by
  rcases open_strings ht he hc h with ⟨rfl, rfl⟩ | ⟨a, len, cap, ss, rfl, -, hl, hm, hsl, rfl, hcell, -⟩
  · exact ⟨none, 0, [], rfl, fun _ => rfl, ⟨Nat.le_refl _, Nat.zero_le _⟩, Rs.nil _ _ _, by simp, Nat.zero_le _⟩
  · simp only [if_true] at hsl
    have htl : (ss.take len).length = len := by rw [List.length_take]; omega
    have hw := hs
    unfold Slim at hw
    simp only [DataW.weights, ht] at hw
    have hn := hw _ List.mem_cons_self
    refine ⟨some a, cap, ss.take len, by rw [htl], (fun h => by cases h), ⟨by omega, hm⟩, ?_, ?_, ?_⟩
    · intro j u hj
      have hjl : j < len := by
        rcases Nat.lt_or_ge j len with h1 | h1
        · exact h1
        · rw [List.getElem?_eq_none (by rw [kv_length]; omega)] at hj; cases hj
      have hcj := hcell j (by omega)
      have hc0 := hcell 0 (by omega)
      obtain ⟨b, o, sp⟩ := a
      have hsp : sp = none := by simpa [Addr.add] using World.cell?_spot hc0
      subst hsp
      rw [add_off] at hcj
      refine ⟨b, o, rfl, World.block_lt_of_cell? w _ hcj, ?_⟩
      rw [hcj]
      have hjz : j < ss.length := by omega
      simp only [kv, List.getElem?_map, List.getElem?_take, hjl, if_true] at hj
      rw [List.getElem?_eq_getElem hjz] at hj
      injection hj with hj
      subst hj
      simp [List.getD, List.getElem?_eq_getElem hjz]
    · intro k hk
      have := hw k.data.toList.length (List.mem_cons_of_mem _ (List.mem_append_left _ (weightsAll_mem (d := .lit (.string k.data.toList)) (by simp only [strs, List.mem_map]; exact ⟨k, hk, rfl⟩) _ (by simp [DataW.weights]))))
      simpa using this
    · rw [htl]
      have h0 : (strs (H := H) (ss.take len)).length + (strs (H := H) (ss.drop len)).length = ss.length := by simp [strs]; omega
      rw [h0] at hn
      have := Nat.mul_le_mul_left ss.length hby
      omega
end
end Go.Proofs.YtjafmdngbphacaaGreatDoor
