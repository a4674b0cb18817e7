/- The program's Get. Facts for ArithMerge, plain: what a small value weighs, the elements that '-' leaves, lookups in a union. -/
import Derived.Test.YtgdnkankleoaoaaGreatDoorA38
import Derived.Test.YtgdnkankleoaoaaGreatDoorA18
import Derived.Test.YtgdnkankleoaoaaGreatDoorA40
import Derived.Test.YtgdnkankleoaoaaGreatDoorA34
import Derived.Test.YtgdnkankleoaoaaGreatDoorA15
set_option linter.unusedVariables false
set_option linter.unusedSimpArgs false
namespace Go.Proofs.YtgdnkankleoaoaaGreatDoor
open Go.RowKit Go.Sort
/-- What Get hands back. -/
def GetPost (o : Option V) (w : World) (e : Ending) (w' : World) : Prop := Below w.heap.size w w' ∧ ∃ ds : List Value, e = .returned (.tuple #[.agg ds.toArray, .bool o.isSome]) ∧ Lies w' (· < w'.heap.size) (o.getD vnull) ds
/-- The same, the value in new memory. -/
def GetPostF (o : Option V) (w : World) (e : Ending) (w' : World) : Prop := Below w.heap.size w w' ∧ ∃ ds : List Value, e = .returned (.tuple #[.agg ds.toArray, .bool o.isSome]) ∧ Lies w' (fun b => w.heap.size ≤ b ∧ b < w'.heap.size) (o.getD vnull) ds
theorem get_noneF {w w' : World} {o : Option V} (ho : o = none) (hb : Below w.heap.size w w') : GetPostF o w (.returned (.tuple #[.agg #[.int .i64 0, .int .i64 0, .string ⟨#[]⟩, .slice none 0 0, .slice none 0 0], .bool false])) w' := by
  subst ho
  exact ⟨hb, [.int .i64 0, .int .i64 0, .string ⟨#[]⟩, .slice none 0 0, .slice none 0 0], rfl, lies_null _ _⟩
theorem get_someF {w w' : World} {o : Option V} {v : V} {ds : List Value} (ho : o = some v) (hb : Below w.heap.size w w') (hl : Lies w' (fun b => w.heap.size ≤ b ∧ b < w'.heap.size) v ds) : GetPostF o w (.returned (.tuple #[.agg ds.toArray, .bool true])) w' := by
  subst ho
  exact ⟨hb, ds, rfl, hl⟩
theorem getP_no {k n : Int} {s : ByteArray} {ks : List ByteArray} {es : List V} {key : ByteArray} (h : ¬ (valid (.mk k n s ks es) = true ∧ k = 6)) : getP (.mk k n s ks es) key = none := by unfold getP; simp only []; rw [if_neg h]
theorem getP_yes {k n : Int} {s : ByteArray} {ks : List ByteArray} {es : List V} {key : ByteArray} (h : valid (.mk k n s ks es) = true) (h6 : k = 6) : getP (.mk k n s ks es) key = (idxOf ks key).bind fun i => es[i]? := by unfold getP; simp only []; rw [if_pos ⟨h, h6⟩]
theorem below_drewN1 (w : World) (q : Nat) : Below w.heap.size w (w.drewN q) := below_drewN (Below.refl _ _) q
set_option maxHeartbeats 2000000 in
set_option maxRecDepth 100000 in
theorem get_fresh (v : V) (key : ByteArray) (cs : List Value) (w : World) (h : Lies w (· < w.heap.size) v cs) :
    Calls Tryz.prog 173 #[.agg cs.toArray, .string key] w (GetPostF (getP v key) w) := by
  have HV := Lib.hid (fun W (hW : Below w.heap.size w W) => valid_any v cs W (below_lies hW h))
  have HL := Lib.hid h
  obtain ⟨k, n, s, ks, es⟩ := v
  obtain ⟨A, a, B, b, xs, rfl, _, _, _, _, hA, hB, hLL⟩ := lies_open h
  clear h
  show Calls _ _ #[.agg #[.int .i64 k, .int .i64 n, .string s, .slice A ks.length a, .slice B es.length b], .string key] w _
  have hb2 : Hid (∀ W, Below (w.heap.size + 2) ((w.alloc (.cells #[.int .i64 k, .int .i64 n, .string s, .slice A ks.length a, .slice B es.length b] 25)).alloc (.cells #[.int .i64 0, .int .i64 0, .string ⟨#[]⟩, .slice none 0 0, .slice none 0 0] 25)) W →
      Box W (w.heap.size + 1) 25 #[.int .i64 0, .int .i64 0, .string ⟨#[]⟩, .slice none 0 0, .slice none 0 0]) := Lib.hid fun W hW => by
    have h1 := Box.laid (w.alloc (.cells #[.int .i64 k, .int .i64 n, .string s, .slice A ks.length a, .slice B es.length b] 25)) 25 #[.int .i64 0, .int .i64 0, .string ⟨#[]⟩, .slice none 0 0, .slice none 0 0]
    have e : (w.alloc (.cells #[.int .i64 k, .int .i64 n, .string s, .slice A ks.length a, .slice B es.length b] 25)).heap.size = w.heap.size + 1 := by simp
    rw [e] at h1
    exact h1.below hW (by omega)
  by_cases c6 : k = 6
  · have hq : (k != 6) = false := by simp [c6]
    cases hx : valid (.mk k n s ks es) with
    | false =>
      have ho := Lib.hid (getP_no (key := key) (show ¬ (valid (.mk k n s ks es) = true ∧ k = 6) by rw [hx]; simp))
      rw [hx] at HV
      clear hx c6
      go_enter Tryz.func173, Tryz.ntmps173
      go_wp2_with fail
      refine (HV.out _ (below2 _ _ _)).mono ?_
      rintro e1 w1 ⟨rfl, hb1⟩
      have hB1 := Lib.hid (two_step (Below.refl _ _) hb1)
      have hres := Lib.hid (hb2.out _ hB1.out)
      obtain ⟨t0, t1, t2, t3, t4⟩ := box5 hres.out
      have z0 := hres.out.free 0
      have z1 := hres.out.free 1
      have z2 := hres.out.free 2
      have z3 := hres.out.free 3
      have z4 := hres.out.free 4
      go_wp2_with fail
      refine bodyPost_ret (v := .tuple #[.agg #[.int .i64 0, .int .i64 0, .string ⟨#[]⟩, .slice none 0 0, .slice none 0 0], .bool false]) (by simp [results, Tryz.results173, go_sem, t0, t1, t2, t3, t4]) rfl ?_
      exact get_noneF ho.out ((((((below_two hB1.out).setCell (by simp) _).setCell (by simp) _).setCell (by simp) _).setCell (by simp) _).setCell (by simp) _)
    | true =>
      have ho := Lib.hid (getP_yes (key := key) hx c6)
      obtain ⟨hasc, hkl, hk1, he1⟩ := valid_keys hx
      have hlen := hkl c6
      have HO := Lib.hid ((valid_iff _).1 hx)
      have HE : Hid (∀ e ∈ es, Ok e) := Lib.hid (ok_elem HO.out (.inr c6))
      have HS := Lib.hid (fun W (hW : Below w.heap.size w W) => search_any A a ks key (fun b => b < w.heap.size) W (hA.move fun b hb => ⟨hb, hW.block b hb⟩) (by omega) hasc)
      rw [hx] at HV
      have HLN := Lib.hid hlen
      clear hx c6 hasc hkl hlen
      go_enter Tryz.func173, Tryz.ntmps173
      go_wp2_with fail
      refine (HV.out _ (below2 _ _ _)).mono ?_
      rintro e1 w1 ⟨rfl, hb1⟩
      have hB1 := Lib.hid (two_step (Below.refl _ _) hb1)
      have m3 := (box_two hB1.out 3).1
      have m4 := (box_two hB1.out 4).1
      simp only [List.getElem?_toArray, List.getElem?_cons_succ, List.getElem?_cons_zero] at m3 m4
      go_wp2_with fail
      refine (HS.out _ (below_two hB1.out)).mono ?_
      cases hi : idxOf ks key with
      | none =>
        have ho2 : Hid (getP (.mk k n s ks es) key = none) := Lib.hid (by rw [ho.out, hi]; rfl)
        clear hi
        rintro e2 w2 ⟨⟨p, rfl, _⟩, q, rfl⟩
        have hres := Lib.hid (hb2.out _ hB1.out)
        obtain ⟨t0, t1, t2, t3, t4⟩ := box5 hres.out
        have z0 := hres.out.free 0
        have z1 := hres.out.free 1
        have z2 := hres.out.free 2
        have z3 := hres.out.free 3
        have z4 := hres.out.free 4
        simp only [Option.isSome_none]
        go_wp2_with fail
        refine bodyPost_ret (v := .tuple #[.agg #[.int .i64 0, .int .i64 0, .string ⟨#[]⟩, .slice none 0 0, .slice none 0 0], .bool false]) (by simp [results, Tryz.results173, go_sem, t0, t1, t2, t3, t4]) rfl ?_
        exact get_noneF ho2.out ((((((below_drewN (below_two hB1.out) q).setCell (by simp) _).setCell (by simp) _).setCell (by simp) _).setCell (by simp) _).setCell (by simp) _)
      | some i =>
        obtain ⟨hi1, _⟩ := idxOf_some hi
        have hil : i < es.length := by have := (List.getElem?_eq_some_iff.1 hi1).1; have := HLN.out; omega
        have he : es[i]? = some es[i] := List.getElem?_eq_getElem hil
        have ho2 : Hid (getP (.mk k n s ks es) key = some es[i]) := Lib.hid (by rw [ho.out, hi]; exact he)
        have hgood := (HE.out es[i] (List.getElem_mem hil)).1
        generalize es[i] = e at he ho2 hgood
        clear hi hi1
        obtain ⟨ek, en, es', eks, ees⟩ := e
        obtain ⟨bq, oq, A1, a1, C1, c1, rfl, hbq, hle, d0, d1, d2, d3, d4⟩ := elem_open hB hLL he
        have q0 := below_cell (below_two hB1.out) hbq d0
        have q1 := below_cell (below_two hB1.out) hbq d1
        have q2 := below_cell (below_two hB1.out) hbq d2
        have q3 := below_cell (below_two hB1.out) hbq d3
        have q4 := below_cell (below_two hB1.out) hbq d4
        have hle1 := below_lies (below_two hB1.out) hle
        have HC := Lib.hid (fun q => clone_any _ _ (w1.drewN q) hgood (below_lies (below_drewN1 w1 q) hle1))
        clear d0 d1 d2 d3 d4 he hle hle1 hgood
        rintro e2 w2 ⟨⟨p, rfl, hp⟩, q, rfl⟩
        obtain rfl := hp i rfl
        clear hp
        simp only [Option.isSome_some]
        go_wp2_with fail
        refine (clone_open (w := w1) (below_drewN1 w1 q) (HC.out q)).mono ?_
        rintro e3 w3 ⟨hb3, DA, da, DC, dc, rfl, hl3⟩
        have hB2 := Lib.hid (two_step hB1.out hb3)
        have hw1 : w.heap.size + 2 ≤ w1.heap.size := by have := hB1.out.size; simp at this; omega
        have hw3 : w1.heap.size ≤ w3.heap.size := hb3.size
        have hres := Lib.hid (hb2.out _ hB2.out)
        have HL3 := Lib.hid hl3
        clear hl3 m3 m4 hb3 q0 q1 q2 q3 q4
        obtain ⟨t0, t1, t2, t3, t4⟩ := box5 hres.out
        have z0 := hres.out.free 0
        have z1 := hres.out.free 1
        have z2 := hres.out.free 2
        have z3 := hres.out.free 3
        have z4 := hres.out.free 4
        go_wp2_with fail
        refine bodyPost_ret (v := .tuple #[.agg #[.int .i64 ek, .int .i64 en, .string es', .slice DA eks.length da, .slice DC ees.length dc], .bool true]) (by simp [results, Tryz.results173, go_sem, t0, t1, t2, t3, t4]) rfl ?_
        refine get_someF (ds := [.int .i64 ek, .int .i64 en, .string es', .slice DA eks.length da, .slice DC ees.length dc]) ho2.out ((((((below_two hB2.out).setCell (by simp) _).setCell (by simp) _).setCell (by simp) _).setCell (by simp) _).setCell (by simp) _) ?_
        refine HL3.out.move fun b hb => ⟨⟨by have := hb.1; omega, by have := hb.2; simp [World.setCell]; omega⟩, ?_⟩
        have hb1 := hb.1
        rw [Below.heap_setCell _ _ _ _ (by simp; omega), Below.heap_setCell _ _ _ _ (by simp; omega), Below.heap_setCell _ _ _ _ (by simp; omega), Below.heap_setCell _ _ _ _ (by simp; omega), Below.heap_setCell _ _ _ _ (by simp; omega)]
  · have ho := Lib.hid (getP_no (n := n) (s := s) (ks := ks) (es := es) (key := key) (show ¬ (valid (.mk k n s ks es) = true ∧ k = 6) from fun h => c6 h.2))
    have hq : (k != 6) = true := by simp [c6]
    clear c6
    have hres := Lib.hid (hb2.out _ (Below.refl _ _))
    go_enter Tryz.func173, Tryz.ntmps173
    go_wp2_with fail
    refine bodyPost_ret (v := .tuple #[.agg #[.int .i64 0, .int .i64 0, .string ⟨#[]⟩, .slice none 0 0, .slice none 0 0], .bool false]) (by simp [results, Tryz.results173, go_sem]) rfl ?_
    exact get_noneF ho.out (below2 _ _ _)
theorem get_any (v : V) (key : ByteArray) (cs : List Value) (w : World) (h : Lies w (· < w.heap.size) v cs) :
    Calls Tryz.prog 173 #[.agg cs.toArray, .string key] w (GetPost (getP v key) w) :=
  (get_fresh v key cs w h).mono fun e w' ⟨hb, ds, he, hl⟩ => ⟨hb, ds, he, hl.move fun b hb => ⟨hb.2, rfl⟩⟩
end Go.Proofs.YtgdnkankleoaoaaGreatDoor
namespace Go.Proofs.YtgdnkankleoaoaaGreatDoor
theorem cntK_ge : ∀ (ks : List ByteArray) (m n : Int), n ≤ cntK ks m n ∧ (cntK ks m n ≤ m → n + (kb ks : Int) ≤ cntK ks m n)
  | [], m, n => by rw [cntK, kb]; exact ⟨Int.le_refl _, fun _ => by omega⟩
  | x :: ks, m, n => by
    rw [cntK, kb]
    by_cases h : n ≤ m
    · rw [if_pos h]
      obtain ⟨h1, h2⟩ := cntK_ge ks m (n + (1 + x.size))
      refine ⟨by omega, fun h3 => ?_⟩
      have := h2 h3
      omega
    · rw [if_neg h]
      exact ⟨Int.le_refl _, fun h3 => by omega⟩
theorem cntL_ge (es : List V) (ih : ∀ e ∈ es, ∀ m, 0 ≤ cnt e m ∧ (cnt e m ≤ m → (e.sz : Int) + (vbyt e : Int) ≤ cnt e m)) : ∀ (m n : Int), n ≤ cntL es m n ∧ (cntL es m n ≤ m → n + (V.szL es : Int) + (vbytL es : Int) ≤ cntL es m n) := by
  induction es with
  | nil => intro m n; rw [cntL, V.szL, vbytL]; exact ⟨Int.le_refl _, fun _ => by omega⟩
  | cons e r ihr =>
    intro m n
    rw [cntL, V.szL, vbytL]
    by_cases h : n ≤ m
    · rw [if_pos h]
      obtain ⟨a1, a2⟩ := ihr (fun x hx => ih x (by simp [hx])) m (n + cnt e (m - n))
      obtain ⟨b1, b2⟩ := ih e (by simp) (m - n)
      refine ⟨by omega, fun h3 => ?_⟩
      have h4 := a2 h3
      have h5 := b2 (by omega)
      omega
    · rw [if_neg h]
      exact ⟨Int.le_refl _, fun h3 => by omega⟩
theorem cnt_ge : ∀ (v : V) (m : Int), 0 ≤ cnt v m ∧ (cnt v m ≤ m → (v.sz : Int) + (vbyt v : Int) ≤ cnt v m) := by
  refine V.ind fun k n s ks es ih m => ?_
  rw [cnt, V.sz, vbyt]
  obtain ⟨a1, a2⟩ := cntK_ge ks m (1 + s.size)
  obtain ⟨b1, b2⟩ := cntL_ge es ih m (cntK ks m (1 + s.size))
  refine ⟨by omega, fun h => ?_⟩
  have h1 := b2 h
  have h2 := a2 (by omega)
  omega
/-- What two small values weigh. -/
theorem small_two {v u : V} (h : smallP 100 [v, u] = true) : v.sz + vbyt v ≤ 100 ∧ u.sz + vbyt u ≤ 100 := by
  unfold smallP at h
  simp only [List.all_cons, List.all_nil, Bool.and_true, Bool.and_eq_true, decide_eq_true_eq] at h
  have h1 := (cnt_ge v 100).2 h.1
  have h2 := (cnt_ge u 100).2 h.2
  omega
theorem goodL_of {es : List V} (h : ∀ e ∈ es, good e = true) : goodL es = true := by
  induction es with
  | nil => rw [goodL]
  | cons e r ih => rw [goodL, h e (by simp), ih fun x hx => h x (by simp [hx])]; rfl
theorem dep_le_of {es : List V} {m : Nat} (h : ∀ e ∈ es, dep e ≤ m) : depL es ≤ m := by
  induction es with
  | nil => rw [depL]; omega
  | cons e r ih =>
    rw [depL]
    have h1 := h e (by simp)
    have h2 := ih fun x hx => h x (by simp [hx])
    omega
theorem dep_memL {es : List V} {e : V} (h : e ∈ es) : dep e ≤ depL es := by
  induction es with
  | nil => cases h
  | cons x r ih =>
    rw [depL]
    rcases List.mem_cons.1 h with rfl | h
    · omega
    · have := ih h; omega
theorem sz_filter (p : V → Bool) : ∀ es : List V, V.szL (es.filter p) ≤ V.szL es ∧ vbytL (es.filter p) ≤ vbytL es
  | [] => by simp
  | e :: r => by
    obtain ⟨h1, h2⟩ := sz_filter p r
    rw [List.filter_cons]
    by_cases h : p e = true
    · rw [if_pos h, V.szL, V.szL, vbytL, vbytL]; omega
    · rw [if_neg h, V.szL, vbytL]; omega
/-- An array of some of the elements of a valid one is valid. -/
theorem valid_filter {n : Int} {s : ByteArray} {ks : List ByteArray} {es : List V} (h : valid (.mk 5 n s ks es) = true) (p : V → Bool) : valid (arrV (es.filter p)) = true := by
  rw [valid_iff] at h ⊢
  obtain ⟨h0, h1, h2, h3⟩ := h
  rw [good] at h0
  simp only [Bool.and_eq_true, decide_eq_true_eq] at h0
  obtain ⟨_, _, _, h5, _, h6⟩ := h0
  rw [dep] at h1
  rw [V.sz] at h2
  rw [vbyt] at h3
  have hl := List.length_filter_le p es
  obtain ⟨f1, f2⟩ := sz_filter p es
  unfold arrV
  refine ⟨?_, ?_, ?_, ?_⟩
  · rw [good, goodL_of fun e he => goodL_mem h6 (List.mem_filter.1 he).1]
    have e1 : fits 5 0 ⟨#[]⟩ ([] : List ByteArray).length (es.filter p).length = true := rfl
    have e2 : keysOk none ([] : List ByteArray) = true := rfl
    rw [e1, e2, decide_eq_true (show (es.filter p).length ≤ 1024 by omega)]
    decide +kernel
  · rw [dep]
    simp only [true_or, if_true] at h1 ⊢
    have := dep_le_of (es := es.filter p) (m := depL es) fun e he => dep_memL (List.mem_filter.1 he).1
    omega
  · rw [V.sz]; omega
  · rw [vbyt]
    have : kb ([] : List ByteArray) = 0 := rfl
    have e0 : (⟨#[]⟩ : ByteArray).size = 0 := rfl
    omega
theorem putP_sum (f : ByteArray × V → Nat) (k : ByteArray) (x : V) : ∀ ps : PL, ((putP ps k x).map f).sum ≤ (ps.map f).sum + f (k, x)
  | [] => by simp [putP]
  | (y, v) :: r => by
    rw [putP]
    have ih := putP_sum f k x r
    split
    · simp only [List.map_cons, List.sum_cons]; omega
    · split
      · simp only [List.map_cons, List.sum_cons]; omega
      · simp only [List.map_cons, List.sum_cons]; omega
theorem putL_sum (f : ByteArray × V → Nat) : ∀ (qs ps : PL), ((putL ps qs).map f).sum ≤ (ps.map f).sum + (qs.map f).sum
  | [], ps => by simp [putL]
  | (k, x) :: r, ps => by
    have h1 := putL_sum f r (putP ps k x)
    have h2 := putP_sum f k x ps
    show ((putL (putP ps k x) r).map f).sum ≤ _
    simp only [List.map_cons, List.sum_cons]
    omega
theorem putL_of {p : ByteArray × V} : ∀ (qs ps : PL), p ∈ putL ps qs → p ∈ ps ∨ p ∈ qs
  | [], ps, h => .inl h
  | (k, x) :: r, ps, h => by
    rcases putL_of r (putP ps k x) h with h | h
    · rcases putP_mem h with rfl | h
      · exact .inr (by simp)
      · exact .inl h
    · exact .inr (by simp [h])
theorem szL_sum : ∀ ps : PL, V.szL (ps.map Prod.snd) = (ps.map fun p => p.2.sz).sum
  | [] => rfl
  | p :: r => by rw [List.map_cons, V.szL, szL_sum r]; rfl
theorem byt_sum : ∀ ps : PL, kb (ps.map Prod.fst) + vbytL (ps.map Prod.snd) = (ps.map fun p => p.1.size + vbyt p.2).sum
  | [] => rfl
  | p :: r => by
    have := byt_sum r
    rw [List.map_cons, List.map_cons, kb, vbytL, List.map_cons, List.sum_cons]
    omega
theorem len_szL : ∀ es : List V, es.length ≤ V.szL es
  | [] => by simp
  | e :: r => by
    have := len_szL r
    rw [V.szL, List.length_cons]
    have : 1 ≤ e.sz := by obtain ⟨k, n, s, ks, es⟩ := e; rw [V.sz]; omega
    omega
theorem keysOk_of : ∀ {ks : List ByteArray} {p : Option ByteArray}, Asc ks → (∀ k ∈ ks, keyOk k = true) → (∀ q, p = some q → ∀ k ∈ ks, scmp q k < 0) → keysOk p ks = true
  | [], p, _, _, _ => by cases p <;> rfl
  | x :: r, p, ha, hk, hp => by
    have hr : keysOk (some x) r = true := keysOk_of (List.pairwise_cons.1 ha).2 (fun k h => hk k (by simp [h])) (fun q e k h => by injection e with e; subst e; exact (List.pairwise_cons.1 ha).1 k h)
    cases p with
    | none => rw [keysOk, hk x (by simp), hr]; rfl
    | some q => rw [keysOk, hk x (by simp), hr, decide_eq_true (hp q rfl x (by simp))]; rfl
theorem keyOk_mem : ∀ {ks : List ByteArray} {p : Option ByteArray}, keysOk p ks = true → ∀ k ∈ ks, keyOk k = true
  | x :: r, p, h, k, hk => by
    have hx : keyOk x = true ∧ keysOk (some x) r = true := by
      cases p with
      | none => rw [keysOk] at h; simpa using h
      | some q => rw [keysOk] at h; simp only [Bool.and_eq_true] at h; exact ⟨h.1, h.2.2⟩
    rcases List.mem_cons.1 hk with rfl | hk
    · exact hx.1
    · exact keyOk_mem hx.2 k hk
/-- The parts of a valid object. -/
structure ObjOk (ks : List ByteArray) (es : List V) : Prop where
  len : ks.length = es.length
  asc : Asc ks
  keys : ∀ k ∈ ks, keyOk k = true
  els : ∀ e ∈ es, good e = true ∧ dep e ≤ 31
theorem objOk_of {n : Int} {s : ByteArray} {ks : List ByteArray} {es : List V} (h : valid (.mk 6 n s ks es) = true) : ObjOk ks es := by
  have hk := valid_keys h
  have hp := valid_parts h
  have h' := (valid_iff _).1 h
  obtain ⟨h0, h1, _, _⟩ := h'
  rw [good] at h0
  simp only [Bool.and_eq_true, decide_eq_true_eq] at h0
  rw [dep] at h1
  simp only [or_true, if_true] at h1
  exact ⟨hk.2.1 rfl, hk.1, keyOk_mem hp.2.2.2, fun e he => ⟨goodL_mem h0.2.2.2.2.2 he, by have := dep_memL he; omega⟩⟩
theorem zip_memE {ks : List ByteArray} {es : List V} {p : ByteArray × V} (h : p ∈ ks.zip es) : p.1 ∈ ks ∧ p.2 ∈ es := by
  obtain ⟨a, b⟩ := p
  exact ⟨(List.of_mem_zip h).1, (List.of_mem_zip h).2⟩
theorem asc_keys {ps : PL} (h : PAsc ps) : Asc (ps.map Prod.fst) := by
  unfold Asc
  rw [List.pairwise_map]
  exact h
/-- The union of two small valid objects is valid. -/
theorem union_valid {n n2 : Int} {s s2 : ByteArray} {ks ks2 : List ByteArray} {es es2 : List V} (h : valid (.mk 6 n s ks es) = true) (h' : valid (.mk 6 n2 s2 ks2 es2) = true)
    (hz : (V.mk 6 n s ks es).sz + vbyt (.mk 6 n s ks es) ≤ 100) (hz2 : (V.mk 6 n2 s2 ks2 es2).sz + vbyt (.mk 6 n2 s2 ks2 es2) ≤ 100) : valid (objL (putL (ks.zip es) (ks2.zip es2))) = true := by
  have o1 := objOk_of h
  have o2 := objOk_of h'
  rw [V.sz, vbyt] at hz hz2
  have z1 := szL_sum (ks.zip es)
  have z2 := szL_sum (ks2.zip es2)
  have z3 := putL_sum (fun p => p.2.sz) (ks2.zip es2) (ks.zip es)
  have y1 := byt_sum (ks.zip es)
  have y2 := byt_sum (ks2.zip es2)
  have y3 := putL_sum (fun p => p.1.size + vbyt p.2) (ks2.zip es2) (ks.zip es)
  have e1 := o1.len
  have e2 := o2.len
  rw [List.map_snd_zip (by omega)] at z1 z2 y1 y2
  rw [List.map_fst_zip (by omega)] at y1 y2
  have hps := putL_asc (prs_asc h) (ks2.zip es2)
  have hmem : ∀ p ∈ putL (ks.zip es) (ks2.zip es2), keyOk p.1 = true ∧ good p.2 = true ∧ dep p.2 ≤ 31 := by
    intro p hp
    rcases putL_of _ _ hp with hp | hp
    · exact ⟨o1.keys _ (zip_memE hp).1, o1.els _ (zip_memE hp).2⟩
    · exact ⟨o2.keys _ (zip_memE hp).1, o2.els _ (zip_memE hp).2⟩
  change PAsc (putL (ks.zip es) (ks2.zip es2)) at hps
  generalize putL (ks.zip es) (ks2.zip es2) = ps at *
  rw [← szL_sum] at z3
  rw [← byt_sum] at y3
  have hl := len_szL (ps.map Prod.snd)
  rw [valid_iff]
  unfold objL
  refine ⟨?_, ?_, ?_, ?_⟩
  · rw [good, goodL_of fun e he => by obtain ⟨p, hp, rfl⟩ := List.mem_map.1 he; exact (hmem p hp).2.1]
    rw [keysOk_of (asc_keys hps) (fun k hk => by obtain ⟨p, hp, rfl⟩ := List.mem_map.1 hk; exact (hmem p hp).1) (fun q e => by cases e)]
    rw [decide_eq_true (show (ps.map Prod.snd).length ≤ 1024 by omega)]
    have e3 : fits 6 0 ⟨#[]⟩ (ps.map Prod.fst).length (ps.map Prod.snd).length = true := by
      rw [List.length_map, List.length_map]
      simp [fits]
      rfl
    rw [e3]
    decide +kernel
  · rw [dep]
    simp only [or_true, if_true]
    have := dep_le_of (es := ps.map Prod.snd) (m := 31) fun e he => by obtain ⟨p, hp, rfl⟩ := List.mem_map.1 he; exact (hmem p hp).2.2
    omega
  · rw [V.sz]; omega
  · rw [vbyt]
    have e0 : (⟨#[]⟩ : ByteArray).size = 0 := rfl
    omega
theorem look_zip : ∀ {ks : List ByteArray} {es : List V} {k : ByteArray}, ks.length = es.length → look (ks.zip es) k = (idxOf ks k).bind fun i => es[i]?
  | [], es, k, h => by simp [look, idxOf]
  | x :: r, [], k, h => by simp at h
  | x :: r, e :: q, k, h => by
    rw [List.zip_cons_cons, look, idxOf]
    by_cases hx : x = k
    · rw [if_pos hx, if_pos hx]; rfl
    · rw [if_neg hx, if_neg hx, look_zip (by simpa using h)]
      cases idxOf r k <;> simp
theorem getP_look {n : Int} {s : ByteArray} {ks : List ByteArray} {es : List V} {k : ByteArray} (h : valid (.mk 6 n s ks es) = true) : getP (.mk 6 n s ks es) k = look (ks.zip es) k := by
  rw [look_zip ((valid_keys h).2.1 rfl), getP_yes h rfl]
theorem zip_parts : ∀ ps : PL, (ps.map Prod.fst).zip (ps.map Prod.snd) = ps
  | [] => rfl
  | p :: r => by rw [List.map_cons, List.map_cons, List.zip_cons_cons, zip_parts r]
theorem getP_objL {ps : PL} {k : ByteArray} (h : valid (objL ps) = true) : getP (objL ps) k = look ps k := by
  unfold objL at h ⊢
  rw [getP_look h, zip_parts]
theorem look_at {ks : List ByteArray} {es : List V} {k : ByteArray} {e : V} {i : Nat} (ha : Asc ks) (hl : ks.length = es.length) (hk : ks[i]? = some k) (he : es[i]? = some e) : look (ks.zip es) k = some e := by
  rw [look_zip hl, idx_self ha hk]
  exact he
/-- What the lookups in the union of two objects find. -/
structure UnionAt (S B : V) (ks : List ByteArray) (es : List V) (ks2 : List ByteArray) (es2 : List V) : Prop where
  len : ks.length = es.length
  len2 : ks2.length = es2.length
  right : ∀ (i : Nat) (k : ByteArray) (e : V), ks2[i]? = some k → es2[i]? = some e → getP S k = some e
  left : ∀ (i : Nat) (k : ByteArray) (e : V), ks[i]? = some k → es[i]? = some e → ∃ x, getP S k = some x ∧ (getP B k = none → x = e)
theorem union_at {n n2 : Int} {s s2 : ByteArray} {ks ks2 : List ByteArray} {es es2 : List V} (h : valid (.mk 6 n s ks es) = true) (h' : valid (.mk 6 n2 s2 ks2 es2) = true)
    (hv : valid (objL (putL (ks.zip es) (ks2.zip es2))) = true) : UnionAt (objL (putL (ks.zip es) (ks2.zip es2))) (.mk 6 n2 s2 ks2 es2) ks es ks2 es2 := by
  have o1 := objOk_of h
  have o2 := objOk_of h'
  have hlk : ∀ k, getP (objL (putL (ks.zip es) (ks2.zip es2))) k = (look (ks2.zip es2) k).or (look (ks.zip es) k) := by
    intro k
    rw [getP_objL hv, putL_look (show PAsc (ks.zip es) from prs_asc h) k]
    rw [lastP_asc k (show PAsc (ks2.zip es2) from prs_asc h')]
  refine ⟨o1.len, o2.len, fun i k e hk he => ?_, fun i k e hk he => ?_⟩
  · rw [hlk, look_at o2.asc o2.len hk he]; rfl
  · rw [hlk, look_at o1.asc o1.len hk he, getP_look h']
    cases look (ks2.zip es2) k with
    | none => exact ⟨e, rfl, fun _ => rfl⟩
    | some x => exact ⟨x, rfl, fun h => by cases h⟩
/-- The sum of two small valid objects. -/
theorem sum_objs {n n2 : Int} {s s2 : ByteArray} {ks ks2 : List ByteArray} {es es2 : List V} (h : valid (.mk 6 n s ks es) = true) (h' : valid (.mk 6 n2 s2 ks2 es2) = true) (hs : smallP 100 [.mk 6 n s ks es, .mk 6 n2 s2 ks2 es2] = true) :
    ∃ S, sumF (.mk 6 n s ks es) (.mk 6 n2 s2 ks2 es2) = (S, 0) ∧ UnionAt S (.mk 6 n2 s2 ks2 es2) ks es ks2 es2 := by
  obtain ⟨z1, z2⟩ := small_two hs
  have hv := union_valid h h' z1 z2
  refine ⟨_, ?_, union_at h h' hv⟩
  rw [sumF_ok h h']
  show lim (objL (putL (ks.zip es) (ks2.zip es2))) = _
  unfold lim
  rw [finV_ok hv, finE_ok hv]
/-- Whether an element is among others. -/
def inB (es : List V) (x : V) : Bool := es.any fun u => eqV x u
theorem inB_eq {es : List V} {x : V} (h : es.all valid = true) (hx : valid x = true) : inB es x = es.any fun u => decide (vcmp u x = 0) := by
  unfold inB
  induction es with
  | nil => rfl
  | cons e r ih =>
    rw [List.all_cons, Bool.and_eq_true] at h
    rw [List.any_cons, List.any_cons, ih h.2]
    congr 1
    unfold eqV
    rw [hx, h.1, Bool.true_and, Bool.true_and]
    have e1 := vcmp_zero x e
    have e2 := vcmp_zero e x
    by_cases hc : x = e
    · rw [decide_eq_true (e1.2 hc), decide_eq_true (e2.2 hc.symm)]
    · rw [decide_eq_false (fun q => hc (e1.1 q)), decide_eq_false (fun q => hc (e2.1 q).symm)]
theorem inB_step {es : List V} {x u : V} {i : Nat} (hu : es[i]? = some u) : inB (es.take (i + 1)) x = (inB (es.take i) x || eqV x u) := by
  obtain ⟨hl, rfl⟩ := List.getElem?_eq_some_iff.1 hu
  unfold inB
  rw [List.take_add_one, List.getElem?_eq_getElem hl, List.any_append]
  simp only [Option.toList_some, List.any_cons, List.any_nil, Bool.or_false]
/-- How many of the first i elements are left. -/
def left (es gs : List V) (i : Nat) : Nat := ((es.take i).filter fun v => !inB gs v).length
theorem left_in {es gs : List V} {x : V} {i : Nat} (hx : es[i]? = some x) (h : inB gs x = true) : left es gs (i + 1) = left es gs i := by
  obtain ⟨hl, rfl⟩ := List.getElem?_eq_some_iff.1 hx
  unfold left
  rw [List.take_add_one, List.getElem?_eq_getElem hl, List.filter_append]
  simp [h]
theorem left_out {es gs : List V} {x : V} {i : Nat} (hx : es[i]? = some x) (h : inB gs x = false) : left es gs (i + 1) = left es gs i + 1 := by
  obtain ⟨hl, rfl⟩ := List.getElem?_eq_some_iff.1 hx
  unfold left
  rw [List.take_add_one, List.getElem?_eq_getElem hl, List.filter_append]
  simp [h]
theorem left_at {es gs : List V} {x : V} {i : Nat} (hx : es[i]? = some x) (h : inB gs x = false) : (es.filter fun v => !inB gs v)[left es gs i]? = some x := by
  obtain ⟨hl, rfl⟩ := List.getElem?_eq_some_iff.1 hx
  unfold left
  have hq : ((es.take i ++ es.drop i).filter fun v => !inB gs v) = ((es.take i).filter fun v => !inB gs v) ++ (es[i] :: ((es.drop (i + 1)).filter fun v => !inB gs v)) := by
    rw [List.filter_append, List.drop_eq_getElem_cons hl, List.filter_cons, if_pos (by simp [h])]
  rw [List.take_append_drop] at hq
  rw [hq, List.getElem?_append_right (Nat.le_refl _), Nat.sub_self]
  rfl
theorem left_end (es gs : List V) : left es gs es.length = (es.filter fun v => !inB gs v).length := by unfold left; rw [List.take_length]
theorem left_le (es gs : List V) (i : Nat) : left es gs i ≤ i := by
  unfold left
  have := List.length_filter_le (fun v => !inB gs v) (es.take i)
  simp at this
  simp
  omega
/-- The difference of two valid arrays. -/
theorem sub_arrs {n n2 : Int} {s s2 : ByteArray} {ks ks2 : List ByteArray} {es es2 : List V} (h : valid (.mk 5 n s ks es) = true) (h' : valid (.mk 5 n2 s2 ks2 es2) = true) :
    subR (.mk 5 n s ks es) (.mk 5 n2 s2 ks2 es2) = (arrV (es.filter fun v => !inB es2 v), 0) := by
  have hv := valid_filter h fun v => !inB es2 v
  have he : minus es es2 = es.filter fun v => !inB es2 v := by
    unfold minus
    refine List.filter_congr fun x hx => ?_
    have h1 := valid_elems h
    rw [List.all_eq_true] at h1
    rw [inB_eq (valid_elems h') (h1 x hx)]
  show (if (5 : Int) = 3 ∧ (5 : Int) = 3 then (numV (Go.RowKit.wrap64 (n - n2)), 0) else if (5 : Int) = 5 ∧ (5 : Int) = 5 then lim (arrV (minus es es2)) else (vnull, 12)) = _
  rw [if_neg (by omega), if_pos ⟨rfl, rfl⟩, he]
  unfold lim
  rw [finV_ok hv, finE_ok hv]
end Go.Proofs.YtgdnkankleoaoaaGreatDoor
