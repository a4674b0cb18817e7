/- The program's Get. -/
import Derived.Test.YtgdnkankleoaoaaSearch
import Derived.Test.YtgdnkankleoaoaaMake2
set_option linter.unusedVariables false
set_option linter.unusedSimpArgs false
namespace Go.Proofs.Ytgdnkankleoaoaa
open Go.RowKit Go.Sort
/-- The same, the value in new memory. -/
def GetPostF (o : Option V) (w : World) (e : Ending) (w' : World) : Prop := Below w.heap.size w w' ∧ ∃ ds : List Value, e = .returned (.tuple #[.agg ds.toArray, .bool o.isSome]) ∧ Lies w' (fun b => w.heap.size ≤ b ∧ b < w'.heap.size) (o.getD vnull) ds
theorem get_noneF {w w' : World} {o : Option V} (ho : o = none) (hb : Below w.heap.size w w') : GetPostF o w (.returned (.tuple #[.agg #[.int .i64 0, .int .i64 0, .string ⟨#[]⟩, .slice none 0 0, .slice none 0 0], .bool false])) w' := by
  subst ho
  exact ⟨hb, [.int .i64 0, .int .i64 0, .string ⟨#[]⟩, .slice none 0 0, .slice none 0 0], rfl, lies_null _ _⟩
theorem get_someF {w w' : World} {o : Option V} {v : V} {ds : List Value} (ho : o = some v) (hb : Below w.heap.size w w') (hl : Lies w' (fun b => w.heap.size ≤ b ∧ b < w'.heap.size) v ds) : GetPostF o w (.returned (.tuple #[.agg ds.toArray, .bool true])) w' := by
  subst ho
  exact ⟨hb, ds, rfl, hl⟩
theorem getP_no {k n : Int} {s : ByteArray} {ks : List ByteArray} {es : List V} {key : ByteArray} (h : ¬ (valid (.mk k n s ks es) = true ∧ k = 6)) : getP (.mk k n s ks es) key = none := by unfold getP; simp only []; rw [if_neg h]
theorem getP_yes {k n : Int} {s : ByteArray} {ks : List ByteArray} {es : List V} {key : ByteArray} (h : valid (.mk k n s ks es) = true) (h6 : k = 6) : getP (.mk k n s ks es) key = (idxOf ks key).bind fun i => es[i]? := by unfold getP; simp only []; rw [if_pos ⟨h, h6⟩]
theorem below_drewN1 (w : World) (q : Nat) : Below w.heap.size w (w.drewN q) := below_drewN (Below.refl _ _) q
set_option maxHeartbeats 2000000 in
set_option maxRecDepth 100000 in
theorem get_fresh (v : V) (key : ByteArray) (cs : List Value) (w : World) (h : Lies w (· < w.heap.size) v cs) :
    Calls Try.prog 10 #[.agg cs.toArray, .string key] w (GetPostF (getP v key) w) := by
  have HV := Lib.hid (fun W (hW : Below w.heap.size w W) => valid_any v cs W (below_lies hW h))
  have HL := Lib.hid h
  obtain ⟨k, n, s, ks, es⟩ := v
  obtain ⟨A, a, B, b, xs, rfl, _, _, _, _, hA, hB, hLL⟩ := lies_open h
  clear h
  show Calls _ _ #[.agg #[.int .i64 k, .int .i64 n, .string s, .slice A ks.length a, .slice B es.length b], .string key] w _
  have hb2 : Hid (∀ W, Below (w.heap.size + 2) ((w.alloc (.cells #[.int .i64 k, .int .i64 n, .string s, .slice A ks.length a, .slice B es.length b] 28)).alloc (.cells #[.int .i64 0, .int .i64 0, .string ⟨#[]⟩, .slice none 0 0, .slice none 0 0] 28)) W →
      Box W (w.heap.size + 1) 28 #[.int .i64 0, .int .i64 0, .string ⟨#[]⟩, .slice none 0 0, .slice none 0 0]) := Lib.hid fun W hW => by
    have h1 := Box.laid (w.alloc (.cells #[.int .i64 k, .int .i64 n, .string s, .slice A ks.length a, .slice B es.length b] 28)) 28 #[.int .i64 0, .int .i64 0, .string ⟨#[]⟩, .slice none 0 0, .slice none 0 0]
    have e : (w.alloc (.cells #[.int .i64 k, .int .i64 n, .string s, .slice A ks.length a, .slice B es.length b] 28)).heap.size = w.heap.size + 1 := by simp
    rw [e] at h1
    exact h1.below hW (by omega)
  by_cases c6 : k = 6
  · have hq : (k != 6) = false := by simp [c6]
    cases hx : valid (.mk k n s ks es) with
    | false =>
      have ho := Lib.hid (getP_no (key := key) (show ¬ (valid (.mk k n s ks es) = true ∧ k = 6) by rw [hx]; simp))
      rw [hx] at HV
      clear hx c6
      go_enter Try.func10, Try.ntmps10
      go_wp2_with fail
      refine (HV.out _ (below2 _ _ _)).mono ?_
      rintro e1 w1 ⟨rfl, hb1⟩
      have hB1 := Lib.hid (two_step (Below.refl _ _) hb1)
      have hres := Lib.hid (hb2.out _ hB1.out)
      obtain ⟨t0, t1, t2, t3, t4⟩ := box5 hres.out
      have z0 := hres.out.free 0
      have z1 := hres.out.free 1
      have z2 := hres.out.free 2
      have z3 := hres.out.free 3
      have z4 := hres.out.free 4
      go_wp2_with fail
      refine bodyPost_ret (v := .tuple #[.agg #[.int .i64 0, .int .i64 0, .string ⟨#[]⟩, .slice none 0 0, .slice none 0 0], .bool false]) (by simp [results, Try.results10, go_sem, t0, t1, t2, t3, t4]) rfl ?_
      exact get_noneF ho.out ((((((below_two hB1.out).setCell (by simp) _).setCell (by simp) _).setCell (by simp) _).setCell (by simp) _).setCell (by simp) _)
    | true =>
      have ho := Lib.hid (getP_yes (key := key) hx c6)
      obtain ⟨hasc, hkl, hk1, he1⟩ := valid_keys hx
      have hlen := hkl c6
      have HO := Lib.hid ((valid_iff _).1 hx)
      have HE : Hid (∀ e ∈ es, Ok e) := Lib.hid (ok_elem HO.out (.inr c6))
      have HS := Lib.hid (fun W (hW : Below w.heap.size w W) => search_any A a ks key (fun b => b < w.heap.size) W (hA.move fun b hb => ⟨hb, hW.block b hb⟩) (by omega) hasc)
      rw [hx] at HV
      have HLN := Lib.hid hlen
      clear hx c6 hasc hkl hlen
      go_enter Try.func10, Try.ntmps10
      go_wp2_with fail
      refine (HV.out _ (below2 _ _ _)).mono ?_
      rintro e1 w1 ⟨rfl, hb1⟩
      have hB1 := Lib.hid (two_step (Below.refl _ _) hb1)
      have m3 := (box_two hB1.out 3).1
      have m4 := (box_two hB1.out 4).1
      simp only [List.getElem?_toArray, List.getElem?_cons_succ, List.getElem?_cons_zero] at m3 m4
      go_wp2_with fail
      refine (HS.out _ (below_two hB1.out)).mono ?_
      cases hi : idxOf ks key with
      | none =>
        have ho2 : Hid (getP (.mk k n s ks es) key = none) := Lib.hid (by rw [ho.out, hi]; rfl)
        clear hi
        rintro e2 w2 ⟨⟨p, rfl, _⟩, q, rfl⟩
        have hres := Lib.hid (hb2.out _ hB1.out)
        obtain ⟨t0, t1, t2, t3, t4⟩ := box5 hres.out
        have z0 := hres.out.free 0
        have z1 := hres.out.free 1
        have z2 := hres.out.free 2
        have z3 := hres.out.free 3
        have z4 := hres.out.free 4
        simp only [Option.isSome_none]
        go_wp2_with fail
        refine bodyPost_ret (v := .tuple #[.agg #[.int .i64 0, .int .i64 0, .string ⟨#[]⟩, .slice none 0 0, .slice none 0 0], .bool false]) (by simp [results, Try.results10, go_sem, t0, t1, t2, t3, t4]) rfl ?_
        exact get_noneF ho2.out ((((((below_drewN (below_two hB1.out) q).setCell (by simp) _).setCell (by simp) _).setCell (by simp) _).setCell (by simp) _).setCell (by simp) _)
      | some i =>
        obtain ⟨hi1, _⟩ := idxOf_some hi
        have hil : i < es.length := by have := (List.getElem?_eq_some_iff.1 hi1).1; have := HLN.out; omega
        have he : es[i]? = some es[i] := List.getElem?_eq_getElem hil
        have ho2 : Hid (getP (.mk k n s ks es) key = some es[i]) := Lib.hid (by rw [ho.out, hi]; exact he)
        have hgood := (HE.out es[i] (List.getElem_mem hil)).1
        generalize es[i] = e at he ho2 hgood
        clear hi hi1
        obtain ⟨ek, en, es', eks, ees⟩ := e
        obtain ⟨bq, oq, A1, a1, C1, c1, rfl, hbq, hle, d0, d1, d2, d3, d4⟩ := elem_open hB hLL he
        have q0 := below_cell (below_two hB1.out) hbq d0
        have q1 := below_cell (below_two hB1.out) hbq d1
        have q2 := below_cell (below_two hB1.out) hbq d2
        have q3 := below_cell (below_two hB1.out) hbq d3
        have q4 := below_cell (below_two hB1.out) hbq d4
        have hle1 := below_lies (below_two hB1.out) hle
        have HC := Lib.hid (fun q => clone_any _ _ (w1.drewN q) hgood (below_lies (below_drewN1 w1 q) hle1))
        clear d0 d1 d2 d3 d4 he hle hle1 hgood
        rintro e2 w2 ⟨⟨p, rfl, hp⟩, q, rfl⟩
        obtain rfl := hp i rfl
        clear hp
        simp only [Option.isSome_some]
        go_wp2_with fail
        refine (clone_open (w := w1) (below_drewN1 w1 q) (HC.out q)).mono ?_
        rintro e3 w3 ⟨hb3, DA, da, DC, dc, rfl, hl3⟩
        have hB2 := Lib.hid (two_step hB1.out hb3)
        have hw1 : w.heap.size + 2 ≤ w1.heap.size := by have := hB1.out.size; simp at this; omega
        have hw3 : w1.heap.size ≤ w3.heap.size := hb3.size
        have hres := Lib.hid (hb2.out _ hB2.out)
        have HL3 := Lib.hid hl3
        clear hl3 m3 m4 hb3 q0 q1 q2 q3 q4
        obtain ⟨t0, t1, t2, t3, t4⟩ := box5 hres.out
        have z0 := hres.out.free 0
        have z1 := hres.out.free 1
        have z2 := hres.out.free 2
        have z3 := hres.out.free 3
        have z4 := hres.out.free 4
        go_wp2_with fail
        refine bodyPost_ret (v := .tuple #[.agg #[.int .i64 ek, .int .i64 en, .string es', .slice DA eks.length da, .slice DC ees.length dc], .bool true]) (by simp [results, Try.results10, go_sem, t0, t1, t2, t3, t4]) rfl ?_
        refine get_someF (ds := [.int .i64 ek, .int .i64 en, .string es', .slice DA eks.length da, .slice DC ees.length dc]) ho2.out ((((((below_two hB2.out).setCell (by simp) _).setCell (by simp) _).setCell (by simp) _).setCell (by simp) _).setCell (by simp) _) ?_
        refine HL3.out.move fun b hb => ⟨⟨by have := hb.1; omega, by have := hb.2; simp [World.setCell]; omega⟩, ?_⟩
        have hb1 := hb.1
        rw [Below.heap_setCell _ _ _ _ (by simp; omega), Below.heap_setCell _ _ _ _ (by simp; omega), Below.heap_setCell _ _ _ _ (by simp; omega), Below.heap_setCell _ _ _ _ (by simp; omega), Below.heap_setCell _ _ _ _ (by simp; omega)]
  · have ho := Lib.hid (getP_no (n := n) (s := s) (ks := ks) (es := es) (key := key) (show ¬ (valid (.mk k n s ks es) = true ∧ k = 6) from fun h => c6 h.2))
    have hq : (k != 6) = true := by simp [c6]
    clear c6
    have hres := Lib.hid (hb2.out _ (Below.refl _ _))
    go_enter Try.func10, Try.ntmps10
    go_wp2_with fail
    refine bodyPost_ret (v := .tuple #[.agg #[.int .i64 0, .int .i64 0, .string ⟨#[]⟩, .slice none 0 0, .slice none 0 0], .bool false]) (by simp [results, Try.results10, go_sem]) rfl ?_
    exact get_noneF ho.out (below2 _ _ _)
end Go.Proofs.Ytgdnkankleoaoaa
