/- The reference's Compare, Equal, TypeName. -/
import Derived.Test.YtbpbplfiamllnaaRef2
import Derived.Test.YtbpbplfiamllnaaROrd
set_option linter.unusedVariables false
set_option linter.unusedSimpArgs false
namespace Go.Proofs.Ytbpbplfiamllnaa
open Go.RowKit
def cmpR (a b : V) : Int := if validR a = true then (if validR b = true then vcmp a b else 0) else 0
def eqR (a b : V) : Bool := validR a && (validR b && decide (vcmp a b = 0))
/-- What Compare and Equal lean on, at two values that lie in w. -/
structure TwoR (v u : V) (cs ds : List Value) (w : World) : Prop where
  h1 : Lies w (· < w.heap.size) v cs
  h2 : Lies w (· < w.heap.size) u ds
theorem TwoR.val1 {v u : V} {cs ds : List Value} {w W : World} (h : TwoR v u cs ds w) (hb : Below w.heap.size w W) : Calls Try.prog 13 #[.agg cs.toArray] W fun e w' => e = .returned (.bool (validR v)) ∧ Below W.heap.size W w' := rvalid_any v cs W (below_lies hb h.h1)
theorem TwoR.val2 {v u : V} {cs ds : List Value} {w W : World} (h : TwoR v u cs ds w) (hb : Below w.heap.size w W) : Calls Try.prog 13 #[.agg ds.toArray] W fun e w' => e = .returned (.bool (validR u)) ∧ Below W.heap.size W w' := rvalid_any u ds W (below_lies hb h.h2)
theorem TwoR.cmp {v u : V} {cs ds : List Value} {w W : World} (h : TwoR v u cs ds w) (hb : Below w.heap.size w W) : Calls Try.prog 46 #[.agg cs.toArray, .agg ds.toArray] W fun e w' => e = .returned (.int .i64 (vcmp v u)) ∧ Below W.heap.size W w' := order_any v u cs ds W (below_lies hb h.h1) (below_lies hb h.h2)
set_option maxHeartbeats 1000000 in
set_option maxRecDepth 100000 in
theorem rcmp_any (v u : V) (cs ds : List Value) (w : World) (h1 : Lies w (· < w.heap.size) v cs) (h2 : Lies w (· < w.heap.size) u ds) :
    Calls Try.prog 23 #[.agg cs.toArray, .agg ds.toArray] w fun e w' => e = .returned (.int .i64 (cmpR v u)) ∧ Below w.heap.size w w' := by
  have HT : Hid (TwoR v u cs ds w) := Lib.hid ⟨h1, h2⟩
  obtain ⟨k, n, s, ks, es⟩ := v
  obtain ⟨k', n', s', ks', es'⟩ := u
  obtain ⟨A, a, B, b, xs, rfl, _⟩ := lies_open h1
  obtain ⟨A', a', B', b', ys, rfl, _⟩ := lies_open h2
  clear h1 h2
  show Calls _ _ #[.agg #[.int .i64 k, .int .i64 n, .string s, .slice A ks.length a, .slice B es.length b], .agg #[.int .i64 k', .int .i64 n', .string s', .slice A' ks'.length a', .slice B' es'.length b']] w _
  generalize V.mk k n s ks es = v at HT ⊢
  generalize V.mk k' n' s' ks' es' = u at HT ⊢
  have q1 := Lib.hid (fun W hW => HT.out.val1 (W := W) hW)
  have q2 := Lib.hid (fun W hW => HT.out.val2 (W := W) hW)
  have q3 := Lib.hid (fun W hW => HT.out.cmp (W := W) hW)
  unfold cmpR
  generalize validR v = x at q1 ⊢
  generalize validR u = y at q2 ⊢
  generalize vcmp v u = z at q3 ⊢
  clear HT
  cases x with
  | false =>
    go_enter Try.func23, Try.ntmps23
    go_wp2_with fail
    refine (q1.out _ (below2 _ _ _)).mono ?_
    rintro e1 w1 ⟨rfl, hb1⟩
    have hB1 := Lib.hid (two_step (Below.refl _ _) (hb1))
    go_wp2_with fail
    go_ret
    exact ⟨rfl, below_two hB1.out⟩
  | true =>
    cases y with
    | false =>
      go_enter Try.func23, Try.ntmps23
      go_wp2_with fail
      refine (q1.out _ (below2 _ _ _)).mono ?_
      rintro e1 w1 ⟨rfl, hb1⟩
      have hB1 := Lib.hid (two_step (Below.refl _ _) (hb1))
      have m0 := (box_two hB1.out 0).2
      have m1 := (box_two hB1.out 1).2
      have m2 := (box_two hB1.out 2).2
      have m3 := (box_two hB1.out 3).2
      have m4 := (box_two hB1.out 4).2
      simp only [List.getElem?_toArray, List.getElem?_cons_succ, List.getElem?_cons_zero] at m0 m1 m2 m3 m4
      go_wp2_with fail
      refine (q2.out _ (below_two hB1.out)).mono ?_
      rintro e2 w2 ⟨rfl, hb2⟩
      have hB2 := Lib.hid (two_step hB1.out hb2)
      go_wp2_with fail
      go_ret
      exact ⟨rfl, below_two hB2.out⟩
    | true =>
      go_enter Try.func23, Try.ntmps23
      go_wp2_with fail
      refine (q1.out _ (below2 _ _ _)).mono ?_
      rintro e1 w1 ⟨rfl, hb1⟩
      have hB1 := Lib.hid (two_step (Below.refl _ _) (hb1))
      have m0 := (box_two hB1.out 0).2
      have m1 := (box_two hB1.out 1).2
      have m2 := (box_two hB1.out 2).2
      have m3 := (box_two hB1.out 3).2
      have m4 := (box_two hB1.out 4).2
      simp only [List.getElem?_toArray, List.getElem?_cons_succ, List.getElem?_cons_zero] at m0 m1 m2 m3 m4
      go_wp2_with fail
      refine (q2.out _ (below_two hB1.out)).mono ?_
      rintro e2 w2 ⟨rfl, hb2⟩
      have hB2 := Lib.hid (two_step hB1.out hb2)
      clear m0 m1 m2 m3 m4
      have m0 := box_two hB2.out 0
      have m1 := box_two hB2.out 1
      have m2 := box_two hB2.out 2
      have m3 := box_two hB2.out 3
      have m4 := box_two hB2.out 4
      simp only [List.getElem?_toArray, List.getElem?_cons_succ, List.getElem?_cons_zero] at m0 m1 m2 m3 m4
      go_wp2_with fail
      refine (q3.out _ (below_two hB2.out)).mono ?_
      rintro e3 w3 ⟨rfl, hb3⟩
      go_wp2_with fail
      go_ret
      exact ⟨rfl, chain (below_two hB2.out) hb3⟩

set_option maxHeartbeats 1000000 in
set_option maxRecDepth 100000 in
theorem requal_any (v u : V) (cs ds : List Value) (w : World) (h1 : Lies w (· < w.heap.size) v cs) (h2 : Lies w (· < w.heap.size) u ds) :
    Calls Try.prog 25 #[.agg cs.toArray, .agg ds.toArray] w fun e w' => e = .returned (.bool (eqR v u)) ∧ Below w.heap.size w w' := by
  have HT : Hid (TwoR v u cs ds w) := Lib.hid ⟨h1, h2⟩
  obtain ⟨k, n, s, ks, es⟩ := v
  obtain ⟨k', n', s', ks', es'⟩ := u
  obtain ⟨A, a, B, b, xs, rfl, _⟩ := lies_open h1
  obtain ⟨A', a', B', b', ys, rfl, _⟩ := lies_open h2
  clear h1 h2
  show Calls _ _ #[.agg #[.int .i64 k, .int .i64 n, .string s, .slice A ks.length a, .slice B es.length b], .agg #[.int .i64 k', .int .i64 n', .string s', .slice A' ks'.length a', .slice B' es'.length b']] w _
  generalize V.mk k n s ks es = v at HT ⊢
  generalize V.mk k' n' s' ks' es' = u at HT ⊢
  have q1 := Lib.hid (fun W hW => HT.out.val1 (W := W) hW)
  have q2 := Lib.hid (fun W hW => HT.out.val2 (W := W) hW)
  have q3 := Lib.hid (fun W hW => HT.out.cmp (W := W) hW)
  unfold eqR
  generalize validR v = x at q1 ⊢
  generalize validR u = y at q2 ⊢
  generalize vcmp v u = z at q3 ⊢
  clear HT
  cases x with
  | false =>
    go_enter Try.func25, Try.ntmps25
    go_wp2_with fail
    refine (q1.out _ (below2 _ _ _)).mono ?_
    rintro e1 w1 ⟨rfl, hb1⟩
    have hB1 := Lib.hid (two_step (Below.refl _ _) (hb1))
    go_wp2_with fail
    go_ret
    exact ⟨rfl, below_two hB1.out⟩
  | true =>
    cases y with
    | false =>
      go_enter Try.func25, Try.ntmps25
      go_wp2_with fail
      refine (q1.out _ (below2 _ _ _)).mono ?_
      rintro e1 w1 ⟨rfl, hb1⟩
      have hB1 := Lib.hid (two_step (Below.refl _ _) (hb1))
      have m0 := (box_two hB1.out 0).2
      have m1 := (box_two hB1.out 1).2
      have m2 := (box_two hB1.out 2).2
      have m3 := (box_two hB1.out 3).2
      have m4 := (box_two hB1.out 4).2
      simp only [List.getElem?_toArray, List.getElem?_cons_succ, List.getElem?_cons_zero] at m0 m1 m2 m3 m4
      go_wp2_with fail
      refine (q2.out _ (below_two hB1.out)).mono ?_
      rintro e2 w2 ⟨rfl, hb2⟩
      have hB2 := Lib.hid (two_step hB1.out hb2)
      go_wp2_with fail
      go_ret
      exact ⟨rfl, below_two hB2.out⟩
    | true =>
      go_enter Try.func25, Try.ntmps25
      go_wp2_with fail
      refine (q1.out _ (below2 _ _ _)).mono ?_
      rintro e1 w1 ⟨rfl, hb1⟩
      have hB1 := Lib.hid (two_step (Below.refl _ _) (hb1))
      have m0 := (box_two hB1.out 0).2
      have m1 := (box_two hB1.out 1).2
      have m2 := (box_two hB1.out 2).2
      have m3 := (box_two hB1.out 3).2
      have m4 := (box_two hB1.out 4).2
      simp only [List.getElem?_toArray, List.getElem?_cons_succ, List.getElem?_cons_zero] at m0 m1 m2 m3 m4
      go_wp2_with fail
      refine (q2.out _ (below_two hB1.out)).mono ?_
      rintro e2 w2 ⟨rfl, hb2⟩
      have hB2 := Lib.hid (two_step hB1.out hb2)
      clear m0 m1 m2 m3 m4
      have m0 := box_two hB2.out 0
      have m1 := box_two hB2.out 1
      have m2 := box_two hB2.out 2
      have m3 := box_two hB2.out 3
      have m4 := box_two hB2.out 4
      simp only [List.getElem?_toArray, List.getElem?_cons_succ, List.getElem?_cons_zero] at m0 m1 m2 m3 m4
      go_wp2_with fail
      refine (q3.out _ (below_two hB2.out)).mono ?_
      rintro e3 w3 ⟨rfl, hb3⟩
      go_wp2_with fail
      go_ret
      exact ⟨ret_bool (by rw [Bool.eq_iff_iff]; simp), chain (below_two hB2.out) hb3⟩

def nameR (v : V) : ByteArray := match v with | .mk k _ _ _ _ => if validR v = true then kindName k else ⟨#[]⟩
theorem validR_kind {k n : Int} {s : ByteArray} {ks : List ByteArray} {es : List V} (h : validR (.mk k n s ks es) = true) : k = 0 ∨ k = 1 ∨ k = 2 ∨ k = 3 ∨ k = 4 ∨ k = 5 ∨ k = 6 := by
  have h1 : rmP (.mk k n s ks es) 0 ≠ none := fun h2 => by simp [validR, h2] at h
  have h2 : fit1 k n s ks.length es.length = true := by
    cases hf : fit1 k n s ks.length es.length with
    | true => rfl
    | false => exact absurd (by rw [rmP, if_pos hf]) h1
  simp [fit1] at h2
  omega
set_option maxHeartbeats 2000000 in
set_option maxRecDepth 100000 in
theorem rtypeName_any (v : V) (cs : List Value) (w : World) (h : Lies w (· < w.heap.size) v cs) :
    Calls Try.prog 21 #[.agg cs.toArray] w fun e w' => e = .returned (.string (nameR v)) ∧ Below w.heap.size w w' := by
  have q1 := Lib.hid (fun W (hW : Below w.heap.size w W) => rvalid_any v cs W (below_lies hW h))
  obtain ⟨k, n, s, ks, es⟩ := v
  obtain ⟨A, a, B, b, xs, rfl, _⟩ := lies_open h
  clear h
  show Calls _ _ #[.agg #[.int .i64 k, .int .i64 n, .string s, .slice A ks.length a, .slice B es.length b]] w _
  have hv : Hid (nameR (.mk k n s ks es) = if validR (.mk k n s ks es) = true then kindName k else ⟨#[]⟩) := Lib.hid rfl
  have hkd : validR (.mk k n s ks es) = true → k = 0 ∨ k = 1 ∨ k = 2 ∨ k = 3 ∨ k = 4 ∨ k = 5 ∨ k = 6 := validR_kind
  generalize nameR (.mk k n s ks es) = r at hv ⊢
  generalize validR (.mk k n s ks es) = x at q1 hv hkd
  cases x with
  | false =>
    have hr := Lib.hid (hv.out.trans (if_neg (by decide)))
    clear hkd
    go_enter Try.func21, Try.ntmps21
    go_wp2_with fail
    refine (q1.out _ (below1 _ _)).mono ?_
    rintro e1 w1 ⟨rfl, hb1⟩
    go_wp2_with fail
    go_ret
    exact ⟨by rw [hr.out]; rfl, chain (below1 _ _) hb1⟩
  | true =>
    have hr := Lib.hid (hv.out.trans (if_pos rfl))
    rcases hkd rfl with rfl | rfl | rfl | rfl | rfl | rfl | rfl
    all_goals
      clear hkd hv
      go_enter Try.func21, Try.ntmps21
      go_wp2_with fail
      refine (q1.out _ (below1 _ _)).mono ?_
      rintro e1 w1 ⟨rfl, hb1⟩
      have hB1 := Lib.hid (one_step (Below.refl _ _) hb1)
      have hsz : w.heap.size < w1.heap.size := by have := hB1.out.size; simp at this; omega
      have m0 := box_cell hB1.out 0 _ rfl
      go_wp2_with fail
      go_ret
      exact ⟨by rw [hr.out]; rfl, (below_one hB1.out).alloc (by omega) _⟩
end Go.Proofs.Ytbpbplfiamllnaa
