/- The program's Equal, Truthy, TypeName. -/
import Derived.Test.YtnokmlclephjgaaCmp
set_option linter.unusedVariables false
set_option linter.unusedSimpArgs false
namespace Go.Proofs.Ytnokmlclephjgaa
open Go.RowKit
set_option maxHeartbeats 1000000 in
set_option maxRecDepth 100000 in
theorem equal_any (v u : V) (cs ds : List Value) (w : World) (h1 : Lies w (· < w.heap.size) v cs) (h2 : Lies w (· < w.heap.size) u ds) :
    Calls Try.prog 31 #[.agg cs.toArray, .agg ds.toArray] w fun e w' => e = .returned (.bool (eqV v u)) ∧ Below w.heap.size w w' := by
  have HT : Hid (Two v u cs ds w) := Lib.hid ⟨h1, h2⟩
  obtain ⟨k, n, s, ks, es⟩ := v
  obtain ⟨k', n', s', ks', es'⟩ := u
  obtain ⟨A, a, B, b, xs, rfl, _⟩ := lies_open h1
  obtain ⟨A', a', B', b', ys, rfl, _⟩ := lies_open h2
  clear h1 h2
  show Calls _ _ #[.agg #[.int .i64 k, .int .i64 n, .string s, .slice A ks.length a, .slice B es.length b], .agg #[.int .i64 k', .int .i64 n', .string s', .slice A' ks'.length a', .slice B' es'.length b']] w _
  generalize V.mk k n s ks es = v at HT ⊢
  generalize V.mk k' n' s' ks' es' = u at HT ⊢
  have q1 := Lib.hid (fun W hW => HT.out.val1 (W := W) hW)
  have q2 := Lib.hid (fun W hW => HT.out.val2 (W := W) hW)
  have q3 := Lib.hid (fun W hW => HT.out.cmp (W := W) hW)
  unfold eqV
  generalize valid v = x at q1 ⊢
  generalize valid u = y at q2 ⊢
  generalize vcmp v u = z at q3 ⊢
  clear HT
  cases x with
  | false =>
    go_enter Try.func31, Try.ntmps31
    go_wp2_with fail
    refine (q1.out _ (below2 _ _ _)).mono ?_
    rintro e1 w1 ⟨rfl, hb1⟩
    have hB1 := Lib.hid (two_step (Below.refl _ _) (hb1))
    go_wp2_with fail
    go_ret
    exact ⟨rfl, below_two hB1.out⟩
  | true =>
    cases y with
    | false =>
      go_enter Try.func31, Try.ntmps31
      go_wp2_with fail
      refine (q1.out _ (below2 _ _ _)).mono ?_
      rintro e1 w1 ⟨rfl, hb1⟩
      have hB1 := Lib.hid (two_step (Below.refl _ _) (hb1))
      have m0 := (box_two hB1.out 0).2
      have m1 := (box_two hB1.out 1).2
      have m2 := (box_two hB1.out 2).2
      have m3 := (box_two hB1.out 3).2
      have m4 := (box_two hB1.out 4).2
      simp only [List.getElem?_toArray, List.getElem?_cons_succ, List.getElem?_cons_zero] at m0 m1 m2 m3 m4
      go_wp2_with fail
      refine (q2.out _ (below_two hB1.out)).mono ?_
      rintro e2 w2 ⟨rfl, hb2⟩
      have hB2 := Lib.hid (two_step hB1.out hb2)
      go_wp2_with fail
      go_ret
      exact ⟨rfl, below_two hB2.out⟩
    | true =>
      go_enter Try.func31, Try.ntmps31
      go_wp2_with fail
      refine (q1.out _ (below2 _ _ _)).mono ?_
      rintro e1 w1 ⟨rfl, hb1⟩
      have hB1 := Lib.hid (two_step (Below.refl _ _) (hb1))
      have m0 := (box_two hB1.out 0).2
      have m1 := (box_two hB1.out 1).2
      have m2 := (box_two hB1.out 2).2
      have m3 := (box_two hB1.out 3).2
      have m4 := (box_two hB1.out 4).2
      simp only [List.getElem?_toArray, List.getElem?_cons_succ, List.getElem?_cons_zero] at m0 m1 m2 m3 m4
      go_wp2_with fail
      refine (q2.out _ (below_two hB1.out)).mono ?_
      rintro e2 w2 ⟨rfl, hb2⟩
      have hB2 := Lib.hid (two_step hB1.out hb2)
      clear m0 m1 m2 m3 m4
      have m0 := box_two hB2.out 0
      have m1 := box_two hB2.out 1
      have m2 := box_two hB2.out 2
      have m3 := box_two hB2.out 3
      have m4 := box_two hB2.out 4
      simp only [List.getElem?_toArray, List.getElem?_cons_succ, List.getElem?_cons_zero] at m0 m1 m2 m3 m4
      go_wp2_with fail
      refine (q3.out _ (below_two hB2.out)).mono ?_
      rintro e3 w3 ⟨rfl, hb3⟩
      go_wp2_with fail
      go_ret
      exact ⟨ret_bool (by rw [Bool.eq_iff_iff]; simp), chain (below_two hB2.out) hb3⟩

theorem below_one {w w' : World} {o : Obj} (hb : Below (w.heap.size + 1) (w.alloc o) w') : Below w.heap.size w w' := below_old hb
theorem one_step {w w1 w2 : World} {o : Obj} (hb : Below (w.heap.size + 1) (w.alloc o) w1) (hc : Below w1.heap.size w1 w2) : Below (w.heap.size + 1) (w.alloc o) w2 :=
  hb.trans (hc.mono (by have := hb.size; simp at this; omega))
theorem below1 (w : World) (o : Obj) : Below w.heap.size w (w.alloc o) := (Below.refl _ _).alloc (Nat.le_refl _) o
end Go.Proofs.Ytnokmlclephjgaa
