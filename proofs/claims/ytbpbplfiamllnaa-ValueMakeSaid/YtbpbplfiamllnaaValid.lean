/- ValueValid answers true for every value. -/
import Derived.Test.YtbpbplfiamllnaaSmall
import Derived.Test.YtbpbplfiamllnaaAgree2
set_option linter.unusedVariables false
set_option linter.unusedSimpArgs false
namespace Go.Proofs.Ytbpbplfiamllnaa
open Go.RowKit Go.Sort
set_option maxHeartbeats 2000000 in
set_option maxRecDepth 100000 in
theorem valueValid_walk (v : V) (cs : List Value) (w : World) (h : Lies w (· < w.heap.size) v cs) : Calls Try.prog 3 #[.agg cs.toArray] w fun e w' => e = .returned (.bool true) ∧ Below w.heap.size w w' := by
  have haw := Lib.hid (fun W => awake_any W)
  have HL := Lib.hid h
  obtain ⟨k, n, s, ks, es⟩ := v
  obtain ⟨A, a, B, b, xs, rfl, _⟩ := lies_open h
  clear h
  show Calls _ _ #[.agg #[.int .i64 k, .int .i64 n, .string s, .slice A ks.length a, .slice B es.length b]] w _
  have hsm := Lib.hid (small_any 300 [.mk k n s ks es] (some ⟨w.heap.size + 1, 0, none⟩) 1 [.int .i64 k, .int .i64 n, .string s, .slice A ks.length a, .slice B es.length b]
    ((w.alloc (.cells #[.int .i64 k, .int .i64 n, .string s, .slice A ks.length a, .slice B es.length b] 25)).alloc (.cells #[.int .i64 k, .int .i64 n, .string s, .slice A ks.length a, .slice B es.length b] 25))
    (one_row (below_lies (((Below.refl _ _).alloc (Nat.le_refl _) _).alloc (by simp) _) HL.out) (by
      have := Box.laid (w.alloc (.cells #[.int .i64 k, .int .i64 n, .string s, .slice A ks.length a, .slice B es.length b] 25)) 25 #[.int .i64 k, .int .i64 n, .string s, .slice A ks.length a, .slice B es.length b]
      simpa using this)) (by simp) (by omega) (by omega))
  generalize smallP 300 [.mk k n s ks es] = x at hsm
  go_enter Try.func3, Try.ntmps3
  go_wp2_with fail
  refine hsm.out.mono ?_
  rintro e1 w1 ⟨rfl, hb1⟩
  have hB1 := Lib.hid (chain (((Below.refl w.heap.size w).alloc (Nat.le_refl _) (.cells #[.int .i64 k, .int .i64 n, .string s, .slice A ks.length a, .slice B es.length b] 25)).alloc (by simp) (.cells #[.int .i64 k, .int .i64 n, .string s, .slice A ks.length a, .slice B es.length b] 25)) hb1)
  have hX1 := Lib.hid (((Box.laid w 25 #[.int .i64 k, .int .i64 n, .string s, .slice A ks.length a, .slice B es.length b]).alloc (.cells #[.int .i64 k, .int .i64 n, .string s, .slice A ks.length a, .slice B es.length b] 25)).below hb1 (by simp; omega))
  clear hsm hb1
  cases x with
  | false =>
    go_wp2_with fail
    refine (haw.out _).mono ?_
    rintro e2 w2 ⟨rfl, hb2⟩
    go_wp2_with fail
    go_ret
    exact ⟨rfl, chain hB1.out hb2⟩
  | true =>
    obtain ⟨t0, t1, t2, t3, t4⟩ := box5 hX1.out
    have hlt := hX1.out.lt
    have k0 := fun u : Calm w1.heap.size w1 => u.cell hlt t0
    have k1 := fun u : Calm w1.heap.size w1 => u.cell hlt t1
    have k2 := fun u : Calm w1.heap.size w1 => u.cell hlt t2
    have k3 := fun u : Calm w1.heap.size w1 => u.cell hlt t3
    have k4 := fun u : Calm w1.heap.size w1 => u.cell hlt t4
    have hl := fun u : Calm w1.heap.size w1 => below_lies u.below (below_lies hB1.out HL.out)
    have c1 := fun u : Calm w1.heap.size w1 => valid_any _ _ u.val (hl u)
    have c2 := fun u : Calm w1.heap.size w1 => rvalid_any _ _ u.val (hl u)
    have c3 := fun u : Calm w1.heap.size w1 => depth_any _ _ u.val (hl u)
    have c4 := fun u : Calm w1.heap.size w1 => rdepth_any _ _ u.val (hl u)
    have c5 := fun u : Calm w1.heap.size w1 => nodes_any _ _ u.val (hl u)
    have c6 := fun u : Calm w1.heap.size w1 => rnodes_any _ _ u.val (hl u)
    have c7 := fun u : Calm w1.heap.size w1 => truthy_any _ _ u.val (hl u)
    have c8 := fun u : Calm w1.heap.size w1 => rtruthy_any _ _ u.val (hl u)
    have c9 := fun u : Calm w1.heap.size w1 => typeName_any _ _ u.val (hl u)
    have c10 := fun u : Calm w1.heap.size w1 => rtypeName_any _ _ u.val (hl u)
    simp only [valid_same, nodes_same, depth_same, truth_same, name_same] at c2 c4 c6 c8 c10
    generalize valid (.mk k n s ks es) = q1 at c1 c2
    generalize depthP (.mk k n s ks es) = q2 at c3 c4
    generalize nodesP (.mk k n s ks es) = q3 at c5 c6
    generalize truthP (.mk k n s ks es) = q4 at c7 c8
    generalize nameP (.mk k n s ks es) = q5 at c9 c10
    have C1 := Lib.hid c1; have C2 := Lib.hid c2; have C3 := Lib.hid c3; have C4 := Lib.hid c4; have C5 := Lib.hid c5
    have C6 := Lib.hid c6; have C7 := Lib.hid c7; have C8 := Lib.hid c8; have C9 := Lib.hid c9; have C10 := Lib.hid c10
    clear c1 c2 c3 c4 c5 c6 c7 c8 c9 c10 hl t0 t1 t2 t3 t4
    go_wp2_with fail
    refine wp_region_calm (w0 := w1) (B := w1.heap.size) (by kernel_rfl) (by kernel_rfl) (Below.refl _ _) ?_
    repeat (go_big_quiet_step (first
      | (go_at_call 12; refine Calm.call (Nat.le_refl _) (C1.out _))
      | (go_at_call 13; refine Calm.call (Nat.le_refl _) (C2.out _))
      | (go_at_call 14; refine Calm.call (Nat.le_refl _) (C3.out _))
      | (go_at_call 15; refine Calm.call (Nat.le_refl _) (C4.out _))
      | (go_at_call 16; refine Calm.call (Nat.le_refl _) (C5.out _))
      | (go_at_call 17; refine Calm.call (Nat.le_refl _) (C6.out _))
      | (go_at_call 18; refine Calm.call (Nat.le_refl _) (C7.out _))
      | (go_at_call 19; refine Calm.call (Nat.le_refl _) (C8.out _))
      | (go_at_call 20; refine Calm.call (Nat.le_refl _) (C9.out _))
      | (go_at_call 21; refine Calm.call (Nat.le_refl _) (C10.out _))
      | (go_at_call 11; refine Calm.call (Nat.le_refl _) (haw.out _))))
    refine wpQuiet_nil ?_
    intro _ hw'
    obtain ⟨u, rfl⟩ := hw'
    go_wp2_with fail
    go_ret
    exact ⟨rfl, chain hB1.out u.below⟩
end Go.Proofs.Ytbpbplfiamllnaa
