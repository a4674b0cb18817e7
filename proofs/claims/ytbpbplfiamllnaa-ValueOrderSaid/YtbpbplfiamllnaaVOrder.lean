/- ValueOrder answers true for every three values. -/
import Derived.Test.YtbpbplfiamllnaaVOrd
import Derived.Test.YtbpbplfiamllnaaSmall
import Derived.Test.YtbpbplfiamllnaaAgree2
set_option linter.unusedVariables false
set_option linter.unusedSimpArgs false
namespace Go.Proofs.Ytbpbplfiamllnaa
open Go.RowKit Go.Sort
/-- Three values in three boxes, of which nothing has turned. -/
structure Abc (w0 : World) (n : Nat) (v u t : V) (c1 c2 c3 : List Value) (w : World) : Prop where
  below : Below w0.heap.size w0 w
  x : Box w n 25 c1.toArray
  y : Box w (n + 1) 25 c2.toArray
  z : Box w (n + 2) 25 c3.toArray
  l1 : Lies w (· < w.heap.size) v c1
  l2 : Lies w (· < w.heap.size) u c2
  l3 : Lies w (· < w.heap.size) t c3
theorem Abc.next {w0 w w' : World} {n : Nat} {v u t : V} {c1 c2 c3 : List Value} (h : Abc w0 n v u t c1 c2 c3 w) (hb : Below w.heap.size w w') : Abc w0 n v u t c1 c2 c3 w' :=
  ⟨chain h.below hb, h.x.below hb h.x.lt, h.y.below hb h.y.lt, h.z.below hb h.z.lt, below_lies hb h.l1, below_lies hb h.l2, below_lies hb h.l3⟩
theorem Abc.laid (w : World) (v u t : V) (c1 c2 c3 : List Value) (h1 : Lies w (· < w.heap.size) v c1) (h2 : Lies w (· < w.heap.size) u c2) (h3 : Lies w (· < w.heap.size) t c3) :
    Abc w w.heap.size v u t c1 c2 c3 (((w.alloc (.cells c1.toArray 25)).alloc (.cells c2.toArray 25)).alloc (.cells c3.toArray 25)) := by
  have hb : Below w.heap.size w (((w.alloc (.cells c1.toArray 25)).alloc (.cells c2.toArray 25)).alloc (.cells c3.toArray 25)) := chain (below2 _ _ _) (below1 _ _)
  have e1 : (w.alloc (.cells c1.toArray 25)).heap.size = w.heap.size + 1 := by simp
  have e2 : ((w.alloc (.cells c1.toArray 25)).alloc (.cells c2.toArray 25)).heap.size = w.heap.size + 2 := by simp
  refine ⟨hb, ((Box.laid w _ _).alloc _).alloc _, ?_, ?_, below_lies hb h1, below_lies hb h2, below_lies hb h3⟩
  · have := Box.laid (w.alloc (.cells c1.toArray 25)) 25 c2.toArray
    rw [e1] at this
    exact this.alloc _
  · have := Box.laid ((w.alloc (.cells c1.toArray 25)).alloc (.cells c2.toArray 25)) 25 c3.toArray
    rw [e2] at this
    exact this
theorem three_row {w : World} {v u t : V} {c1 c2 c3 : List Value} {g : Nat} (h : Lies w (· < w.heap.size) v c1) (k : Lies w (· < w.heap.size) u c2) (l : Lies w (· < w.heap.size) t c3) (hg : Box w g 25 (c1 ++ (c2 ++ c3)).toArray) : Row w (some ⟨g, 0, none⟩) [v, u, t] (c1 ++ (c2 ++ c3)) := by
  refine ⟨rs_box hg hg.lt, ?_⟩
  rw [LiesL]
  refine ⟨c1, c2 ++ c3, rfl, h, ?_⟩
  rw [LiesL]
  refine ⟨c2, c3, rfl, k, ?_⟩
  rw [LiesL]
  exact ⟨c3, [], by simp, l, by rw [LiesL]⟩
theorem cmpV_valid {a b : V} (h : valid a = true) (k : valid b = true) : cmpV a b = vcmp a b := by unfold cmpV; rw [if_pos h, if_pos k]
theorem eqV_valid {a b : V} (h : valid a = true) (k : valid b = true) : eqV a b = decide (vcmp a b = 0) := by unfold eqV; rw [h, k]; simp
set_option maxHeartbeats 4000000 in
set_option maxRecDepth 100000 in
theorem valueOrder_walk (v u t : V) (cs ds fs : List Value) (w : World) (h : Lies w (· < w.heap.size) v cs) (h' : Lies w (· < w.heap.size) u ds) (h'' : Lies w (· < w.heap.size) t fs) :
    Calls Try.prog 7 #[.agg cs.toArray, .agg ds.toArray, .agg fs.toArray] w fun e w' => e = .returned (.bool true) ∧ Below w.heap.size w w' := by
  have haw := Lib.hid (fun W => awake_any W)
  have H0 := Lib.hid (Abc.laid w v u t cs ds fs h h' h'')
  have hrx := vcmp_range v u
  have hry := vcmp_range u t
  have htr := vcmp_tr v u t
  have hrz := vcmp_range v t
  have hva := Lib.hid (fun W cs h => valid_any v cs W h)
  have hvb := Lib.hid (fun W cs h => valid_any u cs W h)
  have hvc := Lib.hid (fun W cs h => valid_any t cs W h)
  have hc1 := Lib.hid (fun W cs ds h k => cmp_any v u cs ds W h k)
  have hc2 := Lib.hid (fun W cs ds h k => cmp_any u t cs ds W h k)
  have hc3 := Lib.hid (fun W cs ds h k => cmp_any v t cs ds W h k)
  have hc4 := Lib.hid (fun W cs ds h k => cmp_any u v cs ds W h k)
  have hsa := Lib.hid (fun W cs ds h k => same_any v u cs ds W h k)
  have heq := Lib.hid (fun W cs ds h k => equal_any v u cs ds W h k)
  have g1 := Lib.hid (fun h k => cmpV_valid (a := v) (b := u) h k)
  have g2 := Lib.hid (fun h k => cmpV_valid (a := u) (b := t) h k)
  have g3 := Lib.hid (fun h k => cmpV_valid (a := v) (b := t) h k)
  have g4 := Lib.hid (fun h k => cmpV_valid (a := u) (b := v) h k)
  have g5 := Lib.hid (fun h k => eqV_valid (a := v) (b := u) h k)
  have g6 := vcmp_same v u
  have g7 := vcmp_anti v u
  generalize vcmp u v = x' at g4 g7
  generalize vcmp v u = x at hrx htr g1 g5 g6 g7
  generalize vcmp u t = y at hry htr g2
  generalize vcmp v t = z at htr hrz g3
  generalize cmpV v u = X at g1 hc1
  generalize cmpV u t = Y at g2 hc2
  generalize cmpV v t = Z at g3 hc3
  generalize cmpV u v = X' at g4 hc4
  generalize eqV v u = E at g5 heq
  rw [← g6] at hsa
  have G7 := Lib.hid g7
  have HTR := Lib.hid htr
  have HRX := Lib.hid hrx
  have HRY := Lib.hid hry
  have HRZ := Lib.hid hrz
  clear g6 g7 htr hrx hry hrz
  have hsmr := Lib.hid (fun (o4 : Obj) (ho : o4 = .cells (cs ++ (ds ++ fs)).toArray 25) => by
    have hb := below1 (((w.alloc (.cells cs.toArray 25)).alloc (.cells ds.toArray 25)).alloc (.cells fs.toArray 25)) o4
    have h4 := H0.out.next hb
    exact small_any 150 [v, u, t] (some ⟨w.heap.size + 3, 0, none⟩) 3 (cs ++ (ds ++ fs)) _ (three_row h4.l1 h4.l2 h4.l3 (by
      rw [ho]
      have := Box.laid (((w.alloc (.cells cs.toArray 25)).alloc (.cells ds.toArray 25)).alloc (.cells fs.toArray 25)) 25 (cs ++ (ds ++ fs)).toArray
      simpa using this)) (by simp) (by omega) (by omega))
  generalize smallP 150 [v, u, t] = sm at hsmr
  obtain ⟨k, n, s, ks, es⟩ := v
  obtain ⟨A, a, B, b, xs, rfl, _⟩ := lies_open h
  obtain ⟨k2, n2, s2, ks2, es2⟩ := u
  obtain ⟨A2, a2, B2, b2, xs2, rfl, _⟩ := lies_open h'
  obtain ⟨k3, n3, s3, ks3, es3⟩ := t
  obtain ⟨A3, a3, B3, b3, xs3, rfl, _⟩ := lies_open h''
  clear h h' h''
  show Calls _ _ #[.agg #[.int .i64 k, .int .i64 n, .string s, .slice A ks.length a, .slice B es.length b], .agg #[.int .i64 k2, .int .i64 n2, .string s2, .slice A2 ks2.length a2, .slice B2 es2.length b2], .agg #[.int .i64 k3, .int .i64 n3, .string s3, .slice A3 ks3.length a3, .slice B3 es3.length b3]] w _
  generalize valid (.mk k n s ks es) = va at hva g1 g2 g3 g4 g5
  generalize valid (.mk k2 n2 s2 ks2 es2) = vb at hvb g1 g2 g3 g4 g5
  generalize valid (.mk k3 n3 s3 ks3 es3) = vc at hvc g1 g2 g3 g4 g5
  have hsm := Lib.hid (hsmr.out _ rfl)
  clear hsmr
  have H1 := Lib.hid (H0.out.next (below1 _ (.cells ([Value.int .i64 k, .int .i64 n, .string s, .slice A ks.length a, .slice B es.length b] ++ ([Value.int .i64 k2, .int .i64 n2, .string s2, .slice A2 ks2.length a2, .slice B2 es2.length b2] ++ [Value.int .i64 k3, .int .i64 n3, .string s3, .slice A3 ks3.length a3, .slice B3 es3.length b3])).toArray 25)))
  clear H0
  go_enter Try.func7, Try.ntmps7
  go_wp2_with fail
  refine hsm.out.mono ?_
  rintro e1 w1 ⟨rfl, hb1⟩
  have H2 := Lib.hid (H1.out.next hb1)
  clear hb1 H1 hsm
  cases sm with
  | false =>
    go_wp2_with fail
    refine (haw.out _).mono ?_
    rintro e2 w2 ⟨rfl, hb2⟩
    go_wp2_with fail
    go_ret
    exact ⟨rfl, (H2.out.next hb2).below⟩
  | true =>
    obtain ⟨t0, t1, t2, t3, t4⟩ := box5 H2.out.x
    go_wp2_with fail
    refine (hva.out _ _ H2.out.l1).mono ?_
    rintro e2 w2 ⟨rfl, hb2⟩
    have H3 := Lib.hid (H2.out.next hb2)
    clear hb2 H2 t0 t1 t2 t3 t4
    cases va with
    | false =>
      go_wp2_with fail
      refine (haw.out _).mono ?_
      rintro e3 w3 ⟨rfl, hb3⟩
      go_wp2_with fail
      go_ret
      exact ⟨rfl, (H3.out.next hb3).below⟩
    | true =>
      obtain ⟨t0, t1, t2, t3, t4⟩ := box5 H3.out.y
      go_wp2_with fail
      refine (hvb.out _ _ H3.out.l2).mono ?_
      rintro e3 w3 ⟨rfl, hb3⟩
      have H4 := Lib.hid (H3.out.next hb3)
      clear hb3 H3 t0 t1 t2 t3 t4
      cases vb with
      | false =>
        go_wp2_with fail
        refine (haw.out _).mono ?_
        rintro e4 w4 ⟨rfl, hb4⟩
        go_wp2_with fail
        go_ret
        exact ⟨rfl, (H4.out.next hb4).below⟩
      | true =>
        obtain ⟨t0, t1, t2, t3, t4⟩ := box5 H4.out.z
        go_wp2_with fail
        refine (hvc.out _ _ H4.out.l3).mono ?_
        rintro e4 w4 ⟨rfl, hb4⟩
        have H5 := Lib.hid (H4.out.next hb4)
        clear hb4 H4 t0 t1 t2 t3 t4
        cases vc with
        | false =>
          go_wp2_with fail
          refine (haw.out _).mono ?_
          rintro e5 w5 ⟨rfl, hb5⟩
          go_wp2_with fail
          go_ret
          exact ⟨rfl, (H5.out.next hb5).below⟩
        | true =>
          obtain rfl := g1.out (by first | exact rfl | trivial) (by first | exact rfl | trivial)
          obtain rfl := g2.out (by first | exact rfl | trivial) (by first | exact rfl | trivial)
          obtain rfl := g3.out (by first | exact rfl | trivial) (by first | exact rfl | trivial)
          obtain rfl := g4.out (by first | exact rfl | trivial) (by first | exact rfl | trivial)
          obtain rfl := g5.out (by first | exact rfl | trivial) (by first | exact rfl | trivial)
          clear g1 g2 g3 g4 g5 hva hvb hvc
          have HU := Lib.hid (fun u : Calm w4.heap.size w4 => H5.out.next u.below)
          obtain ⟨t0, t1, t2, t3, t4⟩ := box5 H5.out.x
          obtain ⟨r0, r1, r2, r3, r4⟩ := box5 H5.out.y
          obtain ⟨p0, p1, p2, p3, p4⟩ := box5 H5.out.z
          have l1 := H5.out.x.lt
          have l2 := H5.out.y.lt
          have l3 := H5.out.z.lt
          have k0 := fun u : Calm w4.heap.size w4 => u.cell l1 t0
          have k1 := fun u : Calm w4.heap.size w4 => u.cell l1 t1
          have k2' := fun u : Calm w4.heap.size w4 => u.cell l1 t2
          have k3' := fun u : Calm w4.heap.size w4 => u.cell l1 t3
          have k4 := fun u : Calm w4.heap.size w4 => u.cell l1 t4
          have j0 := fun u : Calm w4.heap.size w4 => u.cell l2 r0
          have j1 := fun u : Calm w4.heap.size w4 => u.cell l2 r1
          have j2 := fun u : Calm w4.heap.size w4 => u.cell l2 r2
          have j3 := fun u : Calm w4.heap.size w4 => u.cell l2 r3
          have j4 := fun u : Calm w4.heap.size w4 => u.cell l2 r4
          have i0 := fun u : Calm w4.heap.size w4 => u.cell l3 p0
          have i1 := fun u : Calm w4.heap.size w4 => u.cell l3 p1
          have i2 := fun u : Calm w4.heap.size w4 => u.cell l3 p2
          have i3 := fun u : Calm w4.heap.size w4 => u.cell l3 p3
          have i4 := fun u : Calm w4.heap.size w4 => u.cell l3 p4
          clear t0 t1 t2 t3 t4 r0 r1 r2 r3 r4 p0 p1 p2 p3 p4
          go_wp2_with fail
          refine wp_region_calm (w0 := w4) (B := w4.heap.size) (by kernel_rfl) (by kernel_rfl) (Below.refl _ _) ?_
          repeat (go_big_quiet_step (first
            | (go_at_call 22; with_reducible refine Calm.call (Nat.le_refl _) (hc1.out _ _ _ (HU.out _).l1 (HU.out _).l2))
            | (go_at_call 22; with_reducible refine Calm.call (Nat.le_refl _) (hc2.out _ _ _ (HU.out _).l2 (HU.out _).l3))
            | (go_at_call 22; with_reducible refine Calm.call (Nat.le_refl _) (hc3.out _ _ _ (HU.out _).l1 (HU.out _).l3))))
          refine wpQuiet_nil ?_
          intro _ hw'
          obtain ⟨u, rfl⟩ := hw'
          have H6 := Lib.hid (HU.out u)
          generalize u.val = w5 at H6
          clear HU k0 k1 k2' k3' k4 j0 j1 j2 j3 j4 i0 i1 i2 i3 i4 l1 l2 l3 H5 hc1 hc2 hc3
          obtain ⟨t0, t1, t2, t3, t4⟩ := box5 H6.out.x
          obtain ⟨r0, r1, r2, r3, r4⟩ := box5 H6.out.y
          have hg := G7.out
          rcases HRX.out with rfl | rfl | rfl
          all_goals
            try simp only [Int.neg_neg, Int.neg_zero] at hg
            subst hg
            go_wp2_with fail
            refine (hc4.out _ _ _ H6.out.l2 H6.out.l1).mono ?_
            rintro e6 w6 ⟨rfl, hb6⟩
            have H7 := Lib.hid (H6.out.next hb6)
            clear hb6 t0 t1 t2 t3 t4 r0 r1 r2 r3 r4
            obtain ⟨t0, t1, t2, t3, t4⟩ := box5 H7.out.x
            obtain ⟨r0, r1, r2, r3, r4⟩ := box5 H7.out.y
            go_wp2_with fail
            refine (hsa.out _ _ _ H7.out.l1 H7.out.l2).mono ?_
            rintro e7 w7 ⟨rfl, hb7⟩
            have H8 := Lib.hid (H7.out.next hb7)
            clear hb7 t0 t1 t2 t3 t4 r0 r1 r2 r3 r4
            obtain ⟨t0, t1, t2, t3, t4⟩ := box5 H8.out.x
            obtain ⟨r0, r1, r2, r3, r4⟩ := box5 H8.out.y
            go_wp2_with fail
            refine (heq.out _ _ _ H8.out.l1 H8.out.l2).mono ?_
            rintro e8 w8 ⟨rfl, hb8⟩
            have H9 := Lib.hid (H8.out.next hb8)
            clear hb8 t0 t1 t2 t3 t4 r0 r1 r2 r3 r4
            rcases HRY.out with rfl | rfl | rfl
            all_goals
              have ht := HTR.out
              unfold Tr at ht
              have hz := HRZ.out
              rcases hz with rfl | rfl | rfl
              all_goals first
                | (exfalso; revert ht; decide)
                | (clear ht
                   go_wp2_with fail
                   refine (haw.out _).mono ?_
                   rintro e9 w9 ⟨rfl, hb9⟩
                   go_wp2_with fail
                   go_ret
                   exact ⟨rfl, (H9.out.next hb9).below⟩)
end Go.Proofs.Ytbpbplfiamllnaa
