/- ValueCompare answers true for every two values. -/
import Derived.Test.YtbpbplfiamllnaaSmall
import Derived.Test.YtbpbplfiamllnaaAgree2
set_option linter.unusedVariables false
set_option linter.unusedSimpArgs false
namespace Go.Proofs.Ytbpbplfiamllnaa
open Go.RowKit Go.Sort
theorem two_row {w : World} {v u : V} {cs ds : List Value} {g : Nat} (h : Lies w (· < w.heap.size) v cs) (k : Lies w (· < w.heap.size) u ds) (hg : Box w g 25 (cs ++ ds).toArray) : Row w (some ⟨g, 0, none⟩) [v, u] (cs ++ ds) := by
  refine ⟨rs_box hg hg.lt, ?_⟩
  rw [LiesL]
  refine ⟨cs, ds, rfl, h, ?_⟩
  rw [LiesL]
  exact ⟨ds, [], by simp, k, by rw [LiesL]⟩
theorem kcmp_self : ∀ ks : List ByteArray, kcmp ks ks = 0
  | [] => rfl
  | x :: r => by rw [kcmp]; simp [scmp_self, kcmp_self r]
theorem vcmp_self : ∀ v : V, vcmp v v = 0 := by
  refine V.ind fun k n s ks es ih => ?_
  have hL : vcmpL es es = 0 := by
    induction es with
    | nil => rw [vcmpL]
    | cons e es ihl => rw [vcmpL, if_pos (ih e (by simp)), ihl fun u hu => ih u (by simp [hu])]
  rw [vcmp, if_pos (icmp_zero.2 rfl), if_pos (icmp_zero.2 rfl), if_pos (scmp_self s), if_pos (kcmp_self ks), hL]
theorem eq_self (v : V) : eqV v v = valid v := by
  unfold eqV
  have : vcmp v v = 0 := vcmp_self v
  cases hv : valid v <;> simp [this]
set_option maxHeartbeats 2000000 in
set_option maxRecDepth 100000 in
theorem valueCompare_walk (v u : V) (cs ds : List Value) (w : World) (h : Lies w (· < w.heap.size) v cs) (h' : Lies w (· < w.heap.size) u ds) : Calls Try.prog 4 #[.agg cs.toArray, .agg ds.toArray] w fun e w' => e = .returned (.bool true) ∧ Below w.heap.size w w' := by
  have haw := Lib.hid (fun W => awake_any W)
  have HL := Lib.hid h
  have HM := Lib.hid h'
  obtain ⟨k, n, s, ks, es⟩ := v
  obtain ⟨A, a, B, b, xs, rfl, _⟩ := lies_open h
  obtain ⟨k2, n2, s2, ks2, es2⟩ := u
  obtain ⟨A2, a2, B2, b2, xs2, rfl, _⟩ := lies_open h'
  clear h h'
  show Calls _ _ #[.agg #[.int .i64 k, .int .i64 n, .string s, .slice A ks.length a, .slice B es.length b], .agg #[.int .i64 k2, .int .i64 n2, .string s2, .slice A2 ks2.length a2, .slice B2 es2.length b2]] w _
  obtain ⟨o1, ho1⟩ : ∃ O, O = Obj.cells #[.int .i64 k, .int .i64 n, .string s, .slice A ks.length a, .slice B es.length b] 25 := ⟨_, rfl⟩
  obtain ⟨o2, ho2⟩ : ∃ O, O = Obj.cells #[.int .i64 k2, .int .i64 n2, .string s2, .slice A2 ks2.length a2, .slice B2 es2.length b2] 25 := ⟨_, rfl⟩
  have hbx : Hid (Below w.heap.size w ((w.alloc o1).alloc o2)) := Lib.hid (((Below.refl _ _).alloc (Nat.le_refl _) _).alloc (by simp) _)
  have hsm := Lib.hid (small_any 200 [.mk k n s ks es, .mk k2 n2 s2 ks2 es2] (some ⟨w.heap.size + 2, 0, none⟩) 2 _
    (((w.alloc o1).alloc o2).alloc (.cells #[.int .i64 k, .int .i64 n, .string s, .slice A ks.length a, .slice B es.length b, .int .i64 k2, .int .i64 n2, .string s2, .slice A2 ks2.length a2, .slice B2 es2.length b2] 25))
    (two_row (below_lies (chain hbx.out ((Below.refl _ _).alloc (Nat.le_refl _) _)) HL.out) (below_lies (chain hbx.out ((Below.refl _ _).alloc (Nat.le_refl _) _)) HM.out) (by
      have := Box.laid ((w.alloc o1).alloc o2) 25 #[.int .i64 k, .int .i64 n, .string s, .slice A ks.length a, .slice B es.length b, .int .i64 k2, .int .i64 n2, .string s2, .slice A2 ks2.length a2, .slice B2 es2.length b2]
      simpa using this)) (by simp) (by omega) (by omega))
  generalize smallP 200 [.mk k n s ks es, .mk k2 n2 s2 ks2 es2] = x at hsm
  have hX := Lib.hid ((((Box.laid w 25 #[.int .i64 k, .int .i64 n, .string s, .slice A ks.length a, .slice B es.length b]).alloc o2).alloc (.cells #[.int .i64 k, .int .i64 n, .string s, .slice A ks.length a, .slice B es.length b, .int .i64 k2, .int .i64 n2, .string s2, .slice A2 ks2.length a2, .slice B2 es2.length b2] 25)))
  have hY := Lib.hid ((Box.laid (w.alloc o1) 25 #[.int .i64 k2, .int .i64 n2, .string s2, .slice A2 ks2.length a2, .slice B2 es2.length b2]).alloc (.cells #[.int .i64 k, .int .i64 n, .string s, .slice A ks.length a, .slice B es.length b, .int .i64 k2, .int .i64 n2, .string s2, .slice A2 ks2.length a2, .slice B2 es2.length b2] 25))
  have hyn : (w.alloc o1).heap.size = w.heap.size + 1 := by simp
  rw [hyn] at hY
  subst ho1 ho2
  clear hyn
  go_enter Try.func4, Try.ntmps4
  go_wp2_with fail
  refine hsm.out.mono ?_
  rintro e1 w1 ⟨rfl, hb1⟩
  have hB1 := Lib.hid (chain hbx.out (chain ((Below.refl _ _).alloc (Nat.le_refl _) (.cells #[.int .i64 k, .int .i64 n, .string s, .slice A ks.length a, .slice B es.length b, .int .i64 k2, .int .i64 n2, .string s2, .slice A2 ks2.length a2, .slice B2 es2.length b2] 25)) hb1))
  have hX1 := Lib.hid (hX.out.below hb1 hX.out.lt)
  have hY1 := Lib.hid (hY.out.below hb1 hY.out.lt)
  clear hsm hb1 hX hY hbx
  cases x with
  | false =>
    go_wp2_with fail
    refine (haw.out _).mono ?_
    rintro e2 w2 ⟨rfl, hb2⟩
    go_wp2_with fail
    go_ret
    exact ⟨rfl, chain hB1.out hb2⟩
  | true =>
    obtain ⟨t0, t1, t2, t3, t4⟩ := box5 hX1.out
    obtain ⟨r0, r1, r2, r3, r4⟩ := box5 hY1.out
    have hlt := hX1.out.lt
    have hlt2 := hY1.out.lt
    have k0 := fun u : Calm w1.heap.size w1 => u.cell hlt t0
    have k1 := fun u : Calm w1.heap.size w1 => u.cell hlt t1
    have k2' := fun u : Calm w1.heap.size w1 => u.cell hlt t2
    have k3 := fun u : Calm w1.heap.size w1 => u.cell hlt t3
    have k4 := fun u : Calm w1.heap.size w1 => u.cell hlt t4
    have j0 := fun u : Calm w1.heap.size w1 => u.cell hlt2 r0
    have j1 := fun u : Calm w1.heap.size w1 => u.cell hlt2 r1
    have j2 := fun u : Calm w1.heap.size w1 => u.cell hlt2 r2
    have j3 := fun u : Calm w1.heap.size w1 => u.cell hlt2 r3
    have j4 := fun u : Calm w1.heap.size w1 => u.cell hlt2 r4
    have hl := fun u : Calm w1.heap.size w1 => below_lies u.below (below_lies hB1.out HL.out)
    have hm := fun u : Calm w1.heap.size w1 => below_lies u.below (below_lies hB1.out HM.out)
    have c1 := fun u : Calm w1.heap.size w1 => cmp_any _ _ _ _ u.val (hl u) (hm u)
    have c2 := fun u : Calm w1.heap.size w1 => rcmp_any _ _ _ _ u.val (hl u) (hm u)
    have c3 := fun u : Calm w1.heap.size w1 => equal_any _ _ _ _ u.val (hl u) (hm u)
    have c4 := fun u : Calm w1.heap.size w1 => requal_any _ _ _ _ u.val (hl u) (hm u)
    have c5 := fun u : Calm w1.heap.size w1 => equal_any _ _ _ _ u.val (hl u) (hl u)
    have c6 := fun u : Calm w1.heap.size w1 => rvalid_any _ _ u.val (hl u)
    simp only [valid_same, cmp_same, eq_same, eq_self] at c2 c4 c5 c6
    generalize cmpV (.mk k n s ks es) (.mk k2 n2 s2 ks2 es2) = q1 at c1 c2
    generalize eqV (.mk k n s ks es) (.mk k2 n2 s2 ks2 es2) = q2 at c3 c4
    generalize valid (.mk k n s ks es) = q3 at c5 c6
    have C1 := Lib.hid c1; have C2 := Lib.hid c2; have C3 := Lib.hid c3; have C4 := Lib.hid c4; have C5 := Lib.hid c5; have C6 := Lib.hid c6
    clear c1 c2 c3 c4 c5 c6 hl hm t0 t1 t2 t3 t4 r0 r1 r2 r3 r4
    go_wp2_with fail
    refine wp_region_calm (w0 := w1) (B := w1.heap.size) (by kernel_rfl) (by kernel_rfl) (Below.refl _ _) ?_
    repeat (go_big_quiet_step (first
      | (go_at_call 22; with_reducible refine Calm.call (Nat.le_refl _) (C1.out _))
      | (go_at_call 23; with_reducible refine Calm.call (Nat.le_refl _) (C2.out _))
      | (go_at_call 24; with_reducible refine Calm.call (Nat.le_refl _) (C3.out _))
      | (go_at_call 25; with_reducible refine Calm.call (Nat.le_refl _) (C4.out _))
      | (go_at_call 24; with_reducible refine Calm.call (Nat.le_refl _) (C5.out _))
      | (go_at_call 13; with_reducible refine Calm.call (Nat.le_refl _) (C6.out _))
      | (go_at_call 11; with_reducible refine Calm.call (Nat.le_refl _) (haw.out _))))
    refine wpQuiet_nil ?_
    intro _ hw'
    obtain ⟨u, rfl⟩ := hw'
    go_wp2_with fail
    go_ret
    exact ⟨rfl, chain hB1.out u.below⟩
end Go.Proofs.Ytbpbplfiamllnaa
