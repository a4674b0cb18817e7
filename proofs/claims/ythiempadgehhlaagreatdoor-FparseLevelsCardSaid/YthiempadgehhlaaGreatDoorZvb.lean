/- FparseLevels: the ways through it. -/
import Derived.Test.YthiempadgehhlaaGreatDoorZv0
set_option linter.unusedVariables false
set_option linter.unusedSimpArgs false
set_option linter.unusedSectionVars false
namespace Go.Proofs.YthiempadgehhlaaGreatDoor
open Go.RowKit
set_option maxHeartbeats 20000000 in
set_option maxRecDepth 100000 in
theorem levels_lt (d e : Nat) (x y : ByteArray) (z k : Int) (w : World) (tx : ByteArray) (v : V) (ps : List ByteArray) (f0 f1 : Ft) (a : Nat) (op : Int) (q p0 p1 : Int) (hE : ErrIn w) (hG : SgIn w) (hd : d < 9) (he : e < 9) (hx : x.size ≤ 3) (hy : y.size ≤ 3) (hik : ((d : Int) == (e : Int)) = false) (hlt : d < e) (hg1 : f1.opn = q) (hg2 : f1.subs.length = 2) (ho : f0.opn = 7) (hW : Below w.heap.size w ((w.alloc (.cells #[.string ⟨#[124]⟩, .string ⟨#[44]⟩, .string ⟨#[61]⟩, .string ⟨#[47, 47]⟩, .string ⟨#[111, 114]⟩, .string ⟨#[97, 110, 100]⟩, .string ⟨#[60]⟩, .string ⟨#[43]⟩, .string ⟨#[42]⟩] 9)).alloc (.cells #[.int .i64 12, .int .i64 13, .int .i64 27, .int .i64 14, .int .i64 15, .int .i64 16, .int .i64 17, .int .i64 17, .int .i64 17] 3)) ∧ ((w.alloc (.cells #[.string ⟨#[124]⟩, .string ⟨#[44]⟩, .string ⟨#[61]⟩, .string ⟨#[47, 47]⟩, .string ⟨#[111, 114]⟩, .string ⟨#[97, 110, 100]⟩, .string ⟨#[60]⟩, .string ⟨#[43]⟩, .string ⟨#[42]⟩] 9)).alloc (.cells #[.int .i64 12, .int .i64 13, .int .i64 27, .int .i64 14, .int .i64 15, .int .i64 16, .int .i64 17, .int .i64 17, .int .i64 17] 3)).cell? ⟨w.heap.size, d, none⟩ = some (.string x) ∧ ((w.alloc (.cells #[.string ⟨#[124]⟩, .string ⟨#[44]⟩, .string ⟨#[61]⟩, .string ⟨#[47, 47]⟩, .string ⟨#[111, 114]⟩, .string ⟨#[97, 110, 100]⟩, .string ⟨#[60]⟩, .string ⟨#[43]⟩, .string ⟨#[42]⟩] 9)).alloc (.cells #[.int .i64 12, .int .i64 13, .int .i64 27, .int .i64 14, .int .i64 15, .int .i64 16, .int .i64 17, .int .i64 17, .int .i64 17] 3)).cell? ⟨w.heap.size, e, none⟩ = some (.string y) ∧ ((w.alloc (.cells #[.string ⟨#[124]⟩, .string ⟨#[44]⟩, .string ⟨#[61]⟩, .string ⟨#[47, 47]⟩, .string ⟨#[111, 114]⟩, .string ⟨#[97, 110, 100]⟩, .string ⟨#[60]⟩, .string ⟨#[43]⟩, .string ⟨#[42]⟩] 9)).alloc (.cells #[.int .i64 12, .int .i64 13, .int .i64 27, .int .i64 14, .int .i64 15, .int .i64 16, .int .i64 17, .int .i64 17, .int .i64 17] 3)).cell? ⟨w.heap.size + 1, d, none⟩ = some (.int .i64 op) ∧ ((w.alloc (.cells #[.string ⟨#[124]⟩, .string ⟨#[44]⟩, .string ⟨#[61]⟩, .string ⟨#[47, 47]⟩, .string ⟨#[111, 114]⟩, .string ⟨#[97, 110, 100]⟩, .string ⟨#[60]⟩, .string ⟨#[43]⟩, .string ⟨#[42]⟩] 9)).alloc (.cells #[.int .i64 12, .int .i64 13, .int .i64 27, .int .i64 14, .int .i64 15, .int .i64 16, .int .i64 17, .int .i64 17, .int .i64 17] 3)).cell? ⟨w.heap.size + 1, e, none⟩ = some (.int .i64 q)) (hm1 : ∀ W, Calls Tryz.prog 10 #[.int .i64 z, .int .i64 9] W fun e w' => e = .returned (.int .i64 (d : Int)) ∧ W = w') (hm2 : ∀ W, Calls Tryz.prog 10 #[.int .i64 k, .int .i64 9] W fun e' w' => e' = .returned (.int .i64 (e : Int)) ∧ W = w') (hp : ∀ W, Below w.heap.size w W → Calls Tryz.prog 8 #[.string ((⟨#[49, 32]⟩ : ByteArray) ++ x ++ (⟨#[32, 50, 32]⟩ : ByteArray) ++ y ++ (⟨#[32, 51]⟩ : ByteArray))] W (FParsePost W (.mk op tx v ps [f0, f1], a, 0))) :
    Calls Tryz.prog 5 #[.int .i64 z, .int .i64 k] w fun e w' => e = .returned (.bool true) ∧ Below w.heap.size w w' := by
  have HAW := Lib.hid (fun (W : World) (h : Below w.heap.size w W) => pawake_any W (hE.next h) (hG.next h))
  have HM1 := Lib.hid hm1
  have HM2 := Lib.hid hm2
  have HP := Lib.hid hp
  have HW := Lib.hid hW
  have hd0 : (0 : Int) ≤ (d : Int) := by omega
  have hd1 : (d : Int) < 9 := by omega
  have he0 : (0 : Int) ≤ (e : Int) := by omega
  have he1 : (e : Int) < 9 := by omega
  clear hE hG hm1 hm2 hp hW
  go_enter Tryz.func5, Tryz.ntmps5
  go_wp2_with (first
    | (go_at_call 10; (with_reducible refine (HM1.out _).mono ?_); rintro e w' ⟨rfl, rfl⟩)
    | (go_at_call 10; (with_reducible refine (HM2.out _).mono ?_); rintro e w' ⟨rfl, rfl⟩))
  generalize ((w.alloc (.cells #[.string ⟨#[124]⟩, .string ⟨#[44]⟩, .string ⟨#[61]⟩, .string ⟨#[47, 47]⟩, .string ⟨#[111, 114]⟩, .string ⟨#[97, 110, 100]⟩, .string ⟨#[60]⟩, .string ⟨#[43]⟩, .string ⟨#[42]⟩] 9)).alloc (.cells #[.int .i64 12, .int .i64 13, .int .i64 27, .int .i64 14, .int .i64 15, .int .i64 16, .int .i64 17, .int .i64 17, .int .i64 17] 3)) = W at HW ⊢
  obtain ⟨hb0, cx, cy, ct, ci⟩ := HW.out
  have hlt0 : w.heap.size < W.heap.size := (cell_lt cx)
  have hlt1 : w.heap.size + 1 < W.heap.size := (cell_lt ct)
  have qa : ¬ (2 + x.size > 9223372036854775807) := by omega
  have qb : ¬ (2 + x.size + 3 > 9223372036854775807) := by omega
  have qc : ¬ (2 + x.size + 3 + y.size > 9223372036854775807) := by omega
  have qd : ¬ (2 + x.size + 3 + y.size + 2 > 9223372036854775807) := by omega
  have KP : Hid (∀ X, Below W.heap.size W X → X.cell? ⟨w.heap.size, d, none⟩ = some (.string x) ∧ X.cell? ⟨w.heap.size, e, none⟩ = some (.string y)) := Lib.hid fun X hX => ⟨below_cell hX hlt0 cx, below_cell hX hlt0 cy⟩
  have HB0 := Lib.hid hb0
  clear hb0 HW hx hy
  go_region_held3 (fun X => X.cell? ⟨w.heap.size, d, none⟩ = some (.string x) ∧ X.cell? ⟨w.heap.size, e, none⟩ = some (.string y))
    (first
      | with_reducible exact KP.out _ (Below.refl W.heap.size W)
      | with_reducible exact KP.out _ (Below.refl W.heap.size W).drew
      | with_reducible exact KP.out _ ((Below.refl W.heap.size W).alloc (Nat.le_refl _) _)
      | with_reducible exact KP.out _ ((Below.refl W.heap.size W).alloc (Nat.le_refl _) _).drew
      | with_reducible exact KP.out _ ((Below.refl W.heap.size W).drew.alloc (Below.refl W.heap.size W).drew.size _)
      | with_reducible exact KP.out _ HBx.out
      | with_reducible exact KP.out _ HBx.out.drew
      | with_reducible exact KP.out _ (HBx.out.alloc HBx.out.size _)
      | with_reducible exact KP.out _ (HBx.out.alloc HBx.out.size _).drew
      | with_reducible exact KP.out _ (HBx.out.drew.alloc HBx.out.drew.size _)
      | with_reducible exact KP.out _ (below9' HBx.out (Nat.le_refl _) _ _ _ _ _ _ _ _ _)
      | with_reducible exact KP.out _ (below9' HBx.out.drew (Nat.le_refl _) _ _ _ _ _ _ _ _ _))
    (first
      | (go_at_call 8; (with_reducible refine (HP.out _ (HB0.out.alloc HB0.out.size _).drew).mono ?_); rintro e1 w1 ⟨c0, c1, c2, c3, c4, c5, c6, c7, c8, rfl, hb1, hl1⟩; obtain ⟨kk, nn, st, A1, n1, m1, A2, n2, m2, A3, m3, bb, o, m4, a0, a1, a2, a3, a4, a5, a6, a7, a8, b0, b1, b2, b3, b4, b5, b6, b7, b8, hcs, hS, hm4, hla, hlb, ha, hbb⟩ := two_subs hl1; simp only [List.cons.injEq, and_true] at hcs; obtain ⟨rfl, rfl, rfl, rfl, rfl, rfl, rfl, rfl, rfl⟩ := hcs; have HBx := Lib.hid (Below.trans ((Below.refl W.heap.size W).alloc (Nat.le_refl _) (.cells z9 32)).drew (hb1.mono (by simp))); have HZ : Hid (Box w1 W.heap.size 32 z9) := Lib.hid (Box.below (Box.drewOne (Box.laid W 32 z9)) hb1 (by simp)); obtain ⟨⟨y0, y1, y2, y3, y4, y5, y6, y7, y8⟩, z0, z1, z2, z3, z4, z5, z6, z7, z8⟩ := box9z HZ.out)
      | (go_at_call 8; (with_reducible refine (HP.out _ HB0.out.drew).mono ?_); rintro e1 w1 ⟨c0, c1, c2, c3, c4, c5, c6, c7, c8, rfl, hb1, hl1⟩; obtain ⟨kk, nn, st, A1, n1, m1, A2, n2, m2, A3, m3, bb, o, m4, a0, a1, a2, a3, a4, a5, a6, a7, a8, b0, b1, b2, b3, b4, b5, b6, b7, b8, hcs, hS, hm4, hla, hlb, ha, hbb⟩ := two_subs hl1; simp only [List.cons.injEq, and_true] at hcs; obtain ⟨rfl, rfl, rfl, rfl, rfl, rfl, rfl, rfl, rfl⟩ := hcs; have HBx := Lib.hid (Below.trans (Below.refl W.heap.size W).drew hb1)))
  · have HFB := Lib.hid (Box.laid w1 32 #[.int .i64 op, .string tx, .int .i64 kk, .int .i64 nn, .string st, .slice A1 n1 m1, .slice A2 n2 m2, .slice A3 ps.length m3, .slice (some ⟨bb, o, none⟩) 2 m4])
    have HB2 := Lib.hid (HBx.out.alloc HBx.out.size (.cells #[.int .i64 op, .string tx, .int .i64 kk, .int .i64 nn, .string st, .slice A1 n1 m1, .slice A2 n2 m2, .slice A3 ps.length m3, .slice (some ⟨bb, o, none⟩) 2 m4] 32))
    have HGr : Hid (Gr w1.heap.size w1 (w1.alloc (.cells #[.int .i64 op, .string tx, .int .i64 kk, .int .i64 nn, .string st, .slice A1 n1 m1, .slice A2 n2 m2, .slice A3 ps.length m3, .slice (some ⟨bb, o, none⟩) 2 m4] 32))) := Lib.hid ((Gr.refl _ _).alloc _)
    generalize w1.alloc (.cells #[.int .i64 op, .string tx, .int .i64 kk, .int .i64 nn, .string st, .slice A1 n1 m1, .slice A2 n2 m2, .slice A3 ps.length m3, .slice (some ⟨bb, o, none⟩) 2 m4] 32) = w2 at HFB HB2 HGr ⊢
    obtain ⟨txa, ka, ja, sa, Aa1, na1, ma1, Aa2, na2, ma2, Aa3, na3, ma3, Aa4, ma4, rfl, rfl, rfl, rfl, rfl, rfl, rfl, rfl, rfl⟩ := opn_form hla
    obtain ⟨txb, kb, jb, sb, Ab1, nb1, mb1, Ab2, nb2, mb2, Ab3, nb3, mb3, Ab4, mb4, rfl, rfl, rfl, rfl, rfl, rfl, rfl, rfl, rfl⟩ := opn_form hlb
    have dx := below_cell HB2.out hlt0 cx
    have dt := below_cell HB2.out hlt1 ct
    have di := below_cell HB2.out hlt1 ci
    rw [hg1] at hbb
    rw [ho] at ha
    rw [hg2] at hbb
    have HB3 := Lib.hid (chain HB0.out HB2.out)
    have hls : bb < w2.heap.size := Nat.lt_of_lt_of_le hS.2 HGr.out.size
    have hne : bb ≠ w1.heap.size := by have := hS.2; omega
    have hw2 := HB2.out.size
    have hlw0 : w.heap.size < w2.heap.size := by omega
    have hlw1 : w.heap.size + 1 < w2.heap.size := by omega
    have hlf := HFB.out.lt
    have f0 := HFB.out.cell (i := 0) rfl
    have f8 := HFB.out.cell (i := 8) rfl
    have r0 := (HGr.out.cell hS.2 hne).trans (hbb 0 _ rfl)
    have r1 := (HGr.out.cell hS.2 hne).trans (hbb 1 _ rfl)
    have r2 := (HGr.out.cell hS.2 hne).trans (hbb 2 _ rfl)
    have r3 := (HGr.out.cell hS.2 hne).trans (hbb 3 _ rfl)
    have r4 := (HGr.out.cell hS.2 hne).trans (hbb 4 _ rfl)
    have r5 := (HGr.out.cell hS.2 hne).trans (hbb 5 _ rfl)
    have r6 := (HGr.out.cell hS.2 hne).trans (hbb 6 _ rfl)
    have r7 := (HGr.out.cell hS.2 hne).trans (hbb 7 _ rfl)
    have r8 := (HGr.out.cell hS.2 hne).trans (hbb 8 _ rfl)
    have s0 := (HGr.out.cell hS.2 hne).trans (ha 0 _ rfl)
    rw [Nat.add_zero] at r0 s0
    clear ha hbb hg1 hg2 ho hla hlb hl1 hb1 hS cx cy ct ci hne hw2
    go_wp2_with fail
    have HV := Lib.hid (Box.laid w2 32 #[.int .i64 q, .string txb, .int .i64 kb, .int .i64 jb, .string sb, .slice Ab1 nb1 mb1, .slice Ab2 nb2 mb2, .slice Ab3 nb3 mb3, .slice Ab4 2 mb4])
    have HB4 := Lib.hid ((Below.refl w2.heap.size w2).alloc (Nat.le_refl _) (.cells #[.int .i64 q, .string txb, .int .i64 kb, .int .i64 jb, .string sb, .slice Ab1 nb1 mb1, .slice Ab2 nb2 mb2, .slice Ab3 nb3 mb3, .slice Ab4 2 mb4] 32))
    generalize w2.alloc (.cells #[.int .i64 q, .string txb, .int .i64 kb, .int .i64 jb, .string sb, .slice Ab1 nb1 mb1, .slice Ab2 nb2 mb2, .slice Ab3 nb3 mb3, .slice Ab4 2 mb4] 32) = W3 at HV HB4 ⊢
    have KQ : Hid (∀ X, Below W3.heap.size W3 X → X.cell? ⟨w1.heap.size, 0, none⟩ = some (.int .i64 op) ∧ X.cell? ⟨w1.heap.size, 8, none⟩ = some (.slice (some ⟨bb, o, none⟩) 2 m4) ∧ X.cell? ⟨w.heap.size + 1, d, none⟩ = some (.int .i64 op) ∧ X.cell? ⟨w.heap.size + 1, e, none⟩ = some (.int .i64 q) ∧ X.cell? ⟨w2.heap.size, 0, none⟩ = some (.int .i64 q) ∧ X.cell? ⟨w2.heap.size, 8, none⟩ = some (.slice Ab4 2 mb4) ∧ X.cell? ⟨bb, o, none⟩ = some (.int .i64 7)) := Lib.hid fun X hX => by
      have hX2 := chain HB4.out hX
      exact ⟨below_cell hX2 hlf f0, below_cell hX2 hlf f8, below_cell hX2 hlw1 dt, below_cell hX2 hlw1 di, (HV.out.below hX HV.out.lt).cell (i := 0) rfl, (HV.out.below hX HV.out.lt).cell (i := 8) rfl, below_cell hX2 hls s0⟩
    have HB5 := Lib.hid (chain HB3.out HB4.out)
    obtain ⟨k0, k1, k2, k3, k4, k5, k6⟩ := KQ.out _ (Below.refl _ _)
    have hw10 : IntKind.i64.wrap 1 = 1 := by decide
    have hw11 : IntKind.i64.wrap 0 = 0 := by decide
    clear f0 f8 dt di dx s0 r0 r1 r2 r3 r4 r5 r6 r7 r8
    go_region_held3 (fun X => X.cell? ⟨w1.heap.size, 0, none⟩ = some (.int .i64 op) ∧ X.cell? ⟨w1.heap.size, 8, none⟩ = some (.slice (some ⟨bb, o, none⟩) 2 m4) ∧ X.cell? ⟨w.heap.size + 1, d, none⟩ = some (.int .i64 op) ∧ X.cell? ⟨w.heap.size + 1, e, none⟩ = some (.int .i64 q) ∧ X.cell? ⟨w2.heap.size, 0, none⟩ = some (.int .i64 q) ∧ X.cell? ⟨w2.heap.size, 8, none⟩ = some (.slice Ab4 2 mb4) ∧ X.cell? ⟨bb, o, none⟩ = some (.int .i64 7))
      (first
        | with_reducible exact KQ.out _ (Below.refl W3.heap.size W3)
        | with_reducible exact KQ.out _ (Below.refl W3.heap.size W3).drew
        | with_reducible exact KQ.out _ HB6.out)
      ((go_at_call 9; (with_reducible refine (HAW.out _ HB5.out.drew).mono ?_); rintro e9 w9 ⟨rfl, hb9⟩; have HB6 := Lib.hid (Below.trans (Below.refl W3.heap.size W3).drew hb9)))
    go_wp2_with fail
    go_ret
    exact ⟨rfl, chain HB5.out HB6.out⟩
  · clear y0 y1 y2 y3 y4 y5 y6 y7 y8 z0 z1 z2 z3 z4 z5 z6 z7 z8
    have HFB := Lib.hid (HZ.out.put9z (.int .i64 op) (.string tx) (.int .i64 kk) (.int .i64 nn) (.string st) (.slice A1 n1 m1) (.slice A2 n2 m2) (.slice A3 ps.length m3) (.slice (some ⟨bb, o, none⟩) 2 m4))
    have HB2 := Lib.hid (below9' HBx.out (Nat.le_refl _) (.int .i64 op) (.string tx) (.int .i64 kk) (.int .i64 nn) (.string st) (.slice A1 n1 m1) (.slice A2 n2 m2) (.slice A3 ps.length m3) (.slice (some ⟨bb, o, none⟩) 2 m4))
    have HGr : Hid (Gr W.heap.size w1 ((((((((((w1.setCell ⟨W.heap.size, 0, none⟩ (.int .i64 op)).setCell ⟨W.heap.size, 1, none⟩ (.string tx)).setCell ⟨W.heap.size, 2, none⟩ (.int .i64 kk)).setCell ⟨W.heap.size, 3, none⟩ (.int .i64 nn)).setCell ⟨W.heap.size, 4, none⟩ (.string st)).setCell ⟨W.heap.size, 5, none⟩ (.slice A1 n1 m1)).setCell ⟨W.heap.size, 6, none⟩ (.slice A2 n2 m2)).setCell ⟨W.heap.size, 7, none⟩ (.slice A3 ps.length m3)).setCell ⟨W.heap.size, 8, none⟩ (.slice (some ⟨bb, o, none⟩) 2 m4)))) := Lib.hid ((((((((((Gr.refl _ _).set 0 _).set 1 _).set 2 _).set 3 _).set 4 _).set 5 _).set 6 _).set 7 _).set 8 _)
    generalize (((((((((w1.setCell ⟨W.heap.size, 0, none⟩ (.int .i64 op)).setCell ⟨W.heap.size, 1, none⟩ (.string tx)).setCell ⟨W.heap.size, 2, none⟩ (.int .i64 kk)).setCell ⟨W.heap.size, 3, none⟩ (.int .i64 nn)).setCell ⟨W.heap.size, 4, none⟩ (.string st)).setCell ⟨W.heap.size, 5, none⟩ (.slice A1 n1 m1)).setCell ⟨W.heap.size, 6, none⟩ (.slice A2 n2 m2)).setCell ⟨W.heap.size, 7, none⟩ (.slice A3 ps.length m3)).setCell ⟨W.heap.size, 8, none⟩ (.slice (some ⟨bb, o, none⟩) 2 m4)) = w2 at HFB HB2 HGr ⊢
    obtain ⟨txa, ka, ja, sa, Aa1, na1, ma1, Aa2, na2, ma2, Aa3, na3, ma3, Aa4, ma4, rfl, rfl, rfl, rfl, rfl, rfl, rfl, rfl, rfl⟩ := opn_form hla
    obtain ⟨txb, kb, jb, sb, Ab1, nb1, mb1, Ab2, nb2, mb2, Ab3, nb3, mb3, Ab4, mb4, rfl, rfl, rfl, rfl, rfl, rfl, rfl, rfl, rfl⟩ := opn_form hlb
    have dx := below_cell HB2.out hlt0 cx
    have dt := below_cell HB2.out hlt1 ct
    have di := below_cell HB2.out hlt1 ci
    rw [hg1] at hbb
    rw [ho] at ha
    rw [hg2] at hbb
    have HB3 := Lib.hid (chain HB0.out HB2.out)
    have hls : bb < w2.heap.size := Nat.lt_of_lt_of_le hS.2 HGr.out.size
    have hne : bb ≠ W.heap.size := by have := hS.1; simp at this; omega
    have hw2 := HB2.out.size
    have hlw0 : w.heap.size < w2.heap.size := by omega
    have hlw1 : w.heap.size + 1 < w2.heap.size := by omega
    have hlf := HFB.out.lt
    have f0 := HFB.out.cell (i := 0) rfl
    have f8 := HFB.out.cell (i := 8) rfl
    have r0 := (HGr.out.cell hS.2 hne).trans (hbb 0 _ rfl)
    have r1 := (HGr.out.cell hS.2 hne).trans (hbb 1 _ rfl)
    have r2 := (HGr.out.cell hS.2 hne).trans (hbb 2 _ rfl)
    have r3 := (HGr.out.cell hS.2 hne).trans (hbb 3 _ rfl)
    have r4 := (HGr.out.cell hS.2 hne).trans (hbb 4 _ rfl)
    have r5 := (HGr.out.cell hS.2 hne).trans (hbb 5 _ rfl)
    have r6 := (HGr.out.cell hS.2 hne).trans (hbb 6 _ rfl)
    have r7 := (HGr.out.cell hS.2 hne).trans (hbb 7 _ rfl)
    have r8 := (HGr.out.cell hS.2 hne).trans (hbb 8 _ rfl)
    have s0 := (HGr.out.cell hS.2 hne).trans (ha 0 _ rfl)
    rw [Nat.add_zero] at r0 s0
    clear ha hbb hg1 hg2 ho hla hlb hl1 hb1 hS cx cy ct ci hne hw2
    go_wp2_with fail
    have HV := Lib.hid (Box.laid w2 32 #[.int .i64 q, .string txb, .int .i64 kb, .int .i64 jb, .string sb, .slice Ab1 nb1 mb1, .slice Ab2 nb2 mb2, .slice Ab3 nb3 mb3, .slice Ab4 2 mb4])
    have HB4 := Lib.hid ((Below.refl w2.heap.size w2).alloc (Nat.le_refl _) (.cells #[.int .i64 q, .string txb, .int .i64 kb, .int .i64 jb, .string sb, .slice Ab1 nb1 mb1, .slice Ab2 nb2 mb2, .slice Ab3 nb3 mb3, .slice Ab4 2 mb4] 32))
    generalize w2.alloc (.cells #[.int .i64 q, .string txb, .int .i64 kb, .int .i64 jb, .string sb, .slice Ab1 nb1 mb1, .slice Ab2 nb2 mb2, .slice Ab3 nb3 mb3, .slice Ab4 2 mb4] 32) = W3 at HV HB4 ⊢
    have KQ : Hid (∀ X, Below W3.heap.size W3 X → X.cell? ⟨W.heap.size, 0, none⟩ = some (.int .i64 op) ∧ X.cell? ⟨W.heap.size, 8, none⟩ = some (.slice (some ⟨bb, o, none⟩) 2 m4) ∧ X.cell? ⟨w.heap.size + 1, d, none⟩ = some (.int .i64 op) ∧ X.cell? ⟨w.heap.size + 1, e, none⟩ = some (.int .i64 q) ∧ X.cell? ⟨w2.heap.size, 0, none⟩ = some (.int .i64 q) ∧ X.cell? ⟨w2.heap.size, 8, none⟩ = some (.slice Ab4 2 mb4) ∧ X.cell? ⟨bb, o, none⟩ = some (.int .i64 7)) := Lib.hid fun X hX => by
      have hX2 := chain HB4.out hX
      exact ⟨below_cell hX2 hlf f0, below_cell hX2 hlf f8, below_cell hX2 hlw1 dt, below_cell hX2 hlw1 di, (HV.out.below hX HV.out.lt).cell (i := 0) rfl, (HV.out.below hX HV.out.lt).cell (i := 8) rfl, below_cell hX2 hls s0⟩
    have HB5 := Lib.hid (chain HB3.out HB4.out)
    obtain ⟨k0, k1, k2, k3, k4, k5, k6⟩ := KQ.out _ (Below.refl _ _)
    have hw10 : IntKind.i64.wrap 1 = 1 := by decide
    have hw11 : IntKind.i64.wrap 0 = 0 := by decide
    clear f0 f8 dt di dx s0 r0 r1 r2 r3 r4 r5 r6 r7 r8
    go_region_held3 (fun X => X.cell? ⟨W.heap.size, 0, none⟩ = some (.int .i64 op) ∧ X.cell? ⟨W.heap.size, 8, none⟩ = some (.slice (some ⟨bb, o, none⟩) 2 m4) ∧ X.cell? ⟨w.heap.size + 1, d, none⟩ = some (.int .i64 op) ∧ X.cell? ⟨w.heap.size + 1, e, none⟩ = some (.int .i64 q) ∧ X.cell? ⟨w2.heap.size, 0, none⟩ = some (.int .i64 q) ∧ X.cell? ⟨w2.heap.size, 8, none⟩ = some (.slice Ab4 2 mb4) ∧ X.cell? ⟨bb, o, none⟩ = some (.int .i64 7))
      (first
        | with_reducible exact KQ.out _ (Below.refl W3.heap.size W3)
        | with_reducible exact KQ.out _ (Below.refl W3.heap.size W3).drew
        | with_reducible exact KQ.out _ HB6.out)
      ((go_at_call 9; (with_reducible refine (HAW.out _ HB5.out.drew).mono ?_); rintro e9 w9 ⟨rfl, hb9⟩; have HB6 := Lib.hid (Below.trans (Below.refl W3.heap.size W3).drew hb9)))
    go_wp2_with fail
    go_ret
    exact ⟨rfl, chain HB5.out HB6.out⟩
set_option maxHeartbeats 20000000 in
set_option maxRecDepth 100000 in
theorem levels_eq124 (d e : Nat) (x y : ByteArray) (z k : Int) (w : World) (tx : ByteArray) (v : V) (ps : List ByteArray) (f0 f1 : Ft) (a : Nat) (op : Int) (q p0 p1 : Int) (hE : ErrIn w) (hG : SgIn w) (hd : d < 9) (he : e < 9) (hx : x.size ≤ 3) (hy : y.size ≤ 3) (hik : ((d : Int) == (e : Int)) = true) (hlt : ¬ d < e) (h61 : (x.toList == [61]) = false) (h60 : (x.toList == [60]) = false) (h124 : (x.toList == [124]) = true) (hg1 : f1.opn = q) (hg2 : f1.subs.length = 2) (ho : f0.opn = 7) (hW : Below w.heap.size w ((w.alloc (.cells #[.string ⟨#[124]⟩, .string ⟨#[44]⟩, .string ⟨#[61]⟩, .string ⟨#[47, 47]⟩, .string ⟨#[111, 114]⟩, .string ⟨#[97, 110, 100]⟩, .string ⟨#[60]⟩, .string ⟨#[43]⟩, .string ⟨#[42]⟩] 9)).alloc (.cells #[.int .i64 12, .int .i64 13, .int .i64 27, .int .i64 14, .int .i64 15, .int .i64 16, .int .i64 17, .int .i64 17, .int .i64 17] 3)) ∧ ((w.alloc (.cells #[.string ⟨#[124]⟩, .string ⟨#[44]⟩, .string ⟨#[61]⟩, .string ⟨#[47, 47]⟩, .string ⟨#[111, 114]⟩, .string ⟨#[97, 110, 100]⟩, .string ⟨#[60]⟩, .string ⟨#[43]⟩, .string ⟨#[42]⟩] 9)).alloc (.cells #[.int .i64 12, .int .i64 13, .int .i64 27, .int .i64 14, .int .i64 15, .int .i64 16, .int .i64 17, .int .i64 17, .int .i64 17] 3)).cell? ⟨w.heap.size, d, none⟩ = some (.string x) ∧ ((w.alloc (.cells #[.string ⟨#[124]⟩, .string ⟨#[44]⟩, .string ⟨#[61]⟩, .string ⟨#[47, 47]⟩, .string ⟨#[111, 114]⟩, .string ⟨#[97, 110, 100]⟩, .string ⟨#[60]⟩, .string ⟨#[43]⟩, .string ⟨#[42]⟩] 9)).alloc (.cells #[.int .i64 12, .int .i64 13, .int .i64 27, .int .i64 14, .int .i64 15, .int .i64 16, .int .i64 17, .int .i64 17, .int .i64 17] 3)).cell? ⟨w.heap.size, e, none⟩ = some (.string y) ∧ ((w.alloc (.cells #[.string ⟨#[124]⟩, .string ⟨#[44]⟩, .string ⟨#[61]⟩, .string ⟨#[47, 47]⟩, .string ⟨#[111, 114]⟩, .string ⟨#[97, 110, 100]⟩, .string ⟨#[60]⟩, .string ⟨#[43]⟩, .string ⟨#[42]⟩] 9)).alloc (.cells #[.int .i64 12, .int .i64 13, .int .i64 27, .int .i64 14, .int .i64 15, .int .i64 16, .int .i64 17, .int .i64 17, .int .i64 17] 3)).cell? ⟨w.heap.size + 1, d, none⟩ = some (.int .i64 op) ∧ ((w.alloc (.cells #[.string ⟨#[124]⟩, .string ⟨#[44]⟩, .string ⟨#[61]⟩, .string ⟨#[47, 47]⟩, .string ⟨#[111, 114]⟩, .string ⟨#[97, 110, 100]⟩, .string ⟨#[60]⟩, .string ⟨#[43]⟩, .string ⟨#[42]⟩] 9)).alloc (.cells #[.int .i64 12, .int .i64 13, .int .i64 27, .int .i64 14, .int .i64 15, .int .i64 16, .int .i64 17, .int .i64 17, .int .i64 17] 3)).cell? ⟨w.heap.size + 1, e, none⟩ = some (.int .i64 q)) (hm1 : ∀ W, Calls Tryz.prog 10 #[.int .i64 z, .int .i64 9] W fun e w' => e = .returned (.int .i64 (d : Int)) ∧ W = w') (hm2 : ∀ W, Calls Tryz.prog 10 #[.int .i64 k, .int .i64 9] W fun e' w' => e' = .returned (.int .i64 (e : Int)) ∧ W = w') (hp : ∀ W, Below w.heap.size w W → Calls Tryz.prog 8 #[.string ((⟨#[49, 32]⟩ : ByteArray) ++ x ++ (⟨#[32, 50, 32]⟩ : ByteArray) ++ y ++ (⟨#[32, 51]⟩ : ByteArray))] W (FParsePost W (.mk op tx v ps [f0, f1], a, 0))) :
    Calls Tryz.prog 5 #[.int .i64 z, .int .i64 k] w fun e w' => e = .returned (.bool true) ∧ Below w.heap.size w w' := by
  have HAW := Lib.hid (fun (W : World) (h : Below w.heap.size w W) => pawake_any W (hE.next h) (hG.next h))
  have HM1 := Lib.hid hm1
  have HM2 := Lib.hid hm2
  have HP := Lib.hid hp
  have HW := Lib.hid hW
  have hd0 : (0 : Int) ≤ (d : Int) := by omega
  have hd1 : (d : Int) < 9 := by omega
  have he0 : (0 : Int) ≤ (e : Int) := by omega
  have he1 : (e : Int) < 9 := by omega
  clear hE hG hm1 hm2 hp hW
  go_enter Tryz.func5, Tryz.ntmps5
  go_wp2_with (first
    | (go_at_call 10; (with_reducible refine (HM1.out _).mono ?_); rintro e w' ⟨rfl, rfl⟩)
    | (go_at_call 10; (with_reducible refine (HM2.out _).mono ?_); rintro e w' ⟨rfl, rfl⟩))
  generalize ((w.alloc (.cells #[.string ⟨#[124]⟩, .string ⟨#[44]⟩, .string ⟨#[61]⟩, .string ⟨#[47, 47]⟩, .string ⟨#[111, 114]⟩, .string ⟨#[97, 110, 100]⟩, .string ⟨#[60]⟩, .string ⟨#[43]⟩, .string ⟨#[42]⟩] 9)).alloc (.cells #[.int .i64 12, .int .i64 13, .int .i64 27, .int .i64 14, .int .i64 15, .int .i64 16, .int .i64 17, .int .i64 17, .int .i64 17] 3)) = W at HW ⊢
  obtain ⟨hb0, cx, cy, ct, ci⟩ := HW.out
  have hlt0 : w.heap.size < W.heap.size := (cell_lt cx)
  have hlt1 : w.heap.size + 1 < W.heap.size := (cell_lt ct)
  have qa : ¬ (2 + x.size > 9223372036854775807) := by omega
  have qb : ¬ (2 + x.size + 3 > 9223372036854775807) := by omega
  have qc : ¬ (2 + x.size + 3 + y.size > 9223372036854775807) := by omega
  have qd : ¬ (2 + x.size + 3 + y.size + 2 > 9223372036854775807) := by omega
  have KP : Hid (∀ X, Below W.heap.size W X → X.cell? ⟨w.heap.size, d, none⟩ = some (.string x) ∧ X.cell? ⟨w.heap.size, e, none⟩ = some (.string y)) := Lib.hid fun X hX => ⟨below_cell hX hlt0 cx, below_cell hX hlt0 cy⟩
  have HB0 := Lib.hid hb0
  clear hb0 HW hx hy
  go_region_held3 (fun X => X.cell? ⟨w.heap.size, d, none⟩ = some (.string x) ∧ X.cell? ⟨w.heap.size, e, none⟩ = some (.string y))
    (first
      | with_reducible exact KP.out _ (Below.refl W.heap.size W)
      | with_reducible exact KP.out _ (Below.refl W.heap.size W).drew
      | with_reducible exact KP.out _ ((Below.refl W.heap.size W).alloc (Nat.le_refl _) _)
      | with_reducible exact KP.out _ ((Below.refl W.heap.size W).alloc (Nat.le_refl _) _).drew
      | with_reducible exact KP.out _ ((Below.refl W.heap.size W).drew.alloc (Below.refl W.heap.size W).drew.size _)
      | with_reducible exact KP.out _ HBx.out
      | with_reducible exact KP.out _ HBx.out.drew
      | with_reducible exact KP.out _ (HBx.out.alloc HBx.out.size _)
      | with_reducible exact KP.out _ (HBx.out.alloc HBx.out.size _).drew
      | with_reducible exact KP.out _ (HBx.out.drew.alloc HBx.out.drew.size _)
      | with_reducible exact KP.out _ (below9' HBx.out (Nat.le_refl _) _ _ _ _ _ _ _ _ _)
      | with_reducible exact KP.out _ (below9' HBx.out.drew (Nat.le_refl _) _ _ _ _ _ _ _ _ _))
    (first
      | (go_at_call 8; (with_reducible refine (HP.out _ (HB0.out.alloc HB0.out.size _).drew).mono ?_); rintro e1 w1 ⟨c0, c1, c2, c3, c4, c5, c6, c7, c8, rfl, hb1, hl1⟩; obtain ⟨kk, nn, st, A1, n1, m1, A2, n2, m2, A3, m3, bb, o, m4, a0, a1, a2, a3, a4, a5, a6, a7, a8, b0, b1, b2, b3, b4, b5, b6, b7, b8, hcs, hS, hm4, hla, hlb, ha, hbb⟩ := two_subs hl1; simp only [List.cons.injEq, and_true] at hcs; obtain ⟨rfl, rfl, rfl, rfl, rfl, rfl, rfl, rfl, rfl⟩ := hcs; have HBx := Lib.hid (Below.trans ((Below.refl W.heap.size W).alloc (Nat.le_refl _) (.cells z9 32)).drew (hb1.mono (by simp))); have HZ : Hid (Box w1 W.heap.size 32 z9) := Lib.hid (Box.below (Box.drewOne (Box.laid W 32 z9)) hb1 (by simp)); obtain ⟨⟨y0, y1, y2, y3, y4, y5, y6, y7, y8⟩, z0, z1, z2, z3, z4, z5, z6, z7, z8⟩ := box9z HZ.out)
      | (go_at_call 8; (with_reducible refine (HP.out _ HB0.out.drew).mono ?_); rintro e1 w1 ⟨c0, c1, c2, c3, c4, c5, c6, c7, c8, rfl, hb1, hl1⟩; obtain ⟨kk, nn, st, A1, n1, m1, A2, n2, m2, A3, m3, bb, o, m4, a0, a1, a2, a3, a4, a5, a6, a7, a8, b0, b1, b2, b3, b4, b5, b6, b7, b8, hcs, hS, hm4, hla, hlb, ha, hbb⟩ := two_subs hl1; simp only [List.cons.injEq, and_true] at hcs; obtain ⟨rfl, rfl, rfl, rfl, rfl, rfl, rfl, rfl, rfl⟩ := hcs; have HBx := Lib.hid (Below.trans (Below.refl W.heap.size W).drew hb1)))
  · have HFB := Lib.hid (Box.laid w1 32 #[.int .i64 op, .string tx, .int .i64 kk, .int .i64 nn, .string st, .slice A1 n1 m1, .slice A2 n2 m2, .slice A3 ps.length m3, .slice (some ⟨bb, o, none⟩) 2 m4])
    have HB2 := Lib.hid (HBx.out.alloc HBx.out.size (.cells #[.int .i64 op, .string tx, .int .i64 kk, .int .i64 nn, .string st, .slice A1 n1 m1, .slice A2 n2 m2, .slice A3 ps.length m3, .slice (some ⟨bb, o, none⟩) 2 m4] 32))
    have HGr : Hid (Gr w1.heap.size w1 (w1.alloc (.cells #[.int .i64 op, .string tx, .int .i64 kk, .int .i64 nn, .string st, .slice A1 n1 m1, .slice A2 n2 m2, .slice A3 ps.length m3, .slice (some ⟨bb, o, none⟩) 2 m4] 32))) := Lib.hid ((Gr.refl _ _).alloc _)
    generalize w1.alloc (.cells #[.int .i64 op, .string tx, .int .i64 kk, .int .i64 nn, .string st, .slice A1 n1 m1, .slice A2 n2 m2, .slice A3 ps.length m3, .slice (some ⟨bb, o, none⟩) 2 m4] 32) = w2 at HFB HB2 HGr ⊢
    obtain ⟨txa, ka, ja, sa, Aa1, na1, ma1, Aa2, na2, ma2, Aa3, na3, ma3, Aa4, ma4, rfl, rfl, rfl, rfl, rfl, rfl, rfl, rfl, rfl⟩ := opn_form hla
    obtain ⟨txb, kb, jb, sb, Ab1, nb1, mb1, Ab2, nb2, mb2, Ab3, nb3, mb3, Ab4, mb4, rfl, rfl, rfl, rfl, rfl, rfl, rfl, rfl, rfl⟩ := opn_form hlb
    have dx := below_cell HB2.out hlt0 cx
    have dt := below_cell HB2.out hlt1 ct
    have di := below_cell HB2.out hlt1 ci
    rw [hg1] at hbb
    rw [ho] at ha
    rw [hg2] at hbb
    have HB3 := Lib.hid (chain HB0.out HB2.out)
    have hls : bb < w2.heap.size := Nat.lt_of_lt_of_le hS.2 HGr.out.size
    have hne : bb ≠ w1.heap.size := by have := hS.2; omega
    have hw2 := HB2.out.size
    have hlw0 : w.heap.size < w2.heap.size := by omega
    have hlw1 : w.heap.size + 1 < w2.heap.size := by omega
    have hlf := HFB.out.lt
    have f0 := HFB.out.cell (i := 0) rfl
    have f8 := HFB.out.cell (i := 8) rfl
    have r0 := (HGr.out.cell hS.2 hne).trans (hbb 0 _ rfl)
    have r1 := (HGr.out.cell hS.2 hne).trans (hbb 1 _ rfl)
    have r2 := (HGr.out.cell hS.2 hne).trans (hbb 2 _ rfl)
    have r3 := (HGr.out.cell hS.2 hne).trans (hbb 3 _ rfl)
    have r4 := (HGr.out.cell hS.2 hne).trans (hbb 4 _ rfl)
    have r5 := (HGr.out.cell hS.2 hne).trans (hbb 5 _ rfl)
    have r6 := (HGr.out.cell hS.2 hne).trans (hbb 6 _ rfl)
    have r7 := (HGr.out.cell hS.2 hne).trans (hbb 7 _ rfl)
    have r8 := (HGr.out.cell hS.2 hne).trans (hbb 8 _ rfl)
    have s0 := (HGr.out.cell hS.2 hne).trans (ha 0 _ rfl)
    rw [Nat.add_zero] at r0 s0
    clear ha hbb hg1 hg2 ho hla hlb hl1 hb1 hS cx cy ct ci hne hw2
    go_wp2_with fail
    have HV := Lib.hid (Box.laid w2 32 #[.int .i64 q, .string txb, .int .i64 kb, .int .i64 jb, .string sb, .slice Ab1 nb1 mb1, .slice Ab2 nb2 mb2, .slice Ab3 nb3 mb3, .slice Ab4 2 mb4])
    have HB4 := Lib.hid ((Below.refl w2.heap.size w2).alloc (Nat.le_refl _) (.cells #[.int .i64 q, .string txb, .int .i64 kb, .int .i64 jb, .string sb, .slice Ab1 nb1 mb1, .slice Ab2 nb2 mb2, .slice Ab3 nb3 mb3, .slice Ab4 2 mb4] 32))
    generalize w2.alloc (.cells #[.int .i64 q, .string txb, .int .i64 kb, .int .i64 jb, .string sb, .slice Ab1 nb1 mb1, .slice Ab2 nb2 mb2, .slice Ab3 nb3 mb3, .slice Ab4 2 mb4] 32) = W3 at HV HB4 ⊢
    have KQ : Hid (∀ X, Below W3.heap.size W3 X → X.cell? ⟨w1.heap.size, 0, none⟩ = some (.int .i64 op) ∧ X.cell? ⟨w1.heap.size, 8, none⟩ = some (.slice (some ⟨bb, o, none⟩) 2 m4) ∧ X.cell? ⟨w.heap.size + 1, d, none⟩ = some (.int .i64 op) ∧ X.cell? ⟨w.heap.size + 1, e, none⟩ = some (.int .i64 q) ∧ X.cell? ⟨w2.heap.size, 0, none⟩ = some (.int .i64 q) ∧ X.cell? ⟨w2.heap.size, 8, none⟩ = some (.slice Ab4 2 mb4) ∧ X.cell? ⟨bb, o, none⟩ = some (.int .i64 7)) := Lib.hid fun X hX => by
      have hX2 := chain HB4.out hX
      exact ⟨below_cell hX2 hlf f0, below_cell hX2 hlf f8, below_cell hX2 hlw1 dt, below_cell hX2 hlw1 di, (HV.out.below hX HV.out.lt).cell (i := 0) rfl, (HV.out.below hX HV.out.lt).cell (i := 8) rfl, below_cell hX2 hls s0⟩
    have HB5 := Lib.hid (chain HB3.out HB4.out)
    obtain ⟨k0, k1, k2, k3, k4, k5, k6⟩ := KQ.out _ (Below.refl _ _)
    have hw10 : IntKind.i64.wrap 1 = 1 := by decide
    have hw11 : IntKind.i64.wrap 0 = 0 := by decide
    clear f0 f8 dt di dx s0 r0 r1 r2 r3 r4 r5 r6 r7 r8
    go_region_held3 (fun X => X.cell? ⟨w1.heap.size, 0, none⟩ = some (.int .i64 op) ∧ X.cell? ⟨w1.heap.size, 8, none⟩ = some (.slice (some ⟨bb, o, none⟩) 2 m4) ∧ X.cell? ⟨w.heap.size + 1, d, none⟩ = some (.int .i64 op) ∧ X.cell? ⟨w.heap.size + 1, e, none⟩ = some (.int .i64 q) ∧ X.cell? ⟨w2.heap.size, 0, none⟩ = some (.int .i64 q) ∧ X.cell? ⟨w2.heap.size, 8, none⟩ = some (.slice Ab4 2 mb4) ∧ X.cell? ⟨bb, o, none⟩ = some (.int .i64 7))
      (first
        | with_reducible exact KQ.out _ (Below.refl W3.heap.size W3)
        | with_reducible exact KQ.out _ (Below.refl W3.heap.size W3).drew
        | with_reducible exact KQ.out _ HB6.out)
      ((go_at_call 9; (with_reducible refine (HAW.out _ HB5.out.drew).mono ?_); rintro e9 w9 ⟨rfl, hb9⟩; have HB6 := Lib.hid (Below.trans (Below.refl W3.heap.size W3).drew hb9)))
    go_wp2_with fail
    go_ret
    exact ⟨rfl, chain HB5.out HB6.out⟩
  · clear y0 y1 y2 y3 y4 y5 y6 y7 y8 z0 z1 z2 z3 z4 z5 z6 z7 z8
    have HFB := Lib.hid (HZ.out.put9z (.int .i64 op) (.string tx) (.int .i64 kk) (.int .i64 nn) (.string st) (.slice A1 n1 m1) (.slice A2 n2 m2) (.slice A3 ps.length m3) (.slice (some ⟨bb, o, none⟩) 2 m4))
    have HB2 := Lib.hid (below9' HBx.out (Nat.le_refl _) (.int .i64 op) (.string tx) (.int .i64 kk) (.int .i64 nn) (.string st) (.slice A1 n1 m1) (.slice A2 n2 m2) (.slice A3 ps.length m3) (.slice (some ⟨bb, o, none⟩) 2 m4))
    have HGr : Hid (Gr W.heap.size w1 ((((((((((w1.setCell ⟨W.heap.size, 0, none⟩ (.int .i64 op)).setCell ⟨W.heap.size, 1, none⟩ (.string tx)).setCell ⟨W.heap.size, 2, none⟩ (.int .i64 kk)).setCell ⟨W.heap.size, 3, none⟩ (.int .i64 nn)).setCell ⟨W.heap.size, 4, none⟩ (.string st)).setCell ⟨W.heap.size, 5, none⟩ (.slice A1 n1 m1)).setCell ⟨W.heap.size, 6, none⟩ (.slice A2 n2 m2)).setCell ⟨W.heap.size, 7, none⟩ (.slice A3 ps.length m3)).setCell ⟨W.heap.size, 8, none⟩ (.slice (some ⟨bb, o, none⟩) 2 m4)))) := Lib.hid ((((((((((Gr.refl _ _).set 0 _).set 1 _).set 2 _).set 3 _).set 4 _).set 5 _).set 6 _).set 7 _).set 8 _)
    generalize (((((((((w1.setCell ⟨W.heap.size, 0, none⟩ (.int .i64 op)).setCell ⟨W.heap.size, 1, none⟩ (.string tx)).setCell ⟨W.heap.size, 2, none⟩ (.int .i64 kk)).setCell ⟨W.heap.size, 3, none⟩ (.int .i64 nn)).setCell ⟨W.heap.size, 4, none⟩ (.string st)).setCell ⟨W.heap.size, 5, none⟩ (.slice A1 n1 m1)).setCell ⟨W.heap.size, 6, none⟩ (.slice A2 n2 m2)).setCell ⟨W.heap.size, 7, none⟩ (.slice A3 ps.length m3)).setCell ⟨W.heap.size, 8, none⟩ (.slice (some ⟨bb, o, none⟩) 2 m4)) = w2 at HFB HB2 HGr ⊢
    obtain ⟨txa, ka, ja, sa, Aa1, na1, ma1, Aa2, na2, ma2, Aa3, na3, ma3, Aa4, ma4, rfl, rfl, rfl, rfl, rfl, rfl, rfl, rfl, rfl⟩ := opn_form hla
    obtain ⟨txb, kb, jb, sb, Ab1, nb1, mb1, Ab2, nb2, mb2, Ab3, nb3, mb3, Ab4, mb4, rfl, rfl, rfl, rfl, rfl, rfl, rfl, rfl, rfl⟩ := opn_form hlb
    have dx := below_cell HB2.out hlt0 cx
    have dt := below_cell HB2.out hlt1 ct
    have di := below_cell HB2.out hlt1 ci
    rw [hg1] at hbb
    rw [ho] at ha
    rw [hg2] at hbb
    have HB3 := Lib.hid (chain HB0.out HB2.out)
    have hls : bb < w2.heap.size := Nat.lt_of_lt_of_le hS.2 HGr.out.size
    have hne : bb ≠ W.heap.size := by have := hS.1; simp at this; omega
    have hw2 := HB2.out.size
    have hlw0 : w.heap.size < w2.heap.size := by omega
    have hlw1 : w.heap.size + 1 < w2.heap.size := by omega
    have hlf := HFB.out.lt
    have f0 := HFB.out.cell (i := 0) rfl
    have f8 := HFB.out.cell (i := 8) rfl
    have r0 := (HGr.out.cell hS.2 hne).trans (hbb 0 _ rfl)
    have r1 := (HGr.out.cell hS.2 hne).trans (hbb 1 _ rfl)
    have r2 := (HGr.out.cell hS.2 hne).trans (hbb 2 _ rfl)
    have r3 := (HGr.out.cell hS.2 hne).trans (hbb 3 _ rfl)
    have r4 := (HGr.out.cell hS.2 hne).trans (hbb 4 _ rfl)
    have r5 := (HGr.out.cell hS.2 hne).trans (hbb 5 _ rfl)
    have r6 := (HGr.out.cell hS.2 hne).trans (hbb 6 _ rfl)
    have r7 := (HGr.out.cell hS.2 hne).trans (hbb 7 _ rfl)
    have r8 := (HGr.out.cell hS.2 hne).trans (hbb 8 _ rfl)
    have s0 := (HGr.out.cell hS.2 hne).trans (ha 0 _ rfl)
    rw [Nat.add_zero] at r0 s0
    clear ha hbb hg1 hg2 ho hla hlb hl1 hb1 hS cx cy ct ci hne hw2
    go_wp2_with fail
    have HV := Lib.hid (Box.laid w2 32 #[.int .i64 q, .string txb, .int .i64 kb, .int .i64 jb, .string sb, .slice Ab1 nb1 mb1, .slice Ab2 nb2 mb2, .slice Ab3 nb3 mb3, .slice Ab4 2 mb4])
    have HB4 := Lib.hid ((Below.refl w2.heap.size w2).alloc (Nat.le_refl _) (.cells #[.int .i64 q, .string txb, .int .i64 kb, .int .i64 jb, .string sb, .slice Ab1 nb1 mb1, .slice Ab2 nb2 mb2, .slice Ab3 nb3 mb3, .slice Ab4 2 mb4] 32))
    generalize w2.alloc (.cells #[.int .i64 q, .string txb, .int .i64 kb, .int .i64 jb, .string sb, .slice Ab1 nb1 mb1, .slice Ab2 nb2 mb2, .slice Ab3 nb3 mb3, .slice Ab4 2 mb4] 32) = W3 at HV HB4 ⊢
    have KQ : Hid (∀ X, Below W3.heap.size W3 X → X.cell? ⟨W.heap.size, 0, none⟩ = some (.int .i64 op) ∧ X.cell? ⟨W.heap.size, 8, none⟩ = some (.slice (some ⟨bb, o, none⟩) 2 m4) ∧ X.cell? ⟨w.heap.size + 1, d, none⟩ = some (.int .i64 op) ∧ X.cell? ⟨w.heap.size + 1, e, none⟩ = some (.int .i64 q) ∧ X.cell? ⟨w2.heap.size, 0, none⟩ = some (.int .i64 q) ∧ X.cell? ⟨w2.heap.size, 8, none⟩ = some (.slice Ab4 2 mb4) ∧ X.cell? ⟨bb, o, none⟩ = some (.int .i64 7)) := Lib.hid fun X hX => by
      have hX2 := chain HB4.out hX
      exact ⟨below_cell hX2 hlf f0, below_cell hX2 hlf f8, below_cell hX2 hlw1 dt, below_cell hX2 hlw1 di, (HV.out.below hX HV.out.lt).cell (i := 0) rfl, (HV.out.below hX HV.out.lt).cell (i := 8) rfl, below_cell hX2 hls s0⟩
    have HB5 := Lib.hid (chain HB3.out HB4.out)
    obtain ⟨k0, k1, k2, k3, k4, k5, k6⟩ := KQ.out _ (Below.refl _ _)
    have hw10 : IntKind.i64.wrap 1 = 1 := by decide
    have hw11 : IntKind.i64.wrap 0 = 0 := by decide
    clear f0 f8 dt di dx s0 r0 r1 r2 r3 r4 r5 r6 r7 r8
    go_region_held3 (fun X => X.cell? ⟨W.heap.size, 0, none⟩ = some (.int .i64 op) ∧ X.cell? ⟨W.heap.size, 8, none⟩ = some (.slice (some ⟨bb, o, none⟩) 2 m4) ∧ X.cell? ⟨w.heap.size + 1, d, none⟩ = some (.int .i64 op) ∧ X.cell? ⟨w.heap.size + 1, e, none⟩ = some (.int .i64 q) ∧ X.cell? ⟨w2.heap.size, 0, none⟩ = some (.int .i64 q) ∧ X.cell? ⟨w2.heap.size, 8, none⟩ = some (.slice Ab4 2 mb4) ∧ X.cell? ⟨bb, o, none⟩ = some (.int .i64 7))
      (first
        | with_reducible exact KQ.out _ (Below.refl W3.heap.size W3)
        | with_reducible exact KQ.out _ (Below.refl W3.heap.size W3).drew
        | with_reducible exact KQ.out _ HB6.out)
      ((go_at_call 9; (with_reducible refine (HAW.out _ HB5.out.drew).mono ?_); rintro e9 w9 ⟨rfl, hb9⟩; have HB6 := Lib.hid (Below.trans (Below.refl W3.heap.size W3).drew hb9)))
    go_wp2_with fail
    go_ret
    exact ⟨rfl, chain HB5.out HB6.out⟩
end Go.Proofs.YthiempadgehhlaaGreatDoor
