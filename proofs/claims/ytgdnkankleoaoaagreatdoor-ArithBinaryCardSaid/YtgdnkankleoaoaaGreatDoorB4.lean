/- ArithBinary: its operator; what its calls hand back. ArithBinary answers true for every number and every two values. -/
import Derived.Test.YtgdnkankleoaoaaGreatDoorB1
import Derived.Test.YtgdnkankleoaoaaGreatDoorA37
import Derived.Test.YtgdnkankleoaoaaGreatDoorA45
import Derived.Test.YtgdnkankleoaoaaGreatDoorA36
import Derived.Test.YtgdnkankleoaoaaGreatDoorRbn
import Derived.StillTailTactics
import Derived.Deep.QuietTactic
import Derived.Deep.LoopGhost
set_option linter.unusedVariables false
set_option linter.unusedSimpArgs false
namespace Go.Proofs.YtgdnkankleoaoaaGreatDoor
open Go.RowKit Go.Sort Go.Lib
/-- The operators in the law's order. -/
def opList : List ByteArray := [⟨#[43]⟩, ⟨#[45]⟩, ⟨#[42]⟩, ⟨#[47]⟩, ⟨#[37]⟩, ⟨#[61, 61]⟩, ⟨#[33, 61]⟩, ⟨#[60]⟩, ⟨#[60, 61]⟩, ⟨#[62]⟩, ⟨#[62, 61]⟩]
theorem refr_post {v : V} {err : Int} {w w' : World} {e : Ending} (h : RetPost v err w e w') : RetR v err w e w' := by
  obtain ⟨hb, ds, he, hl⟩ := h
  exact ⟨hb, ds, he, hl.move fun b hb => ⟨hb.2, rfl⟩⟩
set_option maxHeartbeats 4000000 in
set_option maxRecDepth 100000 in
theorem oper_0 (n : Int) (w : World) (HMOD : ∀ W, Calls Tryz.prog 28 #[.int .i64 n, .int .i64 11] W fun e w' => e = .returned (.int .i64 0) ∧ W = w') :
    Calls Tryz.prog 13 #[.int .i64 n] w fun e w' => e = .returned (.string ⟨#[43]⟩) ∧ Below w.heap.size w w' := by
  have HM := Lib.hid HMOD
  have HB := Lib.hid (below1 w (.cells #[.string ⟨#[43]⟩, .string ⟨#[45]⟩, .string ⟨#[42]⟩, .string ⟨#[47]⟩, .string ⟨#[37]⟩, .string ⟨#[61, 61]⟩, .string ⟨#[33, 61]⟩, .string ⟨#[60]⟩, .string ⟨#[60, 61]⟩, .string ⟨#[62]⟩, .string ⟨#[62, 61]⟩] 9))
  clear HMOD
  go_enter Tryz.func13, Tryz.ntmps13
  go_wp2_with fail
  refine (HM.out _).mono ?_
  rintro e1 w1 ⟨rfl, rfl⟩
  go_wp2_with fail
  go_ret
  exact ⟨rfl, HB.out⟩
set_option maxHeartbeats 4000000 in
set_option maxRecDepth 100000 in
theorem oper_1 (n : Int) (w : World) (HMOD : ∀ W, Calls Tryz.prog 28 #[.int .i64 n, .int .i64 11] W fun e w' => e = .returned (.int .i64 1) ∧ W = w') :
    Calls Tryz.prog 13 #[.int .i64 n] w fun e w' => e = .returned (.string ⟨#[45]⟩) ∧ Below w.heap.size w w' := by
  have HM := Lib.hid HMOD
  have HB := Lib.hid (below1 w (.cells #[.string ⟨#[43]⟩, .string ⟨#[45]⟩, .string ⟨#[42]⟩, .string ⟨#[47]⟩, .string ⟨#[37]⟩, .string ⟨#[61, 61]⟩, .string ⟨#[33, 61]⟩, .string ⟨#[60]⟩, .string ⟨#[60, 61]⟩, .string ⟨#[62]⟩, .string ⟨#[62, 61]⟩] 9))
  clear HMOD
  go_enter Tryz.func13, Tryz.ntmps13
  go_wp2_with fail
  refine (HM.out _).mono ?_
  rintro e1 w1 ⟨rfl, rfl⟩
  go_wp2_with fail
  go_ret
  exact ⟨rfl, HB.out⟩
set_option maxHeartbeats 4000000 in
set_option maxRecDepth 100000 in
theorem oper_2 (n : Int) (w : World) (HMOD : ∀ W, Calls Tryz.prog 28 #[.int .i64 n, .int .i64 11] W fun e w' => e = .returned (.int .i64 2) ∧ W = w') :
    Calls Tryz.prog 13 #[.int .i64 n] w fun e w' => e = .returned (.string ⟨#[42]⟩) ∧ Below w.heap.size w w' := by
  have HM := Lib.hid HMOD
  have HB := Lib.hid (below1 w (.cells #[.string ⟨#[43]⟩, .string ⟨#[45]⟩, .string ⟨#[42]⟩, .string ⟨#[47]⟩, .string ⟨#[37]⟩, .string ⟨#[61, 61]⟩, .string ⟨#[33, 61]⟩, .string ⟨#[60]⟩, .string ⟨#[60, 61]⟩, .string ⟨#[62]⟩, .string ⟨#[62, 61]⟩] 9))
  clear HMOD
  go_enter Tryz.func13, Tryz.ntmps13
  go_wp2_with fail
  refine (HM.out _).mono ?_
  rintro e1 w1 ⟨rfl, rfl⟩
  go_wp2_with fail
  go_ret
  exact ⟨rfl, HB.out⟩
set_option maxHeartbeats 4000000 in
set_option maxRecDepth 100000 in
theorem oper_3 (n : Int) (w : World) (HMOD : ∀ W, Calls Tryz.prog 28 #[.int .i64 n, .int .i64 11] W fun e w' => e = .returned (.int .i64 3) ∧ W = w') :
    Calls Tryz.prog 13 #[.int .i64 n] w fun e w' => e = .returned (.string ⟨#[47]⟩) ∧ Below w.heap.size w w' := by
  have HM := Lib.hid HMOD
  have HB := Lib.hid (below1 w (.cells #[.string ⟨#[43]⟩, .string ⟨#[45]⟩, .string ⟨#[42]⟩, .string ⟨#[47]⟩, .string ⟨#[37]⟩, .string ⟨#[61, 61]⟩, .string ⟨#[33, 61]⟩, .string ⟨#[60]⟩, .string ⟨#[60, 61]⟩, .string ⟨#[62]⟩, .string ⟨#[62, 61]⟩] 9))
  clear HMOD
  go_enter Tryz.func13, Tryz.ntmps13
  go_wp2_with fail
  refine (HM.out _).mono ?_
  rintro e1 w1 ⟨rfl, rfl⟩
  go_wp2_with fail
  go_ret
  exact ⟨rfl, HB.out⟩
set_option maxHeartbeats 4000000 in
set_option maxRecDepth 100000 in
theorem oper_4 (n : Int) (w : World) (HMOD : ∀ W, Calls Tryz.prog 28 #[.int .i64 n, .int .i64 11] W fun e w' => e = .returned (.int .i64 4) ∧ W = w') :
    Calls Tryz.prog 13 #[.int .i64 n] w fun e w' => e = .returned (.string ⟨#[37]⟩) ∧ Below w.heap.size w w' := by
  have HM := Lib.hid HMOD
  have HB := Lib.hid (below1 w (.cells #[.string ⟨#[43]⟩, .string ⟨#[45]⟩, .string ⟨#[42]⟩, .string ⟨#[47]⟩, .string ⟨#[37]⟩, .string ⟨#[61, 61]⟩, .string ⟨#[33, 61]⟩, .string ⟨#[60]⟩, .string ⟨#[60, 61]⟩, .string ⟨#[62]⟩, .string ⟨#[62, 61]⟩] 9))
  clear HMOD
  go_enter Tryz.func13, Tryz.ntmps13
  go_wp2_with fail
  refine (HM.out _).mono ?_
  rintro e1 w1 ⟨rfl, rfl⟩
  go_wp2_with fail
  go_ret
  exact ⟨rfl, HB.out⟩
set_option maxHeartbeats 4000000 in
set_option maxRecDepth 100000 in
theorem oper_5 (n : Int) (w : World) (HMOD : ∀ W, Calls Tryz.prog 28 #[.int .i64 n, .int .i64 11] W fun e w' => e = .returned (.int .i64 5) ∧ W = w') :
    Calls Tryz.prog 13 #[.int .i64 n] w fun e w' => e = .returned (.string ⟨#[61, 61]⟩) ∧ Below w.heap.size w w' := by
  have HM := Lib.hid HMOD
  have HB := Lib.hid (below1 w (.cells #[.string ⟨#[43]⟩, .string ⟨#[45]⟩, .string ⟨#[42]⟩, .string ⟨#[47]⟩, .string ⟨#[37]⟩, .string ⟨#[61, 61]⟩, .string ⟨#[33, 61]⟩, .string ⟨#[60]⟩, .string ⟨#[60, 61]⟩, .string ⟨#[62]⟩, .string ⟨#[62, 61]⟩] 9))
  clear HMOD
  go_enter Tryz.func13, Tryz.ntmps13
  go_wp2_with fail
  refine (HM.out _).mono ?_
  rintro e1 w1 ⟨rfl, rfl⟩
  go_wp2_with fail
  go_ret
  exact ⟨rfl, HB.out⟩
set_option maxHeartbeats 4000000 in
set_option maxRecDepth 100000 in
theorem oper_6 (n : Int) (w : World) (HMOD : ∀ W, Calls Tryz.prog 28 #[.int .i64 n, .int .i64 11] W fun e w' => e = .returned (.int .i64 6) ∧ W = w') :
    Calls Tryz.prog 13 #[.int .i64 n] w fun e w' => e = .returned (.string ⟨#[33, 61]⟩) ∧ Below w.heap.size w w' := by
  have HM := Lib.hid HMOD
  have HB := Lib.hid (below1 w (.cells #[.string ⟨#[43]⟩, .string ⟨#[45]⟩, .string ⟨#[42]⟩, .string ⟨#[47]⟩, .string ⟨#[37]⟩, .string ⟨#[61, 61]⟩, .string ⟨#[33, 61]⟩, .string ⟨#[60]⟩, .string ⟨#[60, 61]⟩, .string ⟨#[62]⟩, .string ⟨#[62, 61]⟩] 9))
  clear HMOD
  go_enter Tryz.func13, Tryz.ntmps13
  go_wp2_with fail
  refine (HM.out _).mono ?_
  rintro e1 w1 ⟨rfl, rfl⟩
  go_wp2_with fail
  go_ret
  exact ⟨rfl, HB.out⟩
set_option maxHeartbeats 4000000 in
set_option maxRecDepth 100000 in
theorem oper_7 (n : Int) (w : World) (HMOD : ∀ W, Calls Tryz.prog 28 #[.int .i64 n, .int .i64 11] W fun e w' => e = .returned (.int .i64 7) ∧ W = w') :
    Calls Tryz.prog 13 #[.int .i64 n] w fun e w' => e = .returned (.string ⟨#[60]⟩) ∧ Below w.heap.size w w' := by
  have HM := Lib.hid HMOD
  have HB := Lib.hid (below1 w (.cells #[.string ⟨#[43]⟩, .string ⟨#[45]⟩, .string ⟨#[42]⟩, .string ⟨#[47]⟩, .string ⟨#[37]⟩, .string ⟨#[61, 61]⟩, .string ⟨#[33, 61]⟩, .string ⟨#[60]⟩, .string ⟨#[60, 61]⟩, .string ⟨#[62]⟩, .string ⟨#[62, 61]⟩] 9))
  clear HMOD
  go_enter Tryz.func13, Tryz.ntmps13
  go_wp2_with fail
  refine (HM.out _).mono ?_
  rintro e1 w1 ⟨rfl, rfl⟩
  go_wp2_with fail
  go_ret
  exact ⟨rfl, HB.out⟩
set_option maxHeartbeats 4000000 in
set_option maxRecDepth 100000 in
theorem oper_8 (n : Int) (w : World) (HMOD : ∀ W, Calls Tryz.prog 28 #[.int .i64 n, .int .i64 11] W fun e w' => e = .returned (.int .i64 8) ∧ W = w') :
    Calls Tryz.prog 13 #[.int .i64 n] w fun e w' => e = .returned (.string ⟨#[60, 61]⟩) ∧ Below w.heap.size w w' := by
  have HM := Lib.hid HMOD
  have HB := Lib.hid (below1 w (.cells #[.string ⟨#[43]⟩, .string ⟨#[45]⟩, .string ⟨#[42]⟩, .string ⟨#[47]⟩, .string ⟨#[37]⟩, .string ⟨#[61, 61]⟩, .string ⟨#[33, 61]⟩, .string ⟨#[60]⟩, .string ⟨#[60, 61]⟩, .string ⟨#[62]⟩, .string ⟨#[62, 61]⟩] 9))
  clear HMOD
  go_enter Tryz.func13, Tryz.ntmps13
  go_wp2_with fail
  refine (HM.out _).mono ?_
  rintro e1 w1 ⟨rfl, rfl⟩
  go_wp2_with fail
  go_ret
  exact ⟨rfl, HB.out⟩
set_option maxHeartbeats 4000000 in
set_option maxRecDepth 100000 in
theorem oper_9 (n : Int) (w : World) (HMOD : ∀ W, Calls Tryz.prog 28 #[.int .i64 n, .int .i64 11] W fun e w' => e = .returned (.int .i64 9) ∧ W = w') :
    Calls Tryz.prog 13 #[.int .i64 n] w fun e w' => e = .returned (.string ⟨#[62]⟩) ∧ Below w.heap.size w w' := by
  have HM := Lib.hid HMOD
  have HB := Lib.hid (below1 w (.cells #[.string ⟨#[43]⟩, .string ⟨#[45]⟩, .string ⟨#[42]⟩, .string ⟨#[47]⟩, .string ⟨#[37]⟩, .string ⟨#[61, 61]⟩, .string ⟨#[33, 61]⟩, .string ⟨#[60]⟩, .string ⟨#[60, 61]⟩, .string ⟨#[62]⟩, .string ⟨#[62, 61]⟩] 9))
  clear HMOD
  go_enter Tryz.func13, Tryz.ntmps13
  go_wp2_with fail
  refine (HM.out _).mono ?_
  rintro e1 w1 ⟨rfl, rfl⟩
  go_wp2_with fail
  go_ret
  exact ⟨rfl, HB.out⟩
set_option maxHeartbeats 4000000 in
set_option maxRecDepth 100000 in
theorem oper_10 (n : Int) (w : World) (HMOD : ∀ W, Calls Tryz.prog 28 #[.int .i64 n, .int .i64 11] W fun e w' => e = .returned (.int .i64 10) ∧ W = w') :
    Calls Tryz.prog 13 #[.int .i64 n] w fun e w' => e = .returned (.string ⟨#[62, 61]⟩) ∧ Below w.heap.size w w' := by
  have HM := Lib.hid HMOD
  have HB := Lib.hid (below1 w (.cells #[.string ⟨#[43]⟩, .string ⟨#[45]⟩, .string ⟨#[42]⟩, .string ⟨#[47]⟩, .string ⟨#[37]⟩, .string ⟨#[61, 61]⟩, .string ⟨#[33, 61]⟩, .string ⟨#[60]⟩, .string ⟨#[60, 61]⟩, .string ⟨#[62]⟩, .string ⟨#[62, 61]⟩] 9))
  clear HMOD
  go_enter Tryz.func13, Tryz.ntmps13
  go_wp2_with fail
  refine (HM.out _).mono ?_
  rintro e1 w1 ⟨rfl, rfl⟩
  go_wp2_with fail
  go_ret
  exact ⟨rfl, HB.out⟩
theorem oper_any (n : Int) : ∃ op : ByteArray, ∀ w, Calls Tryz.prog 13 #[.int .i64 n] w fun e w' => e = .returned (.string op) ∧ Below w.heap.size w w' := by
  obtain ⟨d, hd, hm⟩ := kmod_nat n 11 (by decide) (by decide)
  match d, hd, hm with
  | 0, _, hm => exact ⟨⟨#[43]⟩, fun w => oper_0 n w hm⟩
  | 1, _, hm => exact ⟨⟨#[45]⟩, fun w => oper_1 n w hm⟩
  | 2, _, hm => exact ⟨⟨#[42]⟩, fun w => oper_2 n w hm⟩
  | 3, _, hm => exact ⟨⟨#[47]⟩, fun w => oper_3 n w hm⟩
  | 4, _, hm => exact ⟨⟨#[37]⟩, fun w => oper_4 n w hm⟩
  | 5, _, hm => exact ⟨⟨#[61, 61]⟩, fun w => oper_5 n w hm⟩
  | 6, _, hm => exact ⟨⟨#[33, 61]⟩, fun w => oper_6 n w hm⟩
  | 7, _, hm => exact ⟨⟨#[60]⟩, fun w => oper_7 n w hm⟩
  | 8, _, hm => exact ⟨⟨#[60, 61]⟩, fun w => oper_8 n w hm⟩
  | 9, _, hm => exact ⟨⟨#[62]⟩, fun w => oper_9 n w hm⟩
  | 10, _, hm => exact ⟨⟨#[62, 61]⟩, fun w => oper_10 n w hm⟩
  | d + 11, hd, _ => exact absurd hd (by omega)
end Go.Proofs.YtgdnkankleoaoaaGreatDoor
namespace Go.Proofs.YtgdnkankleoaoaaGreatDoor
open Go.RowKit Go.Sort Go.Lib
set_option maxHeartbeats 8000000 in
set_option maxRecDepth 100000 in
theorem arithBinary_walk (z : Int) (v u : V) (cs ds : List Value) (w : World) (h : Lies w (· < w.heap.size) v cs) (h' : Lies w (· < w.heap.size) u ds) (hml : MaxL w) (hT : Tabs w) :
    Calls Tryz.prog 3 #[.int .i64 z, .agg cs.toArray, .agg ds.toArray] w fun e w' => e = .returned (.bool true) ∧ Below w.heap.size w w' := by
  have haw := Lib.hid (fun W (hW : Below w.heap.size w W) => awake6_any W (hml.next hW))
  have hsm := Lib.hid (fun W (hW : Below w.heap.size w W) g hg => small_any 150 [v, u] (some ⟨g, 0, none⟩) 2 (cs ++ ds) W (two_rowM (below_lies hW h) (below_lies hW h') hg) (by simp) (by omega) (by omega))
  generalize smallP 150 [v, u] = sm at hsm
  obtain ⟨op, hop⟩ := oper_any z
  have HOP := Lib.hid hop
  obtain ⟨RV, hRV⟩ : ∃ R, R = (binR op v u).1 := ⟨_, rfl⟩
  obtain ⟨RE, hRE⟩ : ∃ R, R = (binR op v u).2 := ⟨_, rfl⟩
  have HP := Lib.hid (fun W (hW : Below w.heap.size w W) => retR_open ((binP_any op v u cs ds W (hml.next hW) (hT.next hW) (below_lies hW h) (below_lies hW h')).mono fun _ _ q => refr_post q))
  have HR := Lib.hid (fun W (hW : Below w.heap.size w W) => retR_open ((rbin_any op v u cs ds W (· < W.heap.size) (fun _ q => q) (below_lies hW h) (below_lies hW h')).mono fun _ _ q => retT_refP q))
  rw [← hRV, ← hRE] at HP HR
  have HSA := Lib.hid (fun (c d : List Value) W (hx : Lies W (· < W.heap.size) RV c) (hy : Lies W (· < W.heap.size) RV d) => same_selfx (W := W) hx hy)
  clear hRV hRE hop
  obtain ⟨k, n, s, ks, es⟩ := v
  obtain ⟨k2, n2, s2, ks2, es2⟩ := u
  obtain ⟨A, a, B, b, xs, rfl, -⟩ := lies_open h
  obtain ⟨A2, a2, B2, b2, xs2, rfl, -⟩ := lies_open h'
  have L1 := Lib.hid h
  have L2 := Lib.hid h'
  clear h h' hml hT
  show Calls _ _ #[.int .i64 z, .agg #[.int .i64 k, .int .i64 n, .string s, .slice A ks.length a, .slice B es.length b], .agg #[.int .i64 k2, .int .i64 n2, .string s2, .slice A2 ks2.length a2, .slice B2 es2.length b2]] w _
  obtain ⟨W0, hW0⟩ : ∃ X, X = (w.alloc (.cells #[.int .i64 k, .int .i64 n, .string s, .slice A ks.length a, .slice B es.length b] 25)).alloc (.cells #[.int .i64 k2, .int .i64 n2, .string s2, .slice A2 ks2.length a2, .slice B2 es2.length b2] 25) := ⟨_, rfl⟩
  have HB0 := Lib.hid (show Below w.heap.size w W0 by rw [hW0]; exact ((Below.refl _ _).alloc (Nat.le_refl _) _).alloc (by simp) _)
  have HX0 : Hid (Vx W0 w.heap.size (.mk k n s ks es) [.int .i64 k, .int .i64 n, .string s, .slice A ks.length a, .slice B es.length b]) := Lib.hid ⟨by rw [hW0]; exact (Box.laid w _ _).alloc _, below_lies HB0.out L1.out⟩
  have HY0 : Hid (Vx W0 (w.heap.size + 1) (.mk k2 n2 s2 ks2 es2) [.int .i64 k2, .int .i64 n2, .string s2, .slice A2 ks2.length a2, .slice B2 es2.length b2]) := Lib.hid ⟨by rw [hW0]; exact box_at _ _ _ _ (by simp), below_lies HB0.out L2.out⟩
  have HW0 := Lib.hid hW0
  have hsm1 := Lib.hid (hsm.out (W0.alloc (.cells #[.int .i64 k, .int .i64 n, .string s, .slice A ks.length a, .slice B es.length b, .int .i64 k2, .int .i64 n2, .string s2, .slice A2 ks2.length a2, .slice B2 es2.length b2] 25)) (chain HB0.out (below1 _ _)) W0.heap.size (Box.laid W0 _ _))
  clear hW0 hsm L1 L2
  obtain ⟨t0, t1, t2, t3, t4⟩ := box5 HX0.out.box
  obtain ⟨y0, y1, y2, y3, y4⟩ := box5 HY0.out.box
  go_enter Tryz.func3, Tryz.ntmps3
  go_upto_region 1 with fail
  rw [← HW0.out]
  go_wp2_with fail
  refine hsm1.out.mono ?_
  rintro e1 w1 ⟨rfl, hb1⟩
  have HB1 := Lib.hid (chain HB0.out (chain (below1 W0 _) hb1))
  have HX1 := Lib.hid (HX0.out.next (chain (below1 W0 _) hb1))
  have HY1 := Lib.hid (HY0.out.next (chain (below1 W0 _) hb1))
  clear hsm1 hb1 t0 t1 t2 t3 t4 y0 y1 y2 y3 y4 HX0 HY0 HB0 HW0
  cases sm with
  | false =>
    go_wp2_with fail
    refine (haw.out _ HB1.out).mono ?_
    rintro e9 w9 ⟨rfl, hb9⟩
    go_wp2_with fail
    go_ret
    exact ⟨rfl, chain HB1.out hb9⟩
  | true =>
  go_wp2_with fail
  refine (HOP.out _).mono ?_
  rintro e2 w2 ⟨rfl, hb2⟩
  have HB2 := Lib.hid (chain HB1.out hb2)
  have HX2 := Lib.hid (HX1.out.next hb2)
  have HY2 := Lib.hid (HY1.out.next hb2)
  clear hb2 HX1 HY1 HB1
  obtain ⟨t0, t1, t2, t3, t4⟩ := box5 HX2.out.box
  obtain ⟨y0, y1, y2, y3, y4⟩ := box5 HY2.out.box
  go_wp2_with fail
  refine (HP.out _ HB2.out).mono ?_
  rintro e3 x3 ⟨k3, n3, s3, ks3, es3, A3, a3, C3, c3, hv3, rfl, hb3, hl3⟩
  obtain ⟨w3, hw3⟩ : ∃ X, X = x3.alloc (.cells #[.int .i64 k3, .int .i64 n3, .string s3, .slice A3 ks3.length a3, .slice C3 es3.length c3] 25) := ⟨_, rfl⟩
  have hb3' : Below w2.heap.size w2 w3 := by rw [hw3]; exact chain hb3 (below1 _ _)
  have HB3 := Lib.hid (chain HB2.out hb3')
  have HX3 := Lib.hid (HX2.out.next hb3')
  have HY3 := Lib.hid (HY2.out.next hb3')
  have HD3 : Hid (Vx w3 x3.heap.size RV [.int .i64 k3, .int .i64 n3, .string s3, .slice A3 ks3.length a3, .slice C3 es3.length c3]) := Lib.hid (by rw [hw3]; exact Vx.new hl3)
  have HW3 := Lib.hid hw3
  clear hb3 hl3 hw3 hb3' hv3
  clear t0 t1 t2 t3 t4 y0 y1 y2 y3 y4
  go_upto_region 5 with fail
  rw [← HW3.out]
  clear HW3
  obtain ⟨t0, t1, t2, t3, t4⟩ := box5 HX3.out.box
  obtain ⟨y0, y1, y2, y3, y4⟩ := box5 HY3.out.box
  go_wp2_with fail
  refine (HR.out _ HB3.out).mono ?_
  rintro e4 x4 ⟨k4, n4, s4, ks4, es4, A4, a4, C4, c4, hv4, rfl, hb4, hl4⟩
  obtain ⟨w4, hw4⟩ : ∃ X, X = x4.alloc (.cells #[.int .i64 k4, .int .i64 n4, .string s4, .slice A4 ks4.length a4, .slice C4 es4.length c4] 25) := ⟨_, rfl⟩
  have hb4' : Below w3.heap.size w3 w4 := by rw [hw4]; exact chain hb4 (below1 _ _)
  have HB4 := Lib.hid (chain HB3.out hb4')
  have HD4 := Lib.hid (HD3.out.next hb4')
  have HE4 : Hid (Vx w4 x4.heap.size RV [.int .i64 k4, .int .i64 n4, .string s4, .slice A4 ks4.length a4, .slice C4 es4.length c4]) := Lib.hid (by rw [hw4]; exact Vx.new hl4)
  have HW4 := Lib.hid hw4
  clear hb4 hl4 hw4 hb4' hv4
  clear t0 t1 t2 t3 t4 y0 y1 y2 y3 y4
  go_upto_region 6 with fail
  rw [← HW4.out]
  clear HW4
  obtain ⟨t0, t1, t2, t3, t4⟩ := box5 HD4.out.box
  obtain ⟨y0, y1, y2, y3, y4⟩ := box5 HE4.out.box
  have hq : (RE == RE) = true := by simp
  have HS4 := Lib.hid (HSA.out _ _ w4 HD4.out.lies HE4.out.lies)
  go_wp2_with fail
  refine HS4.out.mono ?_
  rintro e5 w5 ⟨rfl, hb5⟩
  have HB5 := Lib.hid (chain HB4.out hb5)
  clear hb5
  go_wp2_with fail
  refine (haw.out _ HB5.out).mono ?_
  rintro e9 w9 ⟨rfl, hb9⟩
  go_wp2_with fail
  go_ret
  exact ⟨rfl, chain HB5.out hb9⟩
end Go.Proofs.YtgdnkankleoaoaaGreatDoor
