/- What the calls hand back. ArithOther answers true for every arguments. -/
import Derived.Test.YtgdnkankleoaoaaGreatDoorB1
import Derived.Test.YtgdnkankleoaoaaGreatDoorA37
import Derived.Test.YtgdnkankleoaoaaGreatDoorA45
import Derived.Test.YtgdnkankleoaoaaGreatDoorA36
import Derived.Test.YtgdnkankleoaoaaGreatDoorRbn
import Derived.Test.YtgdnkankleoaoaaGreatDoorA44
import Derived.Test.YtgdnkankleoaoaaGreatDoorA35
import Derived.Test.YtgdnkankleoaoaaGreatDoorA02
import Derived.Test.YtgdnkankleoaoaaGreatDoorA29
import Derived.Test.YtgdnkankleoaoaaGreatDoorA40
import Derived.StillTailTactics
import Derived.Deep.QuietTactic
import Derived.Deep.LoopGhost
set_option linter.unusedVariables false
set_option linter.unusedSimpArgs false
namespace Go.Proofs.YtgdnkankleoaoaaGreatDoor
open Go.RowKit Go.Sort Go.Lib
theorem refr_post {v : V} {err : Int} {w w' : World} {e : Ending} (h : RetPost v err w e w') : RetR v err w e w' := by
  obtain ⟨hb, ds, he, hl⟩ := h
  exact ⟨hb, ds, he, hl.move fun b hb => ⟨hb.2, rfl⟩⟩
end Go.Proofs.YtgdnkankleoaoaaGreatDoor
namespace Go.Proofs.YtgdnkankleoaoaaGreatDoor
open Go.RowKit Go.Sort Go.Lib
theorem three_strs {W : World} {g : Nat} {a b c : ByteArray} (hg : Box W g 9 #[.string a, .string b, .string c]) : Rs W (fun _ => True) (some ⟨g, 0, none⟩) (kv [a, b, c]) := fun j u hj => ⟨g, 0, rfl, trivial, by rw [Nat.zero_add]; exact hg.cell (by simpa [kv] using hj)⟩
set_option maxHeartbeats 8000000 in
set_option maxRecDepth 100000 in
theorem arithOther_walk (op : ByteArray) (v u : V) (cs ds : List Value) (sx sp : ByteArray) (z : Int) (w : World) (h : Lies w (· < w.heap.size) v cs) (h' : Lies w (· < w.heap.size) u ds) (hml : MaxL w) (hT : Tabs w) (hz1 : op.size ≤ 140737488355328) (hz2 : sx.size ≤ 140737488355328) (hz3 : sp.size ≤ 140737488355328) :
    Calls Tryz.prog 4 #[.string op, .agg cs.toArray, .agg ds.toArray, .string sx, .string sp, .int .i64 z] w fun e w' => e = .returned (.bool true) ∧ Below w.heap.size w w' := by
  have haw := Lib.hid (fun W (hW : Below w.heap.size w W) => awake6_any W (hml.next hW))
  have hsm := Lib.hid (fun W (hW : Below w.heap.size w W) g hg => small_any 150 [v, u] (some ⟨g, 0, none⟩) 2 (cs ++ ds) W (two_rowM (below_lies hW h) (below_lies hW h') hg) (by simp) (by omega) (by omega))
  generalize smallP 150 [v, u] = sm at hsm
  have HSH := Lib.hid (fun W g (hg : Box W g 9 #[.string op, .string sx, .string sp]) => short_any 100 (some ⟨g, 0, none⟩) 3 [op, sx, sp] (fun _ => True) W (three_strs hg) (by simp [maxLen]) (by simp; exact ⟨hz1, hz2, hz3⟩) (by omega) (by omega))
  have HSZ := Lib.hid (fun (q : shortP 100 [op, sx, sp] = true) => (shortP_mem q))
  generalize shortP 100 [op, sx, sp] = sh at HSH HSZ
  obtain ⟨RV, hRV⟩ : ∃ R, R = (binR op v u).1 := ⟨_, rfl⟩
  obtain ⟨RE, hRE⟩ : ∃ R, R = (binR op v u).2 := ⟨_, rfl⟩
  have HP := Lib.hid (fun W (hW : Below w.heap.size w W) => retR_open ((binP_any op v u cs ds W (hml.next hW) (hT.next hW) (below_lies hW h) (below_lies hW h')).mono fun _ _ q => refr_post q))
  have HR := Lib.hid (fun W (hW : Below w.heap.size w W) => retR_open ((rbin_any op v u cs ds W (· < W.heap.size) (fun _ q => q) (below_lies hW h) (below_lies hW h')).mono fun _ _ q => retT_refP q))
  rw [← hRV, ← hRE] at HP HR
  obtain ⟨MV, hMV⟩ : ∃ R, R = (mergeR v u).1 := ⟨_, rfl⟩
  obtain ⟨ME, hME⟩ : ∃ R, R = (mergeR v u).2 := ⟨_, rfl⟩
  have HMP := Lib.hid (fun W (hW : Below w.heap.size w W) => retR_open ((mergeTop_any v u cs ds W (below_lies hW h) (below_lies hW h')).mono fun _ _ q => refr_post q))
  have HMR := Lib.hid (fun W (hW : Below w.heap.size w W) => retR_open ((rmergeTop_any v u cs ds W (· < W.heap.size) (fun _ q => q) (below_lies hW h) (below_lies hW h')).mono fun _ _ q => retT_refP q))
  rw [← hMV, ← hME] at HMP HMR
  obtain ⟨NV, hNV⟩ : ∃ R, R = (negR v).1 := ⟨_, rfl⟩
  obtain ⟨NE, hNE⟩ : ∃ R, R = (negR v).2 := ⟨_, rfl⟩
  have HNP := Lib.hid (fun W (hW : Below w.heap.size w W) => retR_open ((neg_any v cs W (below_lies hW h)).mono fun _ _ q => refr_post q))
  have HNR := Lib.hid (fun W (hW : Below w.heap.size w W) => retR_open ((rneg_any v cs W (· < W.heap.size) (fun _ q => q) (below_lies hW h)).mono fun _ _ q => retT_refP q))
  rw [← hNV, ← hNE] at HNP HNR
  have HSA := Lib.hid (fun (x : V) (c d : List Value) W (hx : Lies W (· < W.heap.size) x c) (hy : Lies W (· < W.heap.size) x d) => same_selfx (W := W) hx hy)
  have HSP := Lib.hid (fun (q1 : sx.size ≤ 100) (q2 : sp.size ≤ 100) W (hW : Below w.heap.size w W) => split_any sx sp W (hml.next hW) (hT.next hW) (by omega) (by omega))
  have HSR := Lib.hid (fun (q1 : sx.size ≤ 100) (q2 : sp.size ≤ 100) W => rsplit_any sx sp W (by omega) (by omega))
  have HLN := Lib.hid (splitL_len sx sp)
  have HST := Lib.hid (fun (L : List ByteArray) (A B : Option Addr) (a b : Nat) (S T : Nat → Prop) (W : World) hA hB hk => strings_any A B a b L L S T W hA hB hk)
  have HMG := Lib.hid (fun W => msg_any z W)
  have HMG2 := Lib.hid (fun W => rmsg_any z W)
  generalize msgP z = mz at HMG HMG2
  generalize splitL sx sp = L at HSP HSR HLN
  generalize splitB? sx sp = ok at HSP HSR
  clear hRV hRE hMV hME hNV hNE hz1 hz2 hz3
  obtain ⟨k, n, s, ks, es⟩ := v
  obtain ⟨k2, n2, s2, ks2, es2⟩ := u
  obtain ⟨A, a, B, b, xs, rfl, -⟩ := lies_open h
  obtain ⟨A2, a2, B2, b2, xs2, rfl, -⟩ := lies_open h'
  have L1 := Lib.hid h
  have L2 := Lib.hid h'
  clear h h' hml hT
  show Calls _ _ #[_, .agg #[.int .i64 k, .int .i64 n, .string s, .slice A ks.length a, .slice B es.length b], .agg #[.int .i64 k2, .int .i64 n2, .string s2, .slice A2 ks2.length a2, .slice B2 es2.length b2], _, _, _] w _
  obtain ⟨W0, hW0⟩ : ∃ X, X = (w.alloc (.cells #[.int .i64 k, .int .i64 n, .string s, .slice A ks.length a, .slice B es.length b] 25)).alloc (.cells #[.int .i64 k2, .int .i64 n2, .string s2, .slice A2 ks2.length a2, .slice B2 es2.length b2] 25) := ⟨_, rfl⟩
  have HB0 := Lib.hid (show Below w.heap.size w W0 by rw [hW0]; exact ((Below.refl _ _).alloc (Nat.le_refl _) _).alloc (by simp) _)
  have HX0 : Hid (Vx W0 w.heap.size (.mk k n s ks es) [.int .i64 k, .int .i64 n, .string s, .slice A ks.length a, .slice B es.length b]) := Lib.hid ⟨by rw [hW0]; exact (Box.laid w _ _).alloc _, below_lies HB0.out L1.out⟩
  have HY0 : Hid (Vx W0 (w.heap.size + 1) (.mk k2 n2 s2 ks2 es2) [.int .i64 k2, .int .i64 n2, .string s2, .slice A2 ks2.length a2, .slice B2 es2.length b2]) := Lib.hid ⟨by rw [hW0]; exact box_at _ _ _ _ (by simp), below_lies HB0.out L2.out⟩
  have HW0 := Lib.hid hW0
  have hsm1 := Lib.hid (hsm.out (W0.alloc (.cells #[.int .i64 k, .int .i64 n, .string s, .slice A ks.length a, .slice B es.length b, .int .i64 k2, .int .i64 n2, .string s2, .slice A2 ks2.length a2, .slice B2 es2.length b2] 25)) (chain HB0.out (below1 _ _)) W0.heap.size (Box.laid W0 _ _))
  clear hW0 hsm L1 L2
  obtain ⟨t0, t1, t2, t3, t4⟩ := box5 HX0.out.box
  obtain ⟨y0, y1, y2, y3, y4⟩ := box5 HY0.out.box
  go_enter Tryz.func4, Tryz.ntmps4
  go_upto_region 1 with fail
  rw [← HW0.out]
  go_wp2_with fail
  refine hsm1.out.mono ?_
  rintro e1 w1 ⟨rfl, hb1⟩
  have HB1 := Lib.hid (chain HB0.out (chain (below1 W0 _) hb1))
  have HX1 := Lib.hid (HX0.out.next (chain (below1 W0 _) hb1))
  have HY1 := Lib.hid (HY0.out.next (chain (below1 W0 _) hb1))
  clear hsm1 hb1 t0 t1 t2 t3 t4 y0 y1 y2 y3 y4 HX0 HY0 HB0 HW0
  cases sm with
  | false =>
    go_wp2_with fail
    refine (haw.out _ HB1.out).mono ?_
    rintro e9 w9 ⟨rfl, hb9⟩
    go_wp2_with fail
    go_ret
    exact ⟨rfl, chain HB1.out hb9⟩
  | true =>
  go_wp2_with fail
  refine (HSH.out _ _ (Box.laid w1 _ _)).mono ?_
  rintro e2 w2 ⟨rfl, hb2⟩
  have HB2 := Lib.hid (chain HB1.out (chain (below1 w1 _) hb2))
  have HX2 := Lib.hid (HX1.out.next (chain (below1 w1 _) hb2))
  have HY2 := Lib.hid (HY1.out.next (chain (below1 w1 _) hb2))
  clear hb2 HX1 HY1 HB1
  cases sh with
  | false =>
    go_wp2_with fail
    refine (haw.out _ HB2.out).mono ?_
    rintro e9 w9 ⟨rfl, hb9⟩
    go_wp2_with fail
    go_ret
    exact ⟨rfl, chain HB2.out hb9⟩
  | true =>
  have HZ1 : Hid (sx.size ≤ 100 ∧ sp.size ≤ 100) := Lib.hid (by
    have q1 := HSZ.out rfl sx (by simp)
    have q2 := HSZ.out rfl sp (by simp)
    omega)
  obtain ⟨t0, t1, t2, t3, t4⟩ := box5 HX2.out.box
  obtain ⟨y0, y1, y2, y3, y4⟩ := box5 HY2.out.box
  go_wp2_with fail
  refine (HP.out _ HB2.out).mono ?_
  rintro e3 x3 ⟨k3, n3, s3, ks3, es3, A3, a3, C3, c3, hv3, rfl, hb3, hl3⟩
  obtain ⟨w3, hw3⟩ : ∃ X, X = x3.alloc (.cells #[.int .i64 k3, .int .i64 n3, .string s3, .slice A3 ks3.length a3, .slice C3 es3.length c3] 25) := ⟨_, rfl⟩
  have hb3' : Below w2.heap.size w2 w3 := by rw [hw3]; exact chain hb3 (below1 _ _)
  have HB3 := Lib.hid (chain HB2.out hb3')
  have HX3 := Lib.hid (HX2.out.next hb3')
  have HY3 := Lib.hid (HY2.out.next hb3')
  have HD3 : Hid (Vx w3 x3.heap.size RV [.int .i64 k3, .int .i64 n3, .string s3, .slice A3 ks3.length a3, .slice C3 es3.length c3]) := Lib.hid (by rw [hw3]; exact Vx.new hl3)
  have HW3 := Lib.hid hw3
  clear hb3 hl3 hw3 hb3' hv3
  clear t0 t1 t2 t3 t4 y0 y1 y2 y3 y4
  go_upto_region 4 with fail
  rw [← HW3.out]
  clear HW3
  obtain ⟨t0, t1, t2, t3, t4⟩ := box5 HX3.out.box
  obtain ⟨y0, y1, y2, y3, y4⟩ := box5 HY3.out.box
  go_wp2_with fail
  refine (HR.out _ HB3.out).mono ?_
  rintro e4 x4 ⟨k4, n4, s4, ks4, es4, A4, a4, C4, c4, hv4, rfl, hb4, hl4⟩
  obtain ⟨w4, hw4⟩ : ∃ X, X = x4.alloc (.cells #[.int .i64 k4, .int .i64 n4, .string s4, .slice A4 ks4.length a4, .slice C4 es4.length c4] 25) := ⟨_, rfl⟩
  have hb4' : Below w3.heap.size w3 w4 := by rw [hw4]; exact chain hb4 (below1 _ _)
  have HB4 := Lib.hid (chain HB3.out hb4')
  have HX4 := Lib.hid (HX3.out.next hb4')
  have HY4 := Lib.hid (HY3.out.next hb4')
  have HD4 := Lib.hid (HD3.out.next hb4')
  have HE4 : Hid (Vx w4 x4.heap.size RV [.int .i64 k4, .int .i64 n4, .string s4, .slice A4 ks4.length a4, .slice C4 es4.length c4]) := Lib.hid (by rw [hw4]; exact Vx.new hl4)
  have HW4 := Lib.hid hw4
  clear hb4 hl4 hw4 hb4' hv4
  clear t0 t1 t2 t3 t4 y0 y1 y2 y3 y4
  go_upto_region 5 with fail
  rw [← HW4.out]
  clear HW4
  obtain ⟨t0, t1, t2, t3, t4⟩ := box5 HX4.out.box
  obtain ⟨y0, y1, y2, y3, y4⟩ := box5 HY4.out.box
  go_wp2_with fail
  refine (HMP.out _ HB4.out).mono ?_
  rintro e5 x5 ⟨k5, n5, s5, ks5, es5, A5, a5, C5, c5, hv5, rfl, hb5, hl5⟩
  obtain ⟨w5, hw5⟩ : ∃ X, X = x5.alloc (.cells #[.int .i64 k5, .int .i64 n5, .string s5, .slice A5 ks5.length a5, .slice C5 es5.length c5] 25) := ⟨_, rfl⟩
  have hb5' : Below w4.heap.size w4 w5 := by rw [hw5]; exact chain hb5 (below1 _ _)
  have HB5 := Lib.hid (chain HB4.out hb5')
  have HX5 := Lib.hid (HX4.out.next hb5')
  have HY5 := Lib.hid (HY4.out.next hb5')
  have HD5 := Lib.hid (HD4.out.next hb5')
  have HE5 := Lib.hid (HE4.out.next hb5')
  have HF5 : Hid (Vx w5 x5.heap.size MV [.int .i64 k5, .int .i64 n5, .string s5, .slice A5 ks5.length a5, .slice C5 es5.length c5]) := Lib.hid (by rw [hw5]; exact Vx.new hl5)
  have HW5 := Lib.hid hw5
  clear hb5 hl5 hw5 hb5' hv5
  clear t0 t1 t2 t3 t4 y0 y1 y2 y3 y4
  go_upto_region 6 with fail
  rw [← HW5.out]
  clear HW5
  obtain ⟨t0, t1, t2, t3, t4⟩ := box5 HX5.out.box
  obtain ⟨y0, y1, y2, y3, y4⟩ := box5 HY5.out.box
  go_wp2_with fail
  refine (HMR.out _ HB5.out).mono ?_
  rintro e6 x6 ⟨k6, n6, s6, ks6, es6, A6, a6, C6, c6, hv6, rfl, hb6, hl6⟩
  obtain ⟨w6, hw6⟩ : ∃ X, X = x6.alloc (.cells #[.int .i64 k6, .int .i64 n6, .string s6, .slice A6 ks6.length a6, .slice C6 es6.length c6] 25) := ⟨_, rfl⟩
  have hb6' : Below w5.heap.size w5 w6 := by rw [hw6]; exact chain hb6 (below1 _ _)
  have HB6 := Lib.hid (chain HB5.out hb6')
  have HX6 := Lib.hid (HX5.out.next hb6')
  have HY6 := Lib.hid (HY5.out.next hb6')
  have HD6 := Lib.hid (HD5.out.next hb6')
  have HE6 := Lib.hid (HE5.out.next hb6')
  have HF6 := Lib.hid (HF5.out.next hb6')
  have HG6 : Hid (Vx w6 x6.heap.size MV [.int .i64 k6, .int .i64 n6, .string s6, .slice A6 ks6.length a6, .slice C6 es6.length c6]) := Lib.hid (by rw [hw6]; exact Vx.new hl6)
  have HW6 := Lib.hid hw6
  clear hb6 hl6 hw6 hb6' hv6
  clear t0 t1 t2 t3 t4 y0 y1 y2 y3 y4
  go_upto_region 7 with fail
  rw [← HW6.out]
  clear HW6
  obtain ⟨t0, t1, t2, t3, t4⟩ := box5 HX6.out.box
  obtain ⟨y0, y1, y2, y3, y4⟩ := box5 HY6.out.box
  go_wp2_with fail
  refine (HNP.out _ HB6.out).mono ?_
  rintro e7 x7 ⟨k7, n7, s7, ks7, es7, A7, a7, C7, c7, hv7, rfl, hb7, hl7⟩
  obtain ⟨w7, hw7⟩ : ∃ X, X = x7.alloc (.cells #[.int .i64 k7, .int .i64 n7, .string s7, .slice A7 ks7.length a7, .slice C7 es7.length c7] 25) := ⟨_, rfl⟩
  have hb7' : Below w6.heap.size w6 w7 := by rw [hw7]; exact chain hb7 (below1 _ _)
  have HB7 := Lib.hid (chain HB6.out hb7')
  have HX7 := Lib.hid (HX6.out.next hb7')
  have HD7 := Lib.hid (HD6.out.next hb7')
  have HE7 := Lib.hid (HE6.out.next hb7')
  have HF7 := Lib.hid (HF6.out.next hb7')
  have HG7 := Lib.hid (HG6.out.next hb7')
  have HI7 : Hid (Vx w7 x7.heap.size NV [.int .i64 k7, .int .i64 n7, .string s7, .slice A7 ks7.length a7, .slice C7 es7.length c7]) := Lib.hid (by rw [hw7]; exact Vx.new hl7)
  have HW7 := Lib.hid hw7
  clear hb7 hl7 hw7 hb7' hv7
  clear t0 t1 t2 t3 t4 y0 y1 y2 y3 y4
  go_upto_region 8 with fail
  rw [← HW7.out]
  clear HW7
  obtain ⟨t0, t1, t2, t3, t4⟩ := box5 HX7.out.box
  go_wp2_with fail
  refine (HNR.out _ HB7.out).mono ?_
  rintro e8 x8 ⟨k8, n8, s8, ks8, es8, A8, a8, C8, c8, hv8, rfl, hb8, hl8⟩
  obtain ⟨w8, hw8⟩ : ∃ X, X = x8.alloc (.cells #[.int .i64 k8, .int .i64 n8, .string s8, .slice A8 ks8.length a8, .slice C8 es8.length c8] 25) := ⟨_, rfl⟩
  have hb8' : Below w7.heap.size w7 w8 := by rw [hw8]; exact chain hb8 (below1 _ _)
  have HB8 := Lib.hid (chain HB7.out hb8')
  have HD8 := Lib.hid (HD7.out.next hb8')
  have HE8 := Lib.hid (HE7.out.next hb8')
  have HF8 := Lib.hid (HF7.out.next hb8')
  have HG8 := Lib.hid (HG7.out.next hb8')
  have HI8 := Lib.hid (HI7.out.next hb8')
  have HJ8 : Hid (Vx w8 x8.heap.size NV [.int .i64 k8, .int .i64 n8, .string s8, .slice A8 ks8.length a8, .slice C8 es8.length c8]) := Lib.hid (by rw [hw8]; exact Vx.new hl8)
  have HW8 := Lib.hid hw8
  clear hb8 hl8 hw8 hb8' hv8
  clear t0 t1 t2 t3 t4
  go_upto_region 9 with fail
  rw [← HW8.out]
  clear HW8
  go_wp2_with fail
  refine (HSP.out HZ1.out.1 HZ1.out.2 _ HB8.out).mono ?_
  rintro e9 w9 ⟨hb9, PA, pa, rfl, hrp, hpn, hpl, hpm⟩
  have HB9 := Lib.hid (chain HB8.out hb9)
  have HPR := Lib.hid hrp
  have HD9 := Lib.hid (HD8.out.next hb9)
  have HE9 := Lib.hid (HE8.out.next hb9)
  have HF9 := Lib.hid (HF8.out.next hb9)
  have HG9 := Lib.hid (HG8.out.next hb9)
  have HI9 := Lib.hid (HI8.out.next hb9)
  have HJ9 := Lib.hid (HJ8.out.next hb9)
  clear hb9 hrp hpn hpl hpm
  go_wp2_with fail
  refine (HSR.out HZ1.out.1 HZ1.out.2 _).mono ?_
  rintro e10 w10 ⟨hb10, QA, qa, rfl, hrq, hqn, hql, hqm⟩
  have HB10 := Lib.hid (chain HB9.out hb10)
  have HQR := Lib.hid hrq
  have HPR2 : Hid (Rs w10 (· < w10.heap.size) PA (kv L)) := Lib.hid (HPR.out.move fun b hb => ⟨Nat.lt_of_lt_of_le hb.2 hb10.size, hb10.block b hb.2⟩)
  have HD10 := Lib.hid (HD9.out.next hb10)
  have HE10 := Lib.hid (HE9.out.next hb10)
  have HF10 := Lib.hid (HF9.out.next hb10)
  have HG10 := Lib.hid (HG9.out.next hb10)
  have HI10 := Lib.hid (HI9.out.next hb10)
  have HJ10 := Lib.hid (HJ9.out.next hb10)
  clear hb10 hrq hqn hql hqm
  have hq1 : (RE == RE) = true := by simp
  have hq2 : (ME == ME) = true := by simp
  have hq3 : (NE == NE) = true := by simp
  have hq4 : (ok == ok) = true := by simp
  have hq5 : (mz.toList == mz.toList) = true := by simp
  obtain ⟨t0, t1, t2, t3, t4⟩ := box5 HD10.out.box
  obtain ⟨y0, y1, y2, y3, y4⟩ := box5 HE10.out.box
  have HQ11 := Lib.hid (HSA.out _ _ _ w10 HD10.out.lies HE10.out.lies)
  go_wp2_with fail
  refine HQ11.out.mono ?_
  rintro e11 w11 ⟨rfl, hb11⟩
  have HB11 := Lib.hid (chain HB10.out hb11)
  have HF11 := Lib.hid (HF10.out.next hb11)
  have HG11 := Lib.hid (HG10.out.next hb11)
  have HI11 := Lib.hid (HI10.out.next hb11)
  have HJ11 := Lib.hid (HJ10.out.next hb11)
  have HPR11 : Hid (Rs w11 (· < w11.heap.size) PA (kv L)) := Lib.hid (HPR2.out.move fun b hb => ⟨Nat.lt_of_lt_of_le hb hb11.size, hb11.block b hb⟩)
  have HQR11 : Hid (Rs w11 (· < w11.heap.size) QA (kv L)) := Lib.hid (HQR.out.move fun b hb => ⟨Nat.lt_of_lt_of_le hb.2 hb11.size, hb11.block b hb.2⟩)
  clear hb11 t0 t1 t2 t3 t4 y0 y1 y2 y3 y4
  obtain ⟨t0, t1, t2, t3, t4⟩ := box5 HF11.out.box
  obtain ⟨y0, y1, y2, y3, y4⟩ := box5 HG11.out.box
  have HQ12 := Lib.hid (HSA.out _ _ _ w11 HF11.out.lies HG11.out.lies)
  go_wp2_with fail
  refine HQ12.out.mono ?_
  rintro e12 w12 ⟨rfl, hb12⟩
  have HB12 := Lib.hid (chain HB11.out hb12)
  have HI12 := Lib.hid (HI11.out.next hb12)
  have HJ12 := Lib.hid (HJ11.out.next hb12)
  have HPR12 : Hid (Rs w12 (· < w12.heap.size) PA (kv L)) := Lib.hid (HPR11.out.move fun b hb => ⟨Nat.lt_of_lt_of_le hb hb12.size, hb12.block b hb⟩)
  have HQR12 : Hid (Rs w12 (· < w12.heap.size) QA (kv L)) := Lib.hid (HQR11.out.move fun b hb => ⟨Nat.lt_of_lt_of_le hb hb12.size, hb12.block b hb⟩)
  clear hb12 t0 t1 t2 t3 t4 y0 y1 y2 y3 y4
  obtain ⟨t0, t1, t2, t3, t4⟩ := box5 HI12.out.box
  obtain ⟨y0, y1, y2, y3, y4⟩ := box5 HJ12.out.box
  have HQ13 := Lib.hid (HSA.out _ _ _ w12 HI12.out.lies HJ12.out.lies)
  go_wp2_with fail
  refine HQ13.out.mono ?_
  rintro e13 w13 ⟨rfl, hb13⟩
  have HB13 := Lib.hid (chain HB12.out hb13)
  have HPR13 : Hid (Rs w13 (· < w13.heap.size) PA (kv L)) := Lib.hid (HPR12.out.move fun b hb => ⟨Nat.lt_of_lt_of_le hb hb13.size, hb13.block b hb⟩)
  have HQR13 : Hid (Rs w13 (· < w13.heap.size) QA (kv L)) := Lib.hid (HQR12.out.move fun b hb => ⟨Nat.lt_of_lt_of_le hb hb13.size, hb13.block b hb⟩)
  clear hb13 t0 t1 t2 t3 t4 y0 y1 y2 y3 y4
  go_wp2_with fail
  refine (HST.out L PA QA pa qa _ _ w13 HPR13.out HQR13.out (by have := HLN.out; have := HZ1.out.1; unfold maxLen; omega)).mono ?_
  rintro e14 w14 ⟨rfl, m14, rfl⟩
  have HB14 := Lib.hid (below_drewN HB13.out m14)
  go_wp2_with fail
  refine (HMG.out _).mono ?_
  rintro e15 w15 ⟨rfl, rfl⟩
  go_wp2_with fail
  refine (HMG2.out _).mono ?_
  rintro e16 w16 ⟨rfl, rfl⟩
  go_wp2_with fail
  refine (haw.out _ HB14.out).mono ?_
  rintro e17 w17 ⟨rfl, hb17⟩
  go_wp2_with fail
  go_ret
  exact ⟨rfl, chain HB14.out hb17⟩
end Go.Proofs.YtgdnkankleoaoaaGreatDoor
