/- keep.Filters: a tree in memory is the same as itself, wherever its two copies lie. -/
import Derived.Test.YthiempadgehhlaaGreatDoorHP
import Derived.Test.YthiempadgehhlaaGreatDoorQK
set_option linter.unusedVariables false
set_option linter.unusedSimpArgs false
set_option linter.unusedSectionVars false
namespace Go.Proofs.YthiempadgehhlaaGreatDoor
open Go.RowKit
/-- The two boxes of the arguments. -/
structure FlB (w : World) (c d : Array Value) (W : World) : Prop where
  below : Below w.heap.size w W
  a : Box W w.heap.size 32 c
  b : Box W (w.heap.size + 1) 32 d
theorem FlB.start (w : World) (c d : Array Value) : FlB w c d ((w.alloc (.cells c 32)).alloc (.cells d 32)) :=
  ⟨below2 _ _ _, (Box.laid w _ c).alloc _, by have h := Box.laid (w.alloc (.cells c 32)) 32 d; simpa using h⟩
theorem FlB.next {w W W' : World} {c d : Array Value} (h : FlB w c d W) (hb : Below W.heap.size W W') : FlB w c d W' :=
  ⟨chain h.below hb, h.a.below hb h.a.lt, h.b.below hb h.b.lt⟩
theorem FlB.drewN {w W : World} {c d : Array Value} (h : FlB w c d W) (m : Nat) : FlB w c d (W.drewN m) := h.next (below_drewN (Below.refl _ _) m)
def FilOk (f : Ft) : Prop := ∀ (cs ds : List Value) (w : World), LiesF w (· < w.heap.size) f cs → LiesF w (· < w.heap.size) f ds →
  Calls Tryz.prog 12 #[.agg cs.toArray, .agg ds.toArray] w fun e w' => e = .returned (.bool true) ∧ Below w.heap.size w w'
theorem same_one {v : V} {cs ds : List Value} {W : World} (h : Lies W (· < W.heap.size) v cs) (k : Lies W (· < W.heap.size) v ds) : Calls Tryz.prog 19 #[.agg cs.toArray, .agg ds.toArray] W fun e w' => e = .returned (.bool true) ∧ Below W.heap.size W w' := by
  have := same_any v v cs ds W h k
  rw [(same_iff v v).2 rfl] at this
  exact this
theorem below_liesF {w w' : World} (hb : Below w.heap.size w w') {f : Ft} {cs : List Value} (h : LiesF w (· < w.heap.size) f cs) : LiesF w' (· < w'.heap.size) f cs :=
  h.move fun b hlt => ⟨Nat.lt_of_lt_of_le hlt hb.size, hb.block b hlt⟩
theorem nw_liesF {w w' : World} {n : Nat} {f : Ft} {cs : List Value} (h : LiesF w' (Nw n w'.heap.size) f cs) : LiesF w' (· < w'.heap.size) f cs :=
  h.move fun b hlt => ⟨hlt.2, rfl⟩
set_option maxHeartbeats 10000000 in
set_option maxRecDepth 100000 in
theorem filters_same : ∀ f : Ft, FilOk f := by
  refine Ft.ind fun op tx v ps fs ih cs ds w h1 h2 => ?_
  obtain ⟨_, h02, h03, h04⟩ : tx.size ≤ 140737488355328 ∧ (∀ x ∈ ps, x.size ≤ 140737488355328) ∧ ps.length ≤ 140737488355328 ∧ fs.length ≤ 140737488355328 := by
    rw [LiesF] at h1
    exact h1.1
  obtain ⟨v0, v1, v2, v3, v4, A, a, B, b, xs, rfl, hv, -, -, -, -, hA, hB, hL⟩ := liesF_open h1
  obtain ⟨u0, u1, u2, u3, u4, A', a', B', b', ys, rfl, hu, -, -, -, -, hA', hB', hL'⟩ := liesF_open h2
  have HS := Lib.hid (fun (W : World) (hb : Below w.heap.size w W) => same_one (W := W) (below_lies hb hv) (below_lies hb hu))
  have HT := Lib.hid (fun (W : World) (hb : Below w.heap.size w W) => by
    have h := strings_any A A' a a' ps ps (· < w.heap.size) (· < w.heap.size) W (hA.move fun b h => ⟨h, hb.block b h⟩) (hA'.move fun b h => ⟨h, hb.block b h⟩) (by unfold maxLen; omega)
    rw [decide_eq_true (rfl : ps = ps)] at h
    exact h)
  have HSA := Lib.hid (fun (i : Nat) (e : Ft) (hi : fs[i]? = some e) => sub_at hB hL hi)
  have HSB := Lib.hid (fun (i : Nat) (e : Ft) (hi : fs[i]? = some e) => sub_at hB' hL' hi)
  have IH := Lib.hid ih
  obtain ⟨k, n, s, ks, es⟩ := v
  obtain ⟨A1, a1, B1, b1, xs1, he1, -⟩ := lies_open hv
  simp only [List.cons.injEq, and_true] at he1
  obtain ⟨rfl, rfl, rfl, rfl, rfl⟩ := he1
  obtain ⟨A2, a2, B2, b2, xs2, he2, -⟩ := lies_open hu
  simp only [List.cons.injEq, and_true] at he2
  obtain ⟨rfl, rfl, rfl, rfl, rfl⟩ := he2
  clear hA hB hL hA' hB' hL' h1 h2 ih hv hu h02
  generalize ks.length = l1 at *
  generalize es.length = l2 at *
  show Calls _ _ #[.agg #[.int .i64 op, .string tx, .int .i64 k, .int .i64 n, .string s, .slice A1 l1 a1, .slice B1 l2 b1, .slice A ps.length a, .slice B fs.length b], .agg #[.int .i64 op, .string tx, .int .i64 k, .int .i64 n, .string s, .slice A2 l1 a2, .slice B2 l2 b2, .slice A' ps.length a', .slice B' fs.length b']] w _
  have H0 := Lib.hid (FlB.start w #[.int .i64 op, .string tx, .int .i64 k, .int .i64 n, .string s, .slice A1 l1 a1, .slice B1 l2 b1, .slice A ps.length a, .slice B fs.length b] #[.int .i64 op, .string tx, .int .i64 k, .int .i64 n, .string s, .slice A2 l1 a2, .slice B2 l2 b2, .slice A' ps.length a', .slice B' fs.length b'])
  go_enter Tryz.func12, Tryz.ntmps12
  go_wp2_with fail
  refine (HS.out _ H0.out.below).mono ?_
  rintro e1 w1 ⟨rfl, hb1⟩
  have H1 := Lib.hid (H0.out.next hb1)
  obtain ⟨y0, y1, y2, y3, y4, y5, y6, y7, y8⟩ := box9 H1.out.a
  obtain ⟨z0, z1, z2, z3, z4, z5, z6, z7, z8⟩ := box9 H1.out.b
  clear hb1 H0
  go_wp2_with fail
  refine (HT.out _ H1.out.below).mono ?_
  rintro e2 w2 ⟨rfl, m, rfl⟩
  have H2 := Lib.hid (H1.out.drewN m)
  generalize w1.drewN m = wd at H2 ⊢
  clear H1 y0 y1 y2 y3 y4 y5 y6 y7 y8 z0 z1 z2 z3 z4 z5 z6 z7 z8
  have y8 := H2.out.a.cell (i := 8) rfl
  have z8 := H2.out.b.cell (i := 8) rfl
  go_wp2_with fail
  go_loopw [5] (fun t wr => ∃ i : Nat, i ≤ fs.length ∧ t = .int .i64 i ∧ FlB w #[.int .i64 op, .string tx, .int .i64 k, .int .i64 n, .string s, .slice A1 l1 a1, .slice B1 l2 b1, .slice A ps.length a, .slice B fs.length b] #[.int .i64 op, .string tx, .int .i64 k, .int .i64 n, .string s, .slice A2 l1 a2, .slice B2 l2 b2, .slice A' ps.length a', .slice B' fs.length b'] wr) (fun t _ => fs.length - (intOf t).toNat)
  case atStart => exact ⟨0, Nat.zero_le _, rfl, H2.out⟩
  case round =>
    obtain ⟨i, hi, rfl, hfl⟩ := hrel
    have HF := Lib.hid hfl
    clear hfl H2 y8 z8
    have y8 := HF.out.a.cell (i := 8) rfl
    have z8 := HF.out.b.cell (i := 8) rfl
    by_cases hlt : i < fs.length
    · obtain ⟨x, hx⟩ : ∃ x, fs[i]? = some x := ⟨_, List.getElem?_eq_getElem hlt⟩
      obtain ⟨b0, o0, c0, c1, c2, c3, c4, c5, c6, c7, c8, rfl, hb0, hlx, hcx⟩ := HSA.out i x hx
      obtain ⟨b3, o3, d0, d1, d2, d3, d4, d5, d6, d7, d8, rfl, hb3, hly, hcy⟩ := HSB.out i x hx
      obtain ⟨op1, tx1, k1, j1, s1, A3, na1, ma1, B3, nb1, mb1, C3, nc1, mc1, D3, nd1, md1, rfl, rfl, rfl, rfl, rfl, rfl, rfl, rfl, rfl⟩ := liesF_form hlx
      obtain ⟨op2, tx2, k2, j2, s2, A4, na2, ma2, B4, nb2, mb2, C4, nc2, mc2, D4, nd2, md2, rfl, rfl, rfl, rfl, rfl, rfl, rfl, rfl, rfl⟩ := liesF_form hly
      have hbel := HF.out.below
      have p0 := below_cell hbel hb0 (hcx 0 _ rfl)
      have p1 := below_cell hbel hb0 (hcx 1 _ rfl)
      have p2 := below_cell hbel hb0 (hcx 2 _ rfl)
      have p3 := below_cell hbel hb0 (hcx 3 _ rfl)
      have p4 := below_cell hbel hb0 (hcx 4 _ rfl)
      have p5 := below_cell hbel hb0 (hcx 5 _ rfl)
      have p6 := below_cell hbel hb0 (hcx 6 _ rfl)
      have p7 := below_cell hbel hb0 (hcx 7 _ rfl)
      have p8 := below_cell hbel hb0 (hcx 8 _ rfl)
      have q0 := below_cell hbel hb3 (hcy 0 _ rfl)
      have q1 := below_cell hbel hb3 (hcy 1 _ rfl)
      have q2 := below_cell hbel hb3 (hcy 2 _ rfl)
      have q3 := below_cell hbel hb3 (hcy 3 _ rfl)
      have q4 := below_cell hbel hb3 (hcy 4 _ rfl)
      have q5 := below_cell hbel hb3 (hcy 5 _ rfl)
      have q6 := below_cell hbel hb3 (hcy 6 _ rfl)
      have q7 := below_cell hbel hb3 (hcy 7 _ rfl)
      have q8 := below_cell hbel hb3 (hcy 8 _ rfl)
      rw [Nat.add_zero] at p0 q0
      have hcall := Lib.hid (fun W (hW : Below w.heap.size w W) => IH.out x (List.mem_of_getElem? hx) _ _ W (below_liesF hW hlx) (below_liesF hW hly))
      have hi1 : (i : Int) < (fs.length : Int) := by omega
      clear hlx hly hcx hcy hx hbel
      go_wp2_with fail
      go_still_tail 10, (by kernel_rfl)
      change wpList _ _ _ _ _ wr.drew
      go_wp2_with fail
      refine (hcall.out _ HF.out.below.drew).mono ?_
      rintro e' w' ⟨rfl, hb⟩
      have hb' := below_of_drew hb
      go_wp2
      go_roundw
      case rel => exact ⟨i + 1, by omega, by go_num, HF.out.next hb'⟩
      case measure => simp [intOf]; omega
    · go_wp2
      go_ret
      exact ⟨rfl, HF.out.below⟩
end Go.Proofs.YthiempadgehhlaaGreatDoor
