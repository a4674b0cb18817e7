import Derived.Test.YtoleoimmpggldaaGreatDoorHP
import Derived.Test.YtoleoimmpggldaaGreatDoorQK
import Derived.Test.YtoleoimmpggldaaGreatDoorRYk
set_option linter.unusedVariables false
set_option linter.unusedSimpArgs false
set_option linter.unusedSectionVars false
set_option maxHeartbeats 10000000
set_option maxRecDepth 100000
namespace Go.Proofs.YtoleoimmpggldaaGreatDoor
open Go.RowKit
structure FlB (w : World) (c d : Array Value) (W : World) : Prop where
 below : Below w.heap.size w W
 a : Box W w.heap.size 29 c
 b : Box W (w.heap.size + 1) 29 d
theorem FlB.start (w : World) (c d : Array Value) : FlB w c d ((w.alloc (.cells c 29)).alloc (.cells d 29)) :=
 ⟨below2 _ _ _, (Box.laid w _ c).alloc _, by have h := Box.laid (w.alloc (.cells c 29)) 29 d; simpa using h⟩
theorem FlB.next {w W W' : World} {c d : Array Value} (h : FlB w c d W) (hb : Below W.heap.size W W') : FlB w c d W' :=
 ⟨chain h.below hb, h.a.below hb h.a.lt, h.b.below hb h.b.lt⟩
theorem FlB.drewN {w W : World} {c d : Array Value} (h : FlB w c d W) (m : Nat) : FlB w c d (W.drewN m) := h.next (below_drewN (Below.refl _ _) m)
def FilOk (f : Ft) : Prop := ∀ (cs ds : List Value) (w : World), LiesF w (· < w.heap.size) f cs → LiesF w (· < w.heap.size) f ds →
 Calls Tryz.prog 8 #[.agg cs.toArray, .agg ds.toArray] w fun e w' => e = .returned (.bool true) ∧ Below w.heap.size w w'
theorem same_one {v : V} {cs ds : List Value} {W : World} (h : Lies W (· < W.heap.size) v cs) (k : Lies W (· < W.heap.size) v ds) : Calls Tryz.prog 18 #[.agg cs.toArray, .agg ds.toArray] W fun e w' => e = .returned (.bool true) ∧ Below W.heap.size W w' := by
 have := same_any v v cs ds W h k;rw [(same_iff v v).2 rfl] at this;exact this
theorem below_liesF {w w' : World} (hb : Below w.heap.size w w') {f : Ft} {cs : List Value} (h : LiesF w (· < w.heap.size) f cs) : LiesF w' (· < w'.heap.size) f cs :=
 h.move fun b hlt => ⟨nT hlt hb.size, hb.block b hlt⟩
theorem nw_liesF {w w' : World} {n : Nat} {f : Ft} {cs : List Value} (h : LiesF w' (Nw n w'.heap.size) f cs) : LiesF w' (· < w'.heap.size) f cs :=
 h.move fun b hlt => ⟨hlt.2, rfl⟩
theorem filters_same : ∀ f : Ft, FilOk f := by
 refine Ft.ind fun op tx v ps fs ih cs ds w h1 h2 => ?_
 obtain ⟨_, h02, h03, h04⟩ : tx.size ≤ 140737488355328 ∧ (∀ x ∈ ps, x.size ≤ 140737488355328) ∧ ps.length ≤ 140737488355328 ∧ fs.length ≤ 140737488355328 := by
  rw [LiesF] at h1;exact h1.1
 obtain ⟨v0, v1, v2, v3, v4, A, a, B, b, xs, rfl, hv, -, -, -, -, hA, hB, hL⟩ := liesF_open h1;obtain ⟨u0, u1, u2, u3, u4, A', a', B', b', ys, rfl, hu, -, -, -, -, hA', hB', hL'⟩ := liesF_open h2;have HS := hI (fun (W : World) (hb : Below w.heap.size w W) => same_one (W := W) (below_lies hb hv) (below_lies hb hu));have HT := hI (fun (W : World) (hb : Below w.heap.size w W) => by
  have h := strings_any A A' a a' ps ps (· < w.heap.size) (· < w.heap.size) W (hA.move fun b h => ⟨h, hb.block b h⟩) (hA'.move fun b h => ⟨h, hb.block b h⟩) (by unfold maxLen; omega);rw [decide_eq_true (rfl : ps = ps)] at h;exact h)
 have HSA := hI (fun (i : Nat) (e : Ft) (hi : fs[i]? = some e) => sub_at hB hL hi);have HSB := hI (fun (i : Nat) (e : Ft) (hi : fs[i]? = some e) => sub_at hB' hL' hi);have IH := hI ih;obtain ⟨k, n, s, ks, es⟩ := v;obtain ⟨A1, a1, B1, b1, xs1, he1, -⟩ := lies_open hv;simp only [List.cons.injEq, and_true] at he1;obtain ⟨rfl, rfl, rfl, rfl, rfl⟩ := he1;obtain ⟨A2, a2, B2, b2, xs2, he2, -⟩ := lies_open hu;simp only [List.cons.injEq, and_true] at he2;obtain ⟨rfl, rfl, rfl, rfl, rfl⟩ := he2;clear hA hB hL hA' hB' hL' h1 h2 ih hv hu h02;generalize ks.length = l1 at *
 generalize es.length = l2 at *
 show Calls _ _ #[.agg #[ι op, .string tx, ι k, ι n, .string s, .slice A1 l1 a1, .slice B1 l2 b1, .slice A ps.length a, .slice B fs.length b], .agg #[ι op, .string tx, ι k, ι n, .string s, .slice A2 l1 a2, .slice B2 l2 b2, .slice A' ps.length a', .slice B' fs.length b']] w _
 have H0 := hI (FlB.start w #[ι op, .string tx, ι k, ι n, .string s, .slice A1 l1 a1, .slice B1 l2 b1, .slice A ps.length a, .slice B fs.length b] #[ι op, .string tx, ι k, ι n, .string s, .slice A2 l1 a2, .slice B2 l2 b2, .slice A' ps.length a', .slice B' fs.length b'])
 go_enter Tryz.func8, Tryz.ntmps8
 go_wp2_with fail;refine (HS.out _ H0.out.below).mono ?_;rintro e1 w1 ⟨rfl, hb1⟩;have H1 := hI (H0.out.next hb1);obtain ⟨y0, y1, y2, y3, y4, y5, y6, y7, y8⟩ := box9 H1.out.a;obtain ⟨z0, z1, z2, z3, z4, z5, z6, z7, z8⟩ := box9 H1.out.b;clear hb1 H0;go_wp2_with fail;refine (HT.out _ H1.out.below).mono ?_;rintro e2 w2 ⟨rfl, m, rfl⟩;have H2 := hI (H1.out.drewN m);generalize w1.drewN m = wd at H2 ⊢;clear H1 y0 y1 y2 y3 y4 y5 y6 y7 y8 z0 z1 z2 z3 z4 z5 z6 z7 z8;have y8 := H2.out.a.cell (i := 8) rfl;have z8 := H2.out.b.cell (i := 8) rfl;go_wp2_with fail
 go_loopw [5] (fun t wr => ∃ i : Nat, i ≤ fs.length ∧ t = ι i ∧ FlB w #[ι op, .string tx, ι k, ι n, .string s, .slice A1 l1 a1, .slice B1 l2 b1, .slice A ps.length a, .slice B fs.length b] #[ι op, .string tx, ι k, ι n, .string s, .slice A2 l1 a2, .slice B2 l2 b2, .slice A' ps.length a', .slice B' fs.length b'] wr) (fun t _ => fs.length - (intOf t).toNat)
 case atStart => exact ⟨0, Nat.zero_le _, rfl, H2.out⟩
 case round =>
  obtain ⟨i, hi, rfl, hfl⟩ := hrel;have HF := hI hfl;clear hfl H2 y8 z8;have y8 := HF.out.a.cell (i := 8) rfl;have z8 := HF.out.b.cell (i := 8) rfl
  by_cases hlt : i < fs.length
  · obtain ⟨x, hx⟩ : ∃ x, fs[i]? = some x := ⟨_, List.getElem?_eq_getElem hlt⟩
    obtain ⟨b0, o0, c0, c1, c2, c3, c4, c5, c6, c7, c8, rfl, hb0, hlx, hcx⟩ := HSA.out i x hx;obtain ⟨b3, o3, d0, d1, d2, d3, d4, d5, d6, d7, d8, rfl, hb3, hly, hcy⟩ := HSB.out i x hx;obtain ⟨Z1, rfl, rfl, rfl, rfl, rfl, rfl, rfl, rfl, rfl⟩ := fr9 hlx;obtain ⟨Z2, rfl, rfl, rfl, rfl, rfl, rfl, rfl, rfl, rfl⟩ := fr9 hly;have hbel := HF.out.below;have p0 := below_cell hbel hb0 (hcx 0 _ rfl);have p1 := below_cell hbel hb0 (hcx 1 _ rfl);have p2 := below_cell hbel hb0 (hcx 2 _ rfl);have p3 := below_cell hbel hb0 (hcx 3 _ rfl);have p4 := below_cell hbel hb0 (hcx 4 _ rfl);have p5 := below_cell hbel hb0 (hcx 5 _ rfl);have p6 := below_cell hbel hb0 (hcx 6 _ rfl);have p7 := below_cell hbel hb0 (hcx 7 _ rfl);have p8 := below_cell hbel hb0 (hcx 8 _ rfl);have q0 := below_cell hbel hb3 (hcy 0 _ rfl);have q1 := below_cell hbel hb3 (hcy 1 _ rfl);have q2 := below_cell hbel hb3 (hcy 2 _ rfl);have q3 := below_cell hbel hb3 (hcy 3 _ rfl);have q4 := below_cell hbel hb3 (hcy 4 _ rfl);have q5 := below_cell hbel hb3 (hcy 5 _ rfl);have q6 := below_cell hbel hb3 (hcy 6 _ rfl);have q7 := below_cell hbel hb3 (hcy 7 _ rfl);have q8 := below_cell hbel hb3 (hcy 8 _ rfl);rw [Nat.add_zero] at p0 q0;have hcall := hI (fun W (hW : Below w.heap.size w W) => IH.out x (List.mem_of_getElem? hx) _ _ W (below_liesF hW hlx) (below_liesF hW hly));have hi1 : (i : Int) < (fs.length : Int) := by omega
    clear hlx hly hcx hcy hx hbel;go_wp2_with fail
    go_still_tail 10, (by kernel_rfl)
    change wpList _ _ _ _ _ wr.drew
    go_wp2_with fail;refine (hcall.out _ HF.out.below.drew).mono ?_;rintro e' w' ⟨rfl, hb⟩;have hb' := below_of_drew hb
    go_wp2
    go_roundw
    case rel => exact ⟨i + 1, by omega, by go_num, HF.out.next hb'⟩
    case measure => simp [intOf]; omega
  · go_wp2
    go_ret
    exact ⟨rfl, HF.out.below⟩
end Go.Proofs.YtoleoimmpggldaaGreatDoor
namespace Go.Proofs.YtoleoimmpggldaaGreatDoor
open Go.RowKit
structure TB (w W : World) (l : List (Nat × List Value × Ft)) : Prop where
 below : Below w.heap.size w W
 b : ∀ x ∈ l, Box W x.1 29 x.2.1.toArray ∧ LiesF W (· < W.heap.size) x.2.2 x.2.1
theorem TB.start (w : World) : TB w w [] := ⟨Below.refl _ _, fun x h => by cases h⟩
theorem TB.next {w W W' : World} {l : List (Nat × List Value × Ft)} (h : TB w W l) (hb : Below W.heap.size W W') : TB w W' l :=
 ⟨chain h.below hb, fun x hx => ⟨(h.b x hx).1.below hb (h.b x hx).1.lt, below_liesF hb (h.b x hx).2⟩⟩
theorem TB.box {w W W' : World} {l : List (Nat × List Value × Ft)} (h : TB w W l) (hb : Below W.heap.size W W') {f : Ft} {cs : List Value} (hl : LiesF W' (Nw W.heap.size W'.heap.size) f cs) : TB w (W'.alloc (.cells cs.toArray 29)) ((W'.heap.size, cs, f) :: l) := by
 have h1 := h.next hb
 have h2 := h1.next ((Below.refl _ _).alloc (Nat.le_refl _) (.cells cs.toArray 29))
 refine ⟨h2.below, fun x hx => ?_⟩;rcases List.mem_cons.1 hx with rfl | hx
 · exact ⟨Box.laid _ _ _, below_liesF ((Below.refl _ _).alloc (Nat.le_refl _) _) (nw_liesF (w := W) hl)⟩
 · exact h2.b x hx
theorem TB.alloc {w W : World} {l : List (Nat × List Value × Ft)} (h : TB w W l) (o : Obj) : TB w (W.alloc o) l := h.next ((Below.refl _ _).alloc (Nat.le_refl _) o)
theorem rparse_same (s : ByteArray) (hs0 : s.size ≤ 281474976710656) (w : World) : Calls Tryz.prog 7 #[.string s] w (FParsePost w (parseP s.data.toList)) := by
 have h := Rx.rparse_any s hs0 w;rw [Rx.parseP_eq] at h;exact h
theorem text_walk (s : ByteArray) (w : World) (hE : ErrIn w) (hG : SgIn w) (hz : s.size ≤ 140737488355328) : Calls Tryz.prog 3 #[.string s] w fun e w' => e = .returned (.bool true) ∧ Below w.heap.size w w' := by
 have HAW := hI (fun (W : World) (h : Below w.heap.size w W) => pawake_any W (hE.next h) (hG.next h));have HPX := hI (fun (W : World) (h : Below w.heap.size w W) => fparse_any s (by omega) W (hE.next h) (hG.next h));have HRX := hI (fun (W : World) => rparse_same s (by omega) W);have H0 := hI (TB.start w);clear hE hG
 by_cases h200 : 200 < s.size
 · have q200 : (200 : Int) < (s.size : Int) := by omega
   clear HPX HRX
   go_enter Tryz.func3, Tryz.ntmps3
   go_wp2_with fail;refine (HAW.out _ H0.out.below).mono ?_;rintro e1 w1 ⟨rfl, hb1⟩;have HB1 := hI (chain H0.out.below hb1);clear hb1;go_wp2_with fail
   go_ret
   exact ⟨rfl, HB1.out⟩
 · have q200 : ¬ (200 : Int) < (s.size : Int) := by omega
   generalize parseP s.data.toList = r at HPX HRX;obtain ⟨f, a, e⟩ := r;clear h200
   go_enter Tryz.func3, Tryz.ntmps3
   go_wp2_with fail;refine (HPX.out _ H0.out.below).mono ?_;rintro e1 w1 ⟨c0, c1, c2, c3, c4, c5, c6, c7, c8, rfl, hb1, hl1⟩;obtain ⟨Z1, rfl, rfl, rfl, rfl, rfl, rfl, rfl, rfl, rfl⟩ := fr9 hl1;have H1 := hI (H0.out.box hb1 hl1);clear hb1 hl1;go_wp2_with fail;generalize w1.alloc (.cells Z1.c 29) = W1 at H1 ⊢;generalize w1.heap.size = g1 at H1 ⊢;refine (HRX.out _).mono ?_;rintro e2 w2 ⟨c0, c1, c2, c3, c4, c5, c6, c7, c8, rfl, hb2, hl2⟩;obtain ⟨Z2, rfl, rfl, rfl, rfl, rfl, rfl, rfl, rfl, rfl⟩ := fr9 hl2;have H2 := hI (H1.out.box hb2 hl2);clear hb2 hl2;generalize hW2 : w2.alloc (.cells Z2.c 29) = W2 at H2;generalize hg2 : w2.heap.size = g2 at H2;have Z1.A := H2.out.b (g1, Z1.l, f) (by simp);have Z2.A := H2.out.b (g2, Z2.l, f) (by simp);have y0 := box9 Z1.A.1;have z0 := box9 Z2.A.1;have HF0 := hI (filters_same f _ _ W2 Z1.A.2 Z2.A.2);clear Z1.A Z2.A;go_wp2_with fail;refine HF0.out.mono ?_;rintro e3 w3 ⟨rfl, hb3⟩;have H3 := hI (H2.out.next hb3);clear hb3 HF0 hW2 hg2 H2;go_wp2_with fail;refine (HAW.out _ H3.out.below).mono ?_;rintro e4 w4 ⟨rfl, hb4⟩;have HB4 := hI (chain H3.out.below hb4);clear hb4;go_wp2_with fail
   go_ret
   exact ⟨rfl, HB4.out⟩
