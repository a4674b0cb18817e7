import Derived.Test.YtoleoimmpggldaaGreatDoorY1
import Derived.Test.YtoleoimmpggldaaGreatDoorHG
import Derived.Test.YtoleoimmpggldaaGreatDoorHK
set_option linter.unusedVariables false
set_option linter.unusedSectionVars false
set_option linter.unusedSimpArgs false
set_option maxHeartbeats 10000000
set_option maxRecDepth 100000
namespace Go.Proofs.YtoleoimmpggldaaGreatDoor
open Go.RowKit
def FParsePost (w : World) (r : Ft × Nat × Nat) (e : Ending) (w' : World) : Prop := ∃ c0 c1 c2 c3 c4 c5 c6 c7 c8, e = .returned (.tuple #[.agg #[c0, c1, c2, c3, c4, c5, c6, c7, c8], ι r.2.1, ι r.2.2]) ∧ Below w.heap.size w w' ∧ LiesF w' (Nw w.heap.size w'.heap.size) r.1 [c0, c1, c2, c3, c4, c5, c6, c7, c8]
theorem below9' {B : Nat} {w w' : World} (h : Below B w w') {r : Nat} (hr : B ≤ r) (u0 u1 u2 u3 u4 u5 u6 u7 u8 : Value) : Below B w (((((((((w'.setCell ⟨r, 0, none⟩ u0).setCell ⟨r, 1, none⟩ u1).setCell ⟨r, 2, none⟩ u2).setCell ⟨r, 3, none⟩ u3).setCell ⟨r, 4, none⟩ u4).setCell ⟨r, 5, none⟩ u5).setCell ⟨r, 6, none⟩ u6).setCell ⟨r, 7, none⟩ u7).setCell ⟨r, 8, none⟩ u8) :=
 ((((((((h.setCell (p := ⟨r, 0, none⟩) hr u0).setCell (p := ⟨r, 1, none⟩) hr u1).setCell (p := ⟨r, 2, none⟩) hr u2).setCell (p := ⟨r, 3, none⟩) hr u3).setCell (p := ⟨r, 4, none⟩) hr u4).setCell (p := ⟨r, 5, none⟩) hr u5).setCell (p := ⟨r, 6, none⟩) hr u6).setCell (p := ⟨r, 7, none⟩) hr u7).setCell (p := ⟨r, 8, none⟩) hr u8
theorem below_of_gr {g : Nat} {w wa wb : World} (h : Below w.heap.size w wa) (hg : w.heap.size ≤ g) (k : Gr g wa wb) : Below w.heap.size w wb :=
 h.trans ⟨k.os, k.tape, k.output, k.size, fun b hb => k.block (nT hb h.size) (by omega)⟩
theorem zf_lies (w : World) (S : Nat → Prop) : LiesF w S zf [ι 0, eS, ι 0, ι 0, eS, nL, nL, nL, nL] := liesF_leaf _ _ _ _ _ (by decide) (lies_vz _ _)
theorem Box.drewOne {w : World} {r : Nat} {T : TypeId} {cs : Array Value} (h : Box w r T cs) : Box w.drew r T cs := h
theorem post9t {w : World} {r : Nat} {T : TypeId} {fn : Func} {a : Act} {R : Ending → World → Prop} {s1 s2 s3 : Nat} {x y : Int} {c0 c1 c2 c3 c4 c5 c6 c7 c8 : Value} (hres : fn.results = #[ResultVar.cell s1 29, ResultVar.tmp s2, ResultVar.tmp s3]) (ht : a.tmps.getD s1 undef = .pointer (some ⟨r, 0, none⟩)) (ht2 : a.tmps.getD s2 undef = ι x) (ht3 : a.tmps.getD s3 undef = ι y) (hd : a.defers = [])
 (hB : Box w r T #[c0, c1, c2, c3, c4, c5, c6, c7, c8]) (h : R (.returned (.tuple #[.agg #[c0, c1, c2, c3, c4, c5, c6, c7, c8], ι x, ι y])) w) : bodyPost Tryz.prog fn R Exit.ret a w := by
 obtain ⟨y0, y1, y2, y3, y4, y5, y6, y7, y8⟩ := box9 hB;have q1 : a.tmps[s1]?.getD undef = .pointer (some ⟨r, 0, none⟩) := by simpa using ht
 have q2 : a.tmps[s2]?.getD undef = ι x := by simpa using ht2
 have q3 : a.tmps[s3]?.getD undef = ι y := by simpa using ht3
 exact bodyPost_ret (v := .tuple #[.agg #[c0, c1, c2, c3, c4, c5, c6, c7, c8], ι x, ι y]) (by simp [results, hres, q1, q2, q3, go_sem, y0, y1, y2, y3, y4, y5, y6, y7, y8]) hd h
theorem own_zero {w : World} {base : Nat} {e : TypeId} {n c size : Nat} {A : Option Addr} {xs : List Value} (h : w.ownsRow base e size (.slice A n c) n xs) (hn : 0 < n) :
 ∃ g, A = some ⟨g, 0, none⟩ ∧ base ≤ g ∧ g < w.heap.size ∧ n ≤ c ∧ ∀ j u, xs[j]? = some u → w.cell? ⟨g, j, none⟩ = some u := by
 have h2 := h;rcases h.2 with ⟨e1, e2⟩ | ⟨g, cap, cur, e1, hb, hh, hnc, hcm, hcs, ht⟩
 · omega
 · injection e1 with e2 e3 e4
   subst e2; subst e4;refine ⟨g, rfl, hb, (h2.lt g rfl).2, hnc, fun j u hj => ?_⟩;have hjn : j < n * size := by
    rw [← h2.1];exact (gE.1 hj).1
   rw [h2.cellAt j hjn, hj]
theorem fparse_any (s : ByteArray) (hs0 : s.size ≤ 281474976710656) (w : World) (hE : ErrIn w) (hG : SgIn w) : Calls Tryz.prog 6 #[.string s] w (FParsePost w (parseP s.data.toList)) := by
 have HX := hI (fun W (hb : Below w.heap.size w W) => flex_any s hs0 W (hE.next hb) (hG.next hb));have HB0 := hI ((Below.refl w.heap.size w).alloc (Nat.le_refl _) (.cells z9 29));unfold parseP
 cases hts : (lexFP s.data.toList).ts with
 | none =>
  dsimp only;have he : ¬ (lexFP s.data.toList).e = 0 := by
   intro h0;obtain ⟨us, h1⟩ := lexFP_some h0;rw [h1] at hts;simp at hts
  generalize lexFP s.data.toList = r at HX hts he ⊢;obtain ⟨ts, p, e⟩ := r;dsimp only at hts he ⊢;subst hts;have qe : ((e : Int) != 0) = true := by rw [bne_iff_ne]; omega
  clear hE hG hs0 he
  go_enter Tryz.func6, Tryz.ntmps6
  go_wp2_with fail;refine (HX.out _ HB0.out).mono ?_;rintro e1 w1 ⟨hb1, A, n, c, rfl, rfl, rfl, rfl⟩;have HR := hI (Box.below (Box.laid w 29 z9) hb1 (by simp));have HB1 := hI (HB0.out.trans (hb1.mono (by simp)));obtain ⟨⟨y0, y1, y2, y3, y4, y5, y6, y7, y8⟩, z0, z1, z2, z3, z4, z5, z6, z7, z8⟩ := box9z HR.out;clear hb1;go_wp2_with fail;refine post9t Tryz.results6 rfl rfl rfl rfl (HR.out.put9z _ _ _ _ _ _ _ _ _) ?_;exact ⟨_, _, _, _, _, _, _, _, _, rfl, below9' HB1.out (Nat.le_refl _) _ _ _ _ _ _ _ _ _, zf_lies _ _⟩
 | some ts =>
  dsimp only;have hl := lexFP_e hts;obtain ⟨hEnd, hSz, hLen, -⟩ := lex_tok hl;have hL : TokL ts := ⟨hEnd, hSz, by omega⟩
  obtain ⟨f, σ, hrun, hσ⟩ := parse_ends hEnd;have hpos := hEnd.pos;rw [hl] at HX;have HF := hI (fun gt C g W (h : PAt ts gt C g W ⟨0, 0, 0, false, 0⟩) => rules_ok hL (gt := gt) (C := C) (g := g) (40 * ts.length) (by omega) .filter W _ f σ h hrun);have HK := hI (fun gt C g W (h : PAt ts gt C g W σ) => kind_any hL (gt := gt) (C := C) (g := g) 0 h);unfold parseT;rw [hrun];dsimp only;generalize hτ : kindS ts 0 σ = τ at HK ⊢;obtain ⟨rr, hrr⟩ : ∃ rr : Ft × Nat × Nat, (if τ.e = 0 then if τ.long = true then (zf, τ.lo, 2) else (f, 0, 0) else (zf, τ.o, τ.e)) = rr := ⟨_, rfl⟩
  rw [hrr];have HRR := hI hrr;clear hrr;clear hE hG hs0 hts hl hEnd hSz hrun hτ hσ
  go_enter Tryz.func6, Tryz.ntmps6
  go_wp2_with fail;refine (HX.out _ HB0.out).mono ?_;rintro e1 w1 ⟨hb1, A, n, c, rfl, h1, h2⟩;subst h1;obtain ⟨gt, rfl, hge, hlt, hnc, hrow⟩ := own_zero h2 hpos;have hw1 : w.heap.size < w1.heap.size := by have := hb1.size; simp at this; omega
  have HR1 := hI (Box.below (Box.laid w 29 z9) hb1 (by simp));have HB1 := hI (HB0.out.trans (hb1.mono (by simp)));have HP1 : Hid (PAt ts gt c w1.heap.size (w1.alloc (.cells #[.slice (some ⟨gt, 0, none⟩) ts.length c, ι 0, ι 0, .bool false, ι 0] 44)) ⟨0, 0, 0, false, 0⟩) := hI ⟨hpos, by omega, by simp; omega, hnc, by omega, by
   have h := Box.laid w1 44 #[.slice (some ⟨gt, 0, none⟩) ts.length c, ι 0, ι 0, .bool false, ι 0]
   simpa [pcells] using h, fun j u hj => by
   rw [World.cell?_alloc_lt w1 _ _ hlt];exact hrow j u hj⟩
  clear hb1 h2 hrow hge;go_wp2_with fail;refine (HF.out _ _ _ _ HP1.out).mono ?_;rintro e2 w2 ⟨c10, c11, c12, c13, c14, c15, c16, c17, c18, rfl, hg2, hp2, hl2⟩;obtain ⟨Z1, rfl, rfl, rfl, rfl, rfl, rfl, rfl, rfl, rfl⟩ := fr9 hl2;have HB2 := hI (below_of_gr (HB1.out.alloc (Nat.le_of_lt hw1) (.cells #[.slice (some ⟨gt, 0, none⟩) ts.length c, ι 0, ι 0, .bool false, ι 0] 44)) (Nat.le_of_lt hw1) hg2);have HR2 := hI (Box.grown (HR1.out.alloc (.cells #[.slice (some ⟨gt, 0, none⟩) ts.length c, ι 0, ι 0, .bool false, ι 0] 44)) hg2 (by intro e; injection e with e; omega));have HP2 := hI (hp2.alloc (.cells Z1.c 29));have HW2 := hI hg2.size;have HL2 := hI hl2;clear hg2 hp2 hl2;go_wp2_with fail;refine (HK.out _ _ _ _ HP2.out).mono ?_;rintro e3 w3 ⟨rfl, hg3, hp3⟩;have hw2 : w1.heap.size + 1 ≤ w2.heap.size := by have := HW2.out; simpa using this
  have HB3 := hI (below_of_gr (HB2.out.alloc (by omega) (.cells Z1.c 29)) (Nat.le_of_lt hw1) hg3);have HR3 := hI (Box.grown (HR2.out.alloc (.cells Z1.c 29)) hg3 (by intro e; injection e with e; omega));have HQ3 := hI (Box.grown (Box.laid w2 29 Z1.c) hg3 (by intro e; injection e with e; omega));have HL3 : Hid (LiesF w3 (fun b => w.heap.size < b ∧ b < w3.heap.size) f Z1.l) := hI (LiesF.move HL2.out fun b hb => ⟨⟨by have := hb.1; simp at this; omega, nT hb.2 (by have := hg3.size; simp at this; omega)⟩, by
   have hne : b ≠ w1.heap.size := by have := hb.1; simp at this; omega
   rw [hg3.block (by simp; have := hb.2; omega) hne];exact Below.heap_alloc _ _ _ hb.2⟩)
  obtain ⟨oo, nn, cc, -, -, -, ⟨b0, b1, b2, b3, b4⟩, -, -, hg1, -, -, -⟩ := hp3.op;obtain ⟨⟨y0, y1, y2, y3, y4, y5, y6, y7, y8⟩, z0, z1, z2, z3, z4, z5, z6, z7, z8⟩ := box9z HR3.out;have v0 := box9 HQ3.out;have hq3 := HQ3.out.lt;have hr3 := HR3.out.lt;have hgr : ¬ w1.heap.size = w.heap.size := by omega
  obtain ⟨k, o, e, long, lo⟩ := τ;dsimp only at b1 b2 b3 b4 ⊢;have hrr := HRR.out;dsimp only at hrr;clear hg3 hp3
  by_cases he : e = 0
  · rw [if_pos he] at hrr;have qe : ((e : Int) != 0) = false := by rw [bne_eq_false_iff_eq]; omega
    cases long with
    | true =>
     rw [if_pos rfl] at hrr;subst hrr;go_upto_region 10 with (fail)
     go_region
     go_wp2_with fail;refine post9t Tryz.results6 rfl rfl rfl rfl (Box.drewOne (HR3.out.put9z _ _ _ _ _ _ _ _ _)) ?_;exact ⟨_, _, _, _, _, _, _, _, _, rfl, (below9' HB3.out (Nat.le_refl _) _ _ _ _ _ _ _ _ _).drew, zf_lies _ _⟩
    | false =>
     rw [if_neg (by decide)] at hrr;subst hrr;go_wp2_with fail;refine post9t Tryz.results6 rfl rfl rfl rfl (HR3.out.put9z _ _ _ _ _ _ _ _ _) ?_;refine ⟨_, _, _, _, _, _, _, _, _, rfl, below9' HB3.out (Nat.le_refl _) _ _ _ _ _ _ _ _ _, LiesF.move HL3.out fun b hb => ?_⟩;rw [size9];exact ⟨⟨by omega, hb.2⟩, heap9 _ _ _ _ _ _ _ _ _ _ _ b (by omega)⟩
  · rw [if_neg he] at hrr;subst hrr;have qe : ((e : Int) != 0) = true := by rw [bne_iff_ne]; omega
    go_upto_region 8 with (fail)
    go_region
    go_wp2_with fail;refine post9t Tryz.results6 rfl rfl rfl rfl (Box.drewOne (HR3.out.put9z _ _ _ _ _ _ _ _ _)) ?_;exact ⟨_, _, _, _, _, _, _, _, _, rfl, (below9' HB3.out (Nat.le_refl _) _ _ _ _ _ _ _ _ _).drew, zf_lies _ _⟩
end Go.Proofs.YtoleoimmpggldaaGreatDoor
namespace Go.Proofs.YtoleoimmpggldaaGreatDoor
open Go.RowKit
theorem sub_at {w : World} {S : Nat → Prop} {B : Option Addr} {xs : List Value} {fs : List Ft} (hB : Rs w S B xs) (hL : LiesFL w S fs xs) {i : Nat} {e : Ft} (hi : fs[i]? = some e) :
 ∃ (bb o : Nat) (c0 c1 c2 c3 c4 c5 c6 c7 c8 : Value), B = some ⟨bb, o, none⟩ ∧ S bb ∧ LiesF w S e [c0, c1, c2, c3, c4, c5, c6, c7, c8] ∧ ∀ j u, ([c0, c1, c2, c3, c4, c5, c6, c7, c8] : List Value)[j]? = some u → w.cell? ⟨bb, o + i * 9 + j, none⟩ = some u := by
 obtain ⟨c, hc, hx⟩ := hL.at_ hi;obtain ⟨c0, c1, c2, c3, c4, c5, c6, c7, c8, rfl⟩ := hc.cells9;obtain ⟨bb, o, rfl, hS, h0⟩ := hB.at_ (j := i * 9 + 0) (u := c0) (by rw [hx 0 (by omega)]; rfl);refine ⟨bb, o, c0, c1, c2, c3, c4, c5, c6, c7, c8, rfl, hS, hc, fun j u hj => ?_⟩;have hj9 : j < 9 := by have := (gE.1 hj).1; simpa using this
 obtain ⟨b', o', e', _, h'⟩ := hB.at_ (j := i * 9 + j) (u := u) (by rw [hx j hj9]; exact hj);injection e' with e'
 injection e' with e1 e2
 subst e1; subst e2;rw [Nat.add_assoc];exact h'
theorem two_subs {w : World} {S : Nat → Prop} {op : Int} {tx : ByteArray} {v : V} {ps : List ByteArray} {a b : Ft} {cs : List Value} (h : LiesF w S (.mk op tx v ps [a, b]) cs) :
 ∃ (k n : Int) (s : ByteArray) (A1 : Option Addr) (n1 m1 : Nat) (A2 : Option Addr) (n2 m2 : Nat) (A3 : Option Addr) (m3 bb o m4 : Nat) (a0 a1 a2 a3 a4 a5 a6 a7 a8 b0 b1 b2 b3 b4 b5 b6 b7 b8 : Value),
  cs = [ι op, .string tx, ι k, ι n, .string s, .slice A1 n1 m1, .slice A2 n2 m2, .slice A3 ps.length m3, .slice (some ⟨bb, o, none⟩) 2 m4] ∧ S bb ∧ 2 ≤ m4 ∧ LiesF w S a [a0, a1, a2, a3, a4, a5, a6, a7, a8] ∧ LiesF w S b [b0, b1, b2, b3, b4, b5, b6, b7, b8] ∧
  (∀ j u, ([a0, a1, a2, a3, a4, a5, a6, a7, a8] : List Value)[j]? = some u → w.cell? ⟨bb, o + j, none⟩ = some u) ∧ (∀ j u, ([b0, b1, b2, b3, b4, b5, b6, b7, b8] : List Value)[j]? = some u → w.cell? ⟨bb, o + 9 + j, none⟩ = some u) := by
 obtain ⟨v0, v1, v2, v3, v4, A, a', B, b', xs, rfl, hv, h1, h2, h3, h4, hA, hB, hL⟩ := liesF_open h;obtain ⟨k, n, s, ks, es⟩ := v;obtain ⟨A', a'', B', b'', xs', he', -⟩ := lies_open hv;simp only [List.cons.injEq, and_true] at he';obtain ⟨rfl, rfl, rfl, rfl, rfl⟩ := he';obtain ⟨bb, o, a0, a1, a2, a3, a4, a5, a6, a7, a8, rfl, hS, ha, hac⟩ := sub_at hB hL (i := 0) rfl;obtain ⟨bb2, o2, b0, b1, b2, b3, b4, b5, b6, b7, b8, he, hS2, hb, hbc⟩ := sub_at hB hL (i := 1) rfl;injection he with he
 injection he with e1 e2
 subst e1; subst e2;exact ⟨k, n, s, A', _, a'', B', _, b'', A, a', bb, o, b', a0, a1, a2, a3, a4, a5, a6, a7, a8, b0, b1, b2, b3, b4, b5, b6, b7, b8, rfl, hS, h4.1, ha, hb, fun j u hj => by have := hac j u hj; simpa using this, fun j u hj => by have := hbc j u hj; simpa using this⟩
theorem pawake_any (w : World) (hE : ErrIn w) (hG : SgIn w) : Calls Tryz.prog 5 #[] w fun e w' => e = .returned (.bool true) ∧ Below w.heap.size w w' := by
 have HX := hI (fparse_any ⟨#[49, 32, 45, 32, 50, 32, 45, 32, 51]⟩ (by decide) w hE hG);have hb := aw_true;unfold awB at hb;have hl : (⟨#[49, 32, 45, 32, 50, 32, 45, 32, 51]⟩ : ByteArray).data.toList = [49, 32, 45, 32, 50, 32, 45, 32, 51] := rfl;rw [hl] at HX;generalize parseP [49, 32, 45, 32, 50, 32, 45, 32, 51] = r at HX hb;obtain ⟨f, a, e⟩ := r;dsimp only at hb;simp only [Bool.and_eq_true, decide_eq_true_eq] at hb;obtain ⟨rfl, rfl, h1, h2, h3, h4⟩ := hb;obtain ⟨op, tx, v, ps, fs⟩ := f;dsimp only [Ft.opn, Ft.subs] at h1 h2 h3 h4;subst h1
 match fs, h2 with
 | [f1, f2], _ =>
  obtain ⟨op1', tx1', vv1, ps1, fs1⟩ := f1;obtain ⟨op2', tx2', ⟨kk, nn, ss, ks, es⟩, ps2, fs2⟩ := f2;simp [Ft.opn, Ft.num] at h3 h4;subst h3; subst h4;clear hE hG hl
  go_enter Tryz.func5, Tryz.ntmps5
  go_wp2_with fail;refine HX.out.mono ?_;rintro e1 w1 ⟨c0, c1, c2, c3, c4, c5, c6, c7, c8, rfl, hb1, hl1⟩;obtain ⟨k, n, s, A1, n1, m1, A2, n2, m2, A3, m3, bb, o, m4, a0, a1, a2, a3, a4, a5, a6, a7, a8, b0, b1, b2, b3, b4, b5, b6, b7, b8, he, hS, hm4, hla, hlb, ha, hbb⟩ := two_subs hl1;simp only [List.cons.injEq, and_true] at he;obtain ⟨rfl, rfl, rfl, rfl, rfl, rfl, rfl, rfl, rfl⟩ := he;obtain ⟨v0, v1, v2, v3, v4, Aa, na, Ba, nb, xa, hea, -⟩ := liesF_open hla;obtain ⟨u0, u1, u2, u3, u4, Ab, nab, Bb, nbb, xb, heb, hvb, -⟩ := liesF_open hlb;obtain ⟨Av, av, Bv, bv, xv, hev, -⟩ := lies_open hvb;simp only [List.cons.injEq, and_true] at hea heb hev;obtain ⟨rfl, -⟩ := hea;obtain ⟨-, -, -, rfl, -⟩ := heb;obtain ⟨-, rfl, -⟩ := hev;have q0 : w1.cell? ⟨bb, o, none⟩ = some (ι 17) := ha 0 _ rfl;have q2 : w1.cell? ⟨bb, o + 12, none⟩ = some (ι 3) := hbb 3 _ rfl;have q3 : w1.cell? ⟨bb, o + 9 + 2 + 1, none⟩ = some (ι 3) := hbb 3 _ rfl;have hlt := hS.2;have hB1 := hI hb1;clear hla hlb ha hbb hvb hb1 hl1 hS;go_wp2_with fail
  go_ret
  exact ⟨rfl, hB1.out.alloc hB1.out.size _⟩
