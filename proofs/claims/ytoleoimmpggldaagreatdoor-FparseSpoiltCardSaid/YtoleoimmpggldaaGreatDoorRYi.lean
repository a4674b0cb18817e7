import Derived.Test.YtoleoimmpggldaaGreatDoorRYc
import Derived.Test.YtoleoimmpggldaaGreatDoorYd
import Derived.Test.YtoleoimmpggldaaGreatDoorRYf
import Derived.Test.YtoleoimmpggldaaGreatDoorRYd
set_option linter.unusedVariables false
set_option linter.unusedSimpArgs false
set_option linter.unusedSectionVars false
set_option maxHeartbeats 10000000
set_option maxRecDepth 100000
namespace Go.Proofs.YtoleoimmpggldaaGreatDoor.Rx
open Go.RowKit
theorem keyed_any {L : List Fk} (hL : TokL L) {gt C g : Nat} {call : Ru → PM} (hA : OkA L gt C g call) (s : ByteArray) (W : World) (σ τ : PS) (t : Ft) (hbd : σ.bad = false) (hnz : (tk L σ.k).k ≠ 0) (hP : PAt L gt C g W σ) (hm : keyedM L call s σ = some (t, τ)) :
 Calls Tryz.prog 182 #[.pointer (some ⟨g, 0, none⟩), .string s] W (RetF L gt C g W t τ) := by
 have H0 : Hid (St noS L gt C g W (W.alloc (.cells #[ι 0, eS, ι 0, ι 0, eS, nL, nL, nL, nL] 29)) σ [] []) := hI (St.begin hP);have hg0 := hP.glt;have hnx := hL.e.next hP.lt hnz
 have hkm := hP.capm;have hkl := hP.lt;unfold keyedM at hm;clear hP hnz hkl
 by_cases hw : s = (⟨#[116, 114, 117, 101]⟩ : ByteArray)
 · rw [if_pos hw] at hm;have q8 := streqc s [116, 114, 117, 101];rw [decide_eq_true hw] at q8;clear hw;injection hm with hm
   injection hm with h3 h4
   subst h3; subst h4;have HLI := hI (fun W => lit_any 2 0 ⟨#[]⟩ W);clear hA hbd
   go_enter Tryz.func182, Tryz.ntmps182
   go_upto_region 1 with (fail)
   generalize W.alloc (.cells #[ι 0, eS, ι 0, ι 0, eS, nL, nL, nL, nL] 29) = wz at H0 ⊢;obtain ⟨⟨b0, b1, b2, b3⟩, f0, f1, f2, f3⟩ := box4' H0.out.r.p.box;have hlg := H0.out.r.p.glt;have hk9 : (σ.k : Int) ≤ 4096 := by omega
   have hk0 : 0 ≤ (σ.k : Int) := by omega
   generalize hkk : (σ.k : Int) = kk at b1 hk9 hk0;have H1 := hI (H0.out.next ((Gr.refl g _).set 1 _) (H0.out.r.p.step hnx (by rw [hkk])));clear hkk;go_wp2_with fail;refine (HLI.out _).mono ?_;rintro e w2 ⟨rfl, hb2⟩;have H2 := hI ((H1.out.low hb2).leaf 7 ⟨#[]⟩ 2 0 ⟨#[]⟩ (by decide) (by decide));clear hb2;have x0 := H2.out.r.cells;go_wp2_with fail;refine post9 Tryz.results182 rfl rfl (H2.out.r.r.put9z _ _ _ _ _ _ _ _ _) ?_;exact retF_of (H2.out.close (by first | exact mC | simp))
 · rw [if_neg hw] at hm;have q8 := streqc s [116, 114, 117, 101];rw [decide_eq_false hw] at q8;clear hw
   by_cases hw : s = (⟨#[102, 97, 108, 115, 101]⟩ : ByteArray)
   · rw [if_pos hw] at hm;have q7 := streqc s [102, 97, 108, 115, 101];rw [decide_eq_true hw] at q7;clear hw;injection hm with hm
     injection hm with h3 h4
     subst h3; subst h4;have HLI := hI (fun W => lit_any 1 0 ⟨#[]⟩ W);clear hA hbd
     go_enter Tryz.func182, Tryz.ntmps182
     go_upto_region 1 with (fail)
     generalize W.alloc (.cells #[ι 0, eS, ι 0, ι 0, eS, nL, nL, nL, nL] 29) = wz at H0 ⊢;obtain ⟨⟨b0, b1, b2, b3⟩, f0, f1, f2, f3⟩ := box4' H0.out.r.p.box;have hlg := H0.out.r.p.glt;have hk9 : (σ.k : Int) ≤ 4096 := by omega
     have hk0 : 0 ≤ (σ.k : Int) := by omega
     generalize hkk : (σ.k : Int) = kk at b1 hk9 hk0;have H1 := hI (H0.out.next ((Gr.refl g _).set 1 _) (H0.out.r.p.step hnx (by rw [hkk])));clear hkk;go_wp2_with fail;refine (HLI.out _).mono ?_;rintro e w2 ⟨rfl, hb2⟩;have H2 := hI ((H1.out.low hb2).leaf 7 ⟨#[]⟩ 1 0 ⟨#[]⟩ (by decide) (by decide));clear hb2;have x0 := H2.out.r.cells;go_wp2_with fail;refine post9 Tryz.results182 rfl rfl (H2.out.r.r.put9z _ _ _ _ _ _ _ _ _) ?_;exact retF_of (H2.out.close (by first | exact mC | simp))
   · rw [if_neg hw] at hm;have q7 := streqc s [102, 97, 108, 115, 101];rw [decide_eq_false hw] at q7;clear hw
     by_cases hw : s = (⟨#[110, 117, 108, 108]⟩ : ByteArray)
     · rw [if_pos hw] at hm;have q6 := streqc s [110, 117, 108, 108];rw [decide_eq_true hw] at q6;clear hw;injection hm with hm
       injection hm with h3 h4
       subst h3; subst h4;have HLI := hI (fun W => lit_any 0 0 ⟨#[]⟩ W);clear hA hbd
       go_enter Tryz.func182, Tryz.ntmps182
       go_upto_region 1 with (fail)
       generalize W.alloc (.cells #[ι 0, eS, ι 0, ι 0, eS, nL, nL, nL, nL] 29) = wz at H0 ⊢;obtain ⟨⟨b0, b1, b2, b3⟩, f0, f1, f2, f3⟩ := box4' H0.out.r.p.box;have hlg := H0.out.r.p.glt;have hk9 : (σ.k : Int) ≤ 4096 := by omega
       have hk0 : 0 ≤ (σ.k : Int) := by omega
       generalize hkk : (σ.k : Int) = kk at b1 hk9 hk0;have H1 := hI (H0.out.next ((Gr.refl g _).set 1 _) (H0.out.r.p.step hnx (by rw [hkk])));clear hkk;go_wp2_with fail;refine (HLI.out _).mono ?_;rintro e w2 ⟨rfl, hb2⟩;have H2 := hI ((H1.out.low hb2).leaf 7 ⟨#[]⟩ 0 0 ⟨#[]⟩ (by decide) (by decide));clear hb2;have x0 := H2.out.r.cells;go_wp2_with fail;refine post9 Tryz.results182 rfl rfl (H2.out.r.r.put9z _ _ _ _ _ _ _ _ _) ?_;exact retF_of (H2.out.close (by first | exact mC | simp))
     · rw [if_neg hw] at hm;have q6 := streqc s [110, 117, 108, 108];rw [decide_eq_false hw] at q6;clear hw
       by_cases hw : s = (⟨#[105, 102]⟩ : ByteArray)
       · rw [if_pos hw] at hm;have q5 := streqc s [105, 102];rw [decide_eq_true hw] at q5;clear hw;have HC := hI (fun W h => hA .condition W _ t τ h hm);clear hA hm hbd
         go_enter Tryz.func182, Tryz.ntmps182
         go_upto_region 1 with (fail)
         generalize W.alloc (.cells #[ι 0, eS, ι 0, ι 0, eS, nL, nL, nL, nL] 29) = wz at H0 ⊢;obtain ⟨⟨b0, b1, b2, b3⟩, f0, f1, f2, f3⟩ := box4' H0.out.r.p.box;have hlg := H0.out.r.p.glt;have hk9 : (σ.k : Int) ≤ 4096 := by omega
         have hk0 : 0 ≤ (σ.k : Int) := by omega
         generalize hkk : (σ.k : Int) = kk at b1 hk9 hk0;have H1 := hI (H0.out.next ((Gr.refl g _).set 1 _) (H0.out.r.p.step hnx (by rw [hkk])));clear hkk;go_wp2_with fail;refine (HC.out _ H1.out.r.p).mono ?_;rintro e w2 hZ;obtain ⟨Z1, rfl, hg2, hp2, hl2⟩ := fr3 hZ;have H2 := hI (H1.out.call hg2 hp2 hl2);clear hg2 hp2 hl2;have x0 := H2.out.r.cells;go_wp2_with fail;refine post9 Tryz.results182 rfl rfl (H2.out.r.r.put9z _ _ _ _ _ _ _ _ _) ?_;exact retF_of (H2.out.close (by first | exact mC | simp))
       · rw [if_neg hw] at hm;have q5 := streqc s [105, 102];rw [decide_eq_false hw] at q5;clear hw
         by_cases hw : s = (⟨#[116, 114, 121]⟩ : ByteArray)
         · rw [if_pos hw] at hm;have q4 := streqc s [116, 114, 121];rw [decide_eq_true hw] at q4;clear hw;obtain ⟨f, σ1, h1, hm2⟩ := bnd_some hm;have HC1 := hI (fun W h => hA .post W _ f σ1 h h1);obtain ⟨b, hb⟩ : ∃ b, sees L (⟨#[99, 97, 116, 99, 104]⟩ : ByteArray) σ1 = b := ⟨_, rfl⟩
           rw [hb] at hm2;have HT := hI (fun W (h : PAt L gt C g W σ1) => take_any hL (⟨#[99, 97, 116, 99, 104]⟩ : ByteArray) b hb h);clear hb hm h1 hbd
           cases b with
           | true =>
            rw [if_pos rfl] at hm2;obtain ⟨u, σ2, h1, h2⟩ := bnd_some hm2;injection h2 with h2
            injection h2 with h3 h4
            subst h3; subst h4;have HC2 := hI (fun W h => hA .post W _ u σ2 h h1);have HNO := hI (fun A W => node_any 19 ⟨#[]⟩ A 2 2 W);clear hA hm2 h1
            go_enter Tryz.func182, Tryz.ntmps182
            go_upto_region 1 with (fail)
            generalize W.alloc (.cells #[ι 0, eS, ι 0, ι 0, eS, nL, nL, nL, nL] 29) = wz at H0 ⊢;obtain ⟨⟨b0, b1, b2, b3⟩, f0, f1, f2, f3⟩ := box4' H0.out.r.p.box;have hlg := H0.out.r.p.glt;have hk9 : (σ.k : Int) ≤ 4096 := by omega
            have hk0 : 0 ≤ (σ.k : Int) := by omega
            generalize hkk : (σ.k : Int) = kk at b1 hk9 hk0;have H1 := hI (H0.out.next ((Gr.refl g _).set 1 _) (H0.out.r.p.step hnx (by rw [hkk])));clear hkk;go_wp2_with fail;refine (HC1.out _ H1.out.r.p).mono ?_;rintro e w2 hZ;obtain ⟨Z1, rfl, hg2, hp2, hl2⟩ := fr3 hZ;have H2 := hI ((H1.out.call hg2 hp2 hl2).box Z1.c);clear hg2 hp2 hl2;go_wp2_with fail;refine (HT.out _ H2.out.r.p).mono ?_;rintro e w3 ⟨rfl, hg3, hp3⟩;have H3 := hI (H2.out.next hg3 hp3);clear hg3 hp3;go_upto_region 18 with (fail)
            generalize w2.heap.size = qq at H3 ⊢;have keep : Hid (∀ X σ ts, St noS L gt C g W X σ [(qq, Z1.c)] ts → X.cell? ⟨qq, 0, none⟩ = some (ι Z1.o) ∧ X.cell? ⟨qq, 1, none⟩ = some (.string Z1.t) ∧ X.cell? ⟨qq, 2, none⟩ = some (ι Z1.k) ∧ X.cell? ⟨qq, 3, none⟩ = some (ι Z1.j) ∧ X.cell? ⟨qq, 4, none⟩ = some (.string Z1.s) ∧ X.cell? ⟨qq, 5, none⟩ = some (.slice Z1.A Z1.a Z1.u) ∧ X.cell? ⟨qq, 6, none⟩ = some (.slice Z1.B Z1.b Z1.v) ∧ X.cell? ⟨qq, 7, none⟩ = some (.slice Z1.C Z1.e Z1.w) ∧ X.cell? ⟨qq, 8, none⟩ = some (.slice Z1.D Z1.d Z1.x)) := hI fun X σ ts hX => by
             obtain ⟨a00, a01, a02, a03, a04, a05, a06, a07, a08⟩ := box9 (hX.bx (q := qq) (c := Z1.c) (by simp));exact ⟨a00, a01, a02, a03, a04, a05, a06, a07, a08⟩
            have keepR : Hid (∀ X σ ts, St noS L gt C g W X σ [(qq, Z1.c)] ts → ∀ u0 u1 u2 u3 u4 u5 u6 u7 u8 : Value, (((((((((X.setCell ⟨W.heap.size, 0, none⟩ u0).setCell ⟨W.heap.size, 1, none⟩ u1).setCell ⟨W.heap.size, 2, none⟩ u2).setCell ⟨W.heap.size, 3, none⟩ u3).setCell ⟨W.heap.size, 4, none⟩ u4).setCell ⟨W.heap.size, 5, none⟩ u5).setCell ⟨W.heap.size, 6, none⟩ u6).setCell ⟨W.heap.size, 7, none⟩ u7).setCell ⟨W.heap.size, 8, none⟩ u8).cell? ⟨qq, 0, none⟩ = some (ι Z1.o) ∧ (((((((((X.setCell ⟨W.heap.size, 0, none⟩ u0).setCell ⟨W.heap.size, 1, none⟩ u1).setCell ⟨W.heap.size, 2, none⟩ u2).setCell ⟨W.heap.size, 3, none⟩ u3).setCell ⟨W.heap.size, 4, none⟩ u4).setCell ⟨W.heap.size, 5, none⟩ u5).setCell ⟨W.heap.size, 6, none⟩ u6).setCell ⟨W.heap.size, 7, none⟩ u7).setCell ⟨W.heap.size, 8, none⟩ u8).cell? ⟨qq, 1, none⟩ = some (.string Z1.t) ∧ (((((((((X.setCell ⟨W.heap.size, 0, none⟩ u0).setCell ⟨W.heap.size, 1, none⟩ u1).setCell ⟨W.heap.size, 2, none⟩ u2).setCell ⟨W.heap.size, 3, none⟩ u3).setCell ⟨W.heap.size, 4, none⟩ u4).setCell ⟨W.heap.size, 5, none⟩ u5).setCell ⟨W.heap.size, 6, none⟩ u6).setCell ⟨W.heap.size, 7, none⟩ u7).setCell ⟨W.heap.size, 8, none⟩ u8).cell? ⟨qq, 2, none⟩ = some (ι Z1.k) ∧ (((((((((X.setCell ⟨W.heap.size, 0, none⟩ u0).setCell ⟨W.heap.size, 1, none⟩ u1).setCell ⟨W.heap.size, 2, none⟩ u2).setCell ⟨W.heap.size, 3, none⟩ u3).setCell ⟨W.heap.size, 4, none⟩ u4).setCell ⟨W.heap.size, 5, none⟩ u5).setCell ⟨W.heap.size, 6, none⟩ u6).setCell ⟨W.heap.size, 7, none⟩ u7).setCell ⟨W.heap.size, 8, none⟩ u8).cell? ⟨qq, 3, none⟩ = some (ι Z1.j) ∧ (((((((((X.setCell ⟨W.heap.size, 0, none⟩ u0).setCell ⟨W.heap.size, 1, none⟩ u1).setCell ⟨W.heap.size, 2, none⟩ u2).setCell ⟨W.heap.size, 3, none⟩ u3).setCell ⟨W.heap.size, 4, none⟩ u4).setCell ⟨W.heap.size, 5, none⟩ u5).setCell ⟨W.heap.size, 6, none⟩ u6).setCell ⟨W.heap.size, 7, none⟩ u7).setCell ⟨W.heap.size, 8, none⟩ u8).cell? ⟨qq, 4, none⟩ = some (.string Z1.s) ∧ (((((((((X.setCell ⟨W.heap.size, 0, none⟩ u0).setCell ⟨W.heap.size, 1, none⟩ u1).setCell ⟨W.heap.size, 2, none⟩ u2).setCell ⟨W.heap.size, 3, none⟩ u3).setCell ⟨W.heap.size, 4, none⟩ u4).setCell ⟨W.heap.size, 5, none⟩ u5).setCell ⟨W.heap.size, 6, none⟩ u6).setCell ⟨W.heap.size, 7, none⟩ u7).setCell ⟨W.heap.size, 8, none⟩ u8).cell? ⟨qq, 5, none⟩ = some (.slice Z1.A Z1.a Z1.u) ∧ (((((((((X.setCell ⟨W.heap.size, 0, none⟩ u0).setCell ⟨W.heap.size, 1, none⟩ u1).setCell ⟨W.heap.size, 2, none⟩ u2).setCell ⟨W.heap.size, 3, none⟩ u3).setCell ⟨W.heap.size, 4, none⟩ u4).setCell ⟨W.heap.size, 5, none⟩ u5).setCell ⟨W.heap.size, 6, none⟩ u6).setCell ⟨W.heap.size, 7, none⟩ u7).setCell ⟨W.heap.size, 8, none⟩ u8).cell? ⟨qq, 6, none⟩ = some (.slice Z1.B Z1.b Z1.v) ∧ (((((((((X.setCell ⟨W.heap.size, 0, none⟩ u0).setCell ⟨W.heap.size, 1, none⟩ u1).setCell ⟨W.heap.size, 2, none⟩ u2).setCell ⟨W.heap.size, 3, none⟩ u3).setCell ⟨W.heap.size, 4, none⟩ u4).setCell ⟨W.heap.size, 5, none⟩ u5).setCell ⟨W.heap.size, 6, none⟩ u6).setCell ⟨W.heap.size, 7, none⟩ u7).setCell ⟨W.heap.size, 8, none⟩ u8).cell? ⟨qq, 7, none⟩ = some (.slice Z1.C Z1.e Z1.w) ∧ (((((((((X.setCell ⟨W.heap.size, 0, none⟩ u0).setCell ⟨W.heap.size, 1, none⟩ u1).setCell ⟨W.heap.size, 2, none⟩ u2).setCell ⟨W.heap.size, 3, none⟩ u3).setCell ⟨W.heap.size, 4, none⟩ u4).setCell ⟨W.heap.size, 5, none⟩ u5).setCell ⟨W.heap.size, 6, none⟩ u6).setCell ⟨W.heap.size, 7, none⟩ u7).setCell ⟨W.heap.size, 8, none⟩ u8).cell? ⟨qq, 8, none⟩ = some (.slice Z1.D Z1.d Z1.x)) := hI fun X σ ts hX u0 u1 u2 u3 u4 u5 u6 u7 u8 => by
             obtain ⟨a00, a01, a02, a03, a04, a05, a06, a07, a08⟩ := box9 ((hX.bx (q := qq) (c := Z1.c) (by simp)).far9 (r := W.heap.size) (by have := (hX.b (qq, Z1.c) (by simp)).1; dsimp only at this; omega) u0 u1 u2 u3 u4 u5 u6 u7 u8);exact ⟨a00, a01, a02, a03, a04, a05, a06, a07, a08⟩
            obtain ⟨y0, y1, y2, y3, y4, y5, y6, y7, y8⟩ := keep.out _ _ _ H3.out
            go_region_held3 (fun X => X.cell? ⟨qq, 0, none⟩ = some (ι Z1.o) ∧ X.cell? ⟨qq, 1, none⟩ = some (.string Z1.t) ∧ X.cell? ⟨qq, 2, none⟩ = some (ι Z1.k) ∧ X.cell? ⟨qq, 3, none⟩ = some (ι Z1.j) ∧ X.cell? ⟨qq, 4, none⟩ = some (.string Z1.s) ∧ X.cell? ⟨qq, 5, none⟩ = some (.slice Z1.A Z1.a Z1.u) ∧ X.cell? ⟨qq, 6, none⟩ = some (.slice Z1.B Z1.b Z1.v) ∧ X.cell? ⟨qq, 7, none⟩ = some (.slice Z1.C Z1.e Z1.w) ∧ X.cell? ⟨qq, 8, none⟩ = some (.slice Z1.D Z1.d Z1.x))
             (first
              | with_reducible exact keep.out _ _ _ H3.out.drew
              | with_reducible exact keep.out _ _ _ H4.out
              | with_reducible exact keep.out _ _ _ H5.out
              | with_reducible exact keep.out _ _ _ H6.out
              | with_reducible exact keepR.out _ _ _ H6.out _ _ _ _ _ _ _ _ _)
             (first
              | (go_at_call 160; (refine (HC2.out _ H3.out.drew.r.p).mono ?_); rintro e w4 hZ; obtain ⟨Z2, rfl, hg4, hp4, hl4⟩ := fr3 hZ; have H4 := hI (H3.out.drew.call hg4 hp4 hl4); clear hg4 hp4 hl4; have H5 := hI (H4.out.node 19 ⟨#[]⟩ (by decide) (fs := [f, u]) (row := (Z1.cc Z2)) rfl (by simp) (LiesFL.append (LiesFL.one (H4.out.t (f, Z1.l) (by simp))) (LiesFL.one (H4.out.t (u, Z2.l) (by simp)))) rfl))
              | (go_at_call 30; (refine (HNO.out _ _).mono ?_); rintro e w6 ⟨rfl, hb6⟩; have H6 := hI (H5.out.low hb6); clear hb6; have x0 := H6.out.r.cells))
            go_wp2_with fail;refine post9 Tryz.results182 rfl rfl (H6.out.r.r.put9z _ _ _ _ _ _ _ _ _) ?_;exact retF_of (H6.out.close (by first | exact mC | simp))
           | false =>
            rw [if_neg (by decide)] at hm2;injection hm2 with hm
            injection hm with h3 h4
            subst h3; subst h4;have HNO := hI (fun A W => node_any 19 ⟨#[]⟩ A 1 1 W);clear hA
            go_enter Tryz.func182, Tryz.ntmps182
            go_upto_region 1 with (fail)
            generalize W.alloc (.cells #[ι 0, eS, ι 0, ι 0, eS, nL, nL, nL, nL] 29) = wz at H0 ⊢;obtain ⟨⟨b0, b1, b2, b3⟩, f0, f1, f2, f3⟩ := box4' H0.out.r.p.box;have hlg := H0.out.r.p.glt;have hk9 : (σ.k : Int) ≤ 4096 := by omega
            have hk0 : 0 ≤ (σ.k : Int) := by omega
            generalize hkk : (σ.k : Int) = kk at b1 hk9 hk0;have H1 := hI (H0.out.next ((Gr.refl g _).set 1 _) (H0.out.r.p.step hnx (by rw [hkk])));clear hkk;go_wp2_with fail;refine (HC1.out _ H1.out.r.p).mono ?_;rintro e w2 hZ;obtain ⟨Z1, rfl, hg2, hp2, hl2⟩ := fr3 hZ;have H2 := hI ((H1.out.call hg2 hp2 hl2).box Z1.c);clear hg2 hp2 hl2;go_wp2_with fail;refine (HT.out _ H2.out.r.p).mono ?_;rintro e w3 ⟨rfl, hg3, hp3⟩;have H3 := hI (H2.out.next hg3 hp3);clear hg3 hp3;obtain ⟨y0, y1, y2, y3, y4, y5, y6, y7, y8⟩ := box9 (H3.out.bx (q := w2.heap.size) (c := Z1.c) (by simp));go_wp2_with fail;have H4 := hI (H3.out.node 19 ⟨#[]⟩ (by decide) (fs := [f]) (row := Z1.c) rfl (by simp) (LiesFL.one (H3.out.t (f, Z1.l) (by simp))) rfl);refine (HNO.out _ _).mono ?_;rintro e w5 ⟨rfl, hb5⟩;have H5 := hI (H4.out.low hb5);clear hb5;have x0 := H5.out.r.cells;go_wp2_with fail;refine post9 Tryz.results182 rfl rfl (H5.out.r.r.put9z _ _ _ _ _ _ _ _ _) ?_;exact retF_of (H5.out.close (by first | exact mC | simp))
         · rw [if_neg hw] at hm;have q4 := streqc s [116, 114, 121];rw [decide_eq_false hw] at q4;clear hw
           by_cases hw : s = (⟨#[98, 114, 101, 97, 107]⟩ : ByteArray)
           · rw [if_pos hw] at hm;have q3 := streqc s [98, 114, 101, 97, 107];rw [decide_eq_true hw] at q3;clear hw;injection hm with hm
             injection hm with h3 h4
             subst h3; subst h4;have HK3 := hI (fun W (h : PAt L gt C g W (adv σ)) => kind_any hL 3 (by decide) h);have hz := kindT_size hL 3 (adv σ);generalize kindS L 3 (adv σ) = σa at *
             generalize kindT L 3 (adv σ) = tt at *
             have hf2 := field_text tt;have HNO := hI (fun n W => node_any 23 tt.s none n n W);clear hA hbd
             go_enter Tryz.func182, Tryz.ntmps182
             go_upto_region 1 with (fail)
             generalize W.alloc (.cells #[ι 0, eS, ι 0, ι 0, eS, nL, nL, nL, nL] 29) = wz at H0 ⊢;obtain ⟨⟨b0, b1, b2, b3⟩, f0, f1, f2, f3⟩ := box4' H0.out.r.p.box;have hlg := H0.out.r.p.glt;have hk9 : (σ.k : Int) ≤ 4096 := by omega
             have hk0 : 0 ≤ (σ.k : Int) := by omega
             generalize hkk : (σ.k : Int) = kk at b1 hk9 hk0;have H1 := hI (H0.out.next ((Gr.refl g _).set 1 _) (H0.out.r.p.step hnx (by rw [hkk])));clear hkk;go_wp2_with fail;refine (HK3.out _ H1.out.r.p).mono ?_;rintro e w2 ⟨rfl, hg2, hp2⟩;have H2 := hI (H1.out.next hg2 hp2);clear hg2 hp2;go_wp2_with fail;refine (HNO.out _ _).mono ?_;rintro e w3 ⟨rfl, hb3⟩;have H3 := hI ((H2.out.low hb3).leaf 23 tt.s 0 0 ⟨#[]⟩ (by omega) (by decide));clear hb3;have x0 := H3.out.r.cells;go_wp2_with fail;refine post9 Tryz.results182 rfl rfl (H3.out.r.r.put9z _ _ _ _ _ _ _ _ _) ?_;exact retF_of (H3.out.close (by first | exact mC | simp))
           · rw [if_neg hw] at hm;have q3 := streqc s [98, 114, 101, 97, 107];rw [decide_eq_false hw] at q3;clear hw
             by_cases hw : s = (⟨#[114, 101, 100, 117, 99, 101]⟩ : ByteArray)
             · rw [if_pos hw] at hm;have q2 := streqc s [114, 101, 100, 117, 99, 101];rw [decide_eq_true hw] at q2;have hsr := hw;clear hw;have HC := hI (fun W h => loop_any hL hA false W _ τ t h hm);have qf : (s.toList == [102, 111, 114, 101, 97, 99, 104]) = false := by rw [streqc, decide_eq_false]; intro e; rw [e] at hsr; exact absurd (congrArg ByteArray.size hsr) (by decide)
               clear hsr;clear hA hm hbd
               go_enter Tryz.func182, Tryz.ntmps182
               go_upto_region 1 with (fail)
               generalize W.alloc (.cells #[ι 0, eS, ι 0, ι 0, eS, nL, nL, nL, nL] 29) = wz at H0 ⊢;obtain ⟨⟨b0, b1, b2, b3⟩, f0, f1, f2, f3⟩ := box4' H0.out.r.p.box;have hlg := H0.out.r.p.glt;have hk9 : (σ.k : Int) ≤ 4096 := by omega
               have hk0 : 0 ≤ (σ.k : Int) := by omega
               generalize hkk : (σ.k : Int) = kk at b1 hk9 hk0;have H1 := hI (H0.out.next ((Gr.refl g _).set 1 _) (H0.out.r.p.step hnx (by rw [hkk])));clear hkk;go_wp2_with fail;refine (HC.out _ H1.out.r.p).mono ?_;rintro e w2 hZ;obtain ⟨Z1, rfl, hg2, hp2, hl2⟩ := fr3 hZ;have H2 := hI (H1.out.call hg2 hp2 hl2);clear hg2 hp2 hl2;have x0 := H2.out.r.cells;go_wp2_with fail;refine post9 Tryz.results182 rfl rfl (H2.out.r.r.put9z _ _ _ _ _ _ _ _ _) ?_;exact retF_of (H2.out.close (by first | exact mC | simp))
             · rw [if_neg hw] at hm;have q2 := streqc s [114, 101, 100, 117, 99, 101];rw [decide_eq_false hw] at q2;clear hw
               by_cases hw : s = (⟨#[102, 111, 114, 101, 97, 99, 104]⟩ : ByteArray)
               · rw [if_pos hw] at hm;have q1 := streqc s [102, 111, 114, 101, 97, 99, 104];rw [decide_eq_true hw] at q1;clear hw;have HC := hI (fun W h => loop_any hL hA true W _ τ t h hm);clear hA hm hbd
                 go_enter Tryz.func182, Tryz.ntmps182
                 go_upto_region 1 with (fail)
                 generalize W.alloc (.cells #[ι 0, eS, ι 0, ι 0, eS, nL, nL, nL, nL] 29) = wz at H0 ⊢;obtain ⟨⟨b0, b1, b2, b3⟩, f0, f1, f2, f3⟩ := box4' H0.out.r.p.box;have hlg := H0.out.r.p.glt;have hk9 : (σ.k : Int) ≤ 4096 := by omega
                 have hk0 : 0 ≤ (σ.k : Int) := by omega
                 generalize hkk : (σ.k : Int) = kk at b1 hk9 hk0;have H1 := hI (H0.out.next ((Gr.refl g _).set 1 _) (H0.out.r.p.step hnx (by rw [hkk])));clear hkk;go_wp2_with fail;refine (HC.out _ H1.out.r.p).mono ?_;rintro e w2 hZ;obtain ⟨Z1, rfl, hg2, hp2, hl2⟩ := fr3 hZ;have H2 := hI (H1.out.call hg2 hp2 hl2);clear hg2 hp2 hl2;have x0 := H2.out.r.cells;go_wp2_with fail;refine post9 Tryz.results182 rfl rfl (H2.out.r.r.put9z _ _ _ _ _ _ _ _ _) ?_;exact retF_of (H2.out.close (by first | exact mC | simp))
               · rw [if_neg hw] at hm;have q1 := streqc s [102, 111, 114, 101, 97, 99, 104];rw [decide_eq_false hw] at q1;clear hw;injection hm with hm
                 injection hm with h3 h4
                 subst h3; subst h4;have HW := hI (fun W (h : PAt L gt C g W σ) => wrong_any h);clear hA hbd
                 go_enter Tryz.func182, Tryz.ntmps182
                 go_upto_region 1 with (fail)
                 generalize W.alloc (.cells #[ι 0, eS, ι 0, ι 0, eS, nL, nL, nL, nL] 29) = wz at H0 ⊢;go_wp2_with fail;refine (HW.out _ H0.out.r.p).mono ?_;rintro e w1 ⟨rfl, hg1, hp1⟩;have H1 := hI (H0.out.next hg1 hp1);clear hg1 hp1;have H2 := hI (H1.out.leaf 0 ⟨#[]⟩ 0 0 ⟨#[]⟩ (by decide) (by decide));have x0 := H2.out.r.cells;go_wp2_with fail;refine post9 Tryz.results182 rfl rfl (H2.out.r.r.put9z _ _ _ _ _ _ _ _ _) ?_;exact retF_of (H2.out.close (by first | exact mC | simp))
end Go.Proofs.YtoleoimmpggldaaGreatDoor.Rx
namespace Go.Proofs.YtoleoimmpggldaaGreatDoor.Rx
open Go.RowKit
theorem est_set {L : List Fk} {gt C g B : Nat} {w : World} {σ : PS} {l : List Ft} {v : Value} (h : ESt L gt C g B w σ l v) {q : Nat} (hq : q < B) {i : Nat} {u : Value} (hp : PAt L gt C g (w.setCell ⟨q, i, none⟩ u) σ) : ESt L gt C g B (w.setCell ⟨q, i, none⟩ u) σ l v := by
 obtain ⟨xs, h1, h2⟩ := h.row;have hge := ownBlock_ge h1;refine ⟨hp, h.gB, h.gtB, by have := h.bw; simpa [World.setCell] using this, xs, h1.kept (grown_set w q i u) ?_, LiesFL.move h2 fun b hb => ⟨⟨hb.1, by have := hb.2.1; simpa [World.setCell] using this, hb.2.2⟩, Below.heap_setCell _ _ _ _ (by have := hb.1; show b ≠ q; omega)⟩⟩
 cases hv : v.ownBlock with
 | none => exact .inl rfl
 | some b => exact .inr (by intro e; injection e with e; have := (hge b hv).1; omega)
theorem est_tree {L : List Fk} {gt C g B : Nat} {w w0 : World} {σ : PS} {l : List Ft} {A : Option Addr} {c : Nat} {bs : List (Nat × Array Value)} (h : ESt L gt C g B w σ l (.slice A l.length c)) (hb : w0.heap.size < B) (hlo : ∀ q ∈ bs, q.1 < B) (hn : l.length ≤ 1000000) : LiesF w (Own noS w0 w bs) (nodeF 10 l) [ι 10, eS, ι 0, ι 0, eS, nL, nL, nL, .slice A l.length c] := by
 obtain ⟨xs, h1, h2⟩ := h.row;obtain ⟨A', c', he, a1, a2, a3, a4, a5, a6⟩ := own_open h1;simp only [Value.slice.injEq, true_and] at he;obtain ⟨rfl, rfl⟩ := he;have hO : ∀ b, B ≤ b → b < w.heap.size → Own noS w0 w bs b := fun b h1 h2 => .inr ⟨by omega, h2, fun q hq => by have := hlo q hq; omega⟩
 exact liesF_node 10 ⟨#[]⟩ (by decide) rfl a3 a1 a2 (by omega) (a6.move fun b hb => ⟨hO b hb.1 hb.2, rfl⟩) (LiesFL.move h2 fun b hb => ⟨hO b hb.1 hb.2.1, rfl⟩)
theorem entry_len {L : List Fk} {call : Ru → PM} {l l' : List Ft} {σ τ : PS} (h : entryM L call l σ = some (l', τ)) : l'.length ≤ l.length + 2 := by
 unfold entryM at h;have hap : ∀ (a b : Ft), (l ++ [a, b]).length = l.length + 2 := fun a b => by rw [List.length_append]; rfl
 split at h
 · injection h with h; injection h with h1 h2; subst h1; omega
 · split at h
   · split at h
     · obtain ⟨u, σ1, h1, h2⟩ := bnd_some h;injection h2 with h2; injection h2 with h3 h4; subst h3; rw [hap]; omega
     · injection h with h; injection h with h1 h2; subst h1; rw [hap]; omega
   · split at h
     · injection h with h; injection h with h1 h2; subst h1; rw [hap]; omega
     · obtain ⟨u, σ1, h1, h2⟩ := bnd_some h;obtain ⟨u2, σ2, h3, h4⟩ := bnd_some h2;injection h4 with h4; injection h4 with h5 h6; subst h5; rw [hap]; omega
theorem St.low2 {L : List Fk} {gt C g B : Nat} {w w' w0 : World} {σ τ : PS} {bs : List (Nat × Array Value)} (h : St noS L gt C g w0 w σ bs []) (hb : w0.heap.size < B) (hlo : ∀ q ∈ bs, q.1 < B) (k : GrB B g w w') (hp : PAt L gt C g w' τ) : St noS L gt C g w0 w' τ bs [] := by
 have hg := h.r.g0;have hgt := h.r.gt0;refine ⟨⟨hp, ⟨k.os.trans h.r.gr.os, k.tape.trans h.r.gr.tape, k.output.trans h.r.gr.output, Nat.le_trans h.r.gr.size k.size, fun b hb' hne => ?_⟩, (k.block _ hb (by omega)).trans h.r.r, hg, hgt⟩, h.hS, fun q hq => ⟨(h.b q hq).1, (h.b q hq).2.imp fun T hT => (k.block _ (hlo q hq) (by have := (h.b q hq).1; omega)).trans hT⟩, fun x hx => by simp at hx⟩;exact (k.block b (by omega) (fun e => hne (by rw [e]))).trans (World.grownBy.block h.r.gr b hb' hne)
theorem signed_any {L : List Fk} (hL : TokL L) {gt C g : Nat} {call : Ru → PM} (n : Nat) (hn : n ≤ 400000) (hA : OkA L gt C g call) (s : ByteArray) (W : World) (σ τ : PS) (t : Ft) (hbd : σ.bad = false) (hnz : (tk L σ.k).k ≠ 0) (hP : PAt L gt C g W σ) (hm : signedM L call n s σ = some (t, τ)) :
 Calls Tryz.prog 181 #[.pointer (some ⟨g, 0, none⟩), .string s] W (RetF L gt C g W t τ) := by
 have H0 : Hid (St noS L gt C g W (W.alloc (.cells #[ι 0, eS, ι 0, ι 0, eS, nL, nL, nL, nL] 29)) σ [] []) := hI (St.begin hP);have hg0 := hP.glt;have hnx := hL.e.next hP.lt hnz
 have hkm := hP.capm;have hkl := hP.lt;unfold signedM at hm;clear hP hnz hkl
 by_cases hw : s = (⟨#[46]⟩ : ByteArray)
 · rw [if_pos hw] at hm;have q5 := streqc s [46];rw [decide_eq_true hw] at q5;clear hw;have HK := hI (fun W (h : PAt L gt C g W (adv σ)) => peek_any h)
   by_cases h6 : (tk L (adv σ).k).k = 6
   · rw [if_pos h6] at hm;injection hm with hm
     injection hm with h3 h4
     subst h3; subst h4;have HK6 := hI (fun W (h : PAt L gt C g W (adv σ)) => kind_any hL 6 (by decide) h);have hz := kindT_size hL 6 (adv σ);have q6 : (((tk L (adv σ).k).k : Int) == 6) = true := by rw [beq_iff_eq]; omega
     generalize tk L (adv σ).k = t6 at *
     have hf0 := field_kind t6;generalize kindS L 6 (adv σ) = σa at *
     generalize kindT L 6 (adv σ) = tt at *
     have hf2 := field_text tt;have HNO := hI (fun A W => node_any 3 tt.s A 1 1 W);clear hA hbd h6 hn
     go_enter Tryz.func181, Tryz.ntmps181
     go_upto_region 1 with (fail)
     generalize W.alloc (.cells #[ι 0, eS, ι 0, ι 0, eS, nL, nL, nL, nL] 29) = wz at H0 ⊢;obtain ⟨⟨b0, b1, b2, b3⟩, f0, f1, f2, f3⟩ := box4' H0.out.r.p.box;have hlg := H0.out.r.p.glt;have hk9 : (σ.k : Int) ≤ 4096 := by omega
     have hk0 : 0 ≤ (σ.k : Int) := by omega
     generalize hkk : (σ.k : Int) = kk at b1 hk9 hk0;have H1 := hI (H0.out.next ((Gr.refl g _).set 1 _) (H0.out.r.p.step hnx (by rw [hkk])));clear hkk;go_wp2_with fail;refine (HK.out _ H1.out.r.p).mono ?_;rintro e w2 ⟨rfl, hb2⟩;have H2 := hI (H1.out.low hb2);clear hb2;go_wp2_with fail;refine (HK6.out _ H2.out.r.p).mono ?_;rintro e w3 ⟨rfl, hg3, hp3⟩;have H3 := hI (H2.out.next hg3 hp3);clear hg3 hp3;go_wp2_with fail;refine (ident_any _).mono ?_;rintro e w4 ⟨rfl, hb4⟩;have H4 := hI ((H3.out.low hb4).leaf 1 ⟨#[]⟩ 0 0 ⟨#[]⟩ (by decide) (by decide));clear hb4;go_wp2_with fail;have H5 := hI (H4.out.node 3 tt.s (by omega) (fs := [identF]) (row := #[ι 1, eS, ι 0, ι 0, eS, nL, nL, nL, nL]) rfl (by simp) (LiesFL.one (H4.out.t (identF, [ι 1, eS, ι 0, ι 0, eS, nL, nL, nL, nL]) (by first | exact mC | simp [identF, nodeF, vz]))) rfl);refine (HNO.out _ _).mono ?_;rintro e w6 ⟨rfl, hb6⟩;have H6 := hI (H5.out.low hb6);clear hb6;have x0 := H6.out.r.cells;go_wp2_with fail;refine post9 Tryz.results181 rfl rfl (H6.out.r.r.put9z _ _ _ _ _ _ _ _ _) ?_;exact retF_of (H6.out.close (by first | exact mC | simp))
   · rw [if_neg h6] at hm;injection hm with hm
     injection hm with h3 h4
     subst h3; subst h4;have q6 : (((tk L (adv σ).k).k : Int) == 6) = false := bF.2 (by omega);generalize tk L (adv σ).k = t6 at *
     have hf0 := field_kind t6;clear hA hbd h6 hn
     go_enter Tryz.func181, Tryz.ntmps181
     go_upto_region 1 with (fail)
     generalize W.alloc (.cells #[ι 0, eS, ι 0, ι 0, eS, nL, nL, nL, nL] 29) = wz at H0 ⊢;obtain ⟨⟨b0, b1, b2, b3⟩, f0, f1, f2, f3⟩ := box4' H0.out.r.p.box;have hlg := H0.out.r.p.glt;have hk9 : (σ.k : Int) ≤ 4096 := by omega
     have hk0 : 0 ≤ (σ.k : Int) := by omega
     generalize hkk : (σ.k : Int) = kk at b1 hk9 hk0;have H1 := hI (H0.out.next ((Gr.refl g _).set 1 _) (H0.out.r.p.step hnx (by rw [hkk])));clear hkk;go_wp2_with fail;refine (HK.out _ H1.out.r.p).mono ?_;rintro e w2 ⟨rfl, hb2⟩;have H2 := hI (H1.out.low hb2);clear hb2;go_wp2_with fail;refine (ident_any _).mono ?_;rintro e w3 ⟨rfl, hb3⟩;have H3 := hI ((H2.out.low hb3).leaf 1 ⟨#[]⟩ 0 0 ⟨#[]⟩ (by decide) (by decide));clear hb3;have x0 := H3.out.r.cells;go_wp2_with fail;refine post9 Tryz.results181 rfl rfl (H3.out.r.r.put9z _ _ _ _ _ _ _ _ _) ?_;exact retF_of (H3.out.close (by first | exact mC | simp))
 · rw [if_neg hw] at hm;have q5 := streqc s [46];rw [decide_eq_false hw] at q5;clear hw
   by_cases hw : s = (⟨#[46, 46]⟩ : ByteArray)
   · rw [if_pos hw] at hm;have q4 := streqc s [46, 46];rw [decide_eq_true hw] at q4;clear hw;injection hm with hm
     injection hm with h3 h4
     subst h3; subst h4;have HNO := hI (fun n W => node_any 2 ⟨#[]⟩ none n n W);clear hA hbd hn
     go_enter Tryz.func181, Tryz.ntmps181
     go_upto_region 1 with (fail)
     generalize W.alloc (.cells #[ι 0, eS, ι 0, ι 0, eS, nL, nL, nL, nL] 29) = wz at H0 ⊢;obtain ⟨⟨b0, b1, b2, b3⟩, f0, f1, f2, f3⟩ := box4' H0.out.r.p.box;have hlg := H0.out.r.p.glt;have hk9 : (σ.k : Int) ≤ 4096 := by omega
     have hk0 : 0 ≤ (σ.k : Int) := by omega
     generalize hkk : (σ.k : Int) = kk at b1 hk9 hk0;have H1 := hI (H0.out.next ((Gr.refl g _).set 1 _) (H0.out.r.p.step hnx (by rw [hkk])));clear hkk;go_wp2_with fail;refine (HNO.out _ _).mono ?_;rintro e w2 ⟨rfl, hb2⟩;have H2 := hI ((H1.out.low hb2).leaf 2 ⟨#[]⟩ 0 0 ⟨#[]⟩ (by decide) (by decide));clear hb2;have x0 := H2.out.r.cells;go_wp2_with fail;refine post9 Tryz.results181 rfl rfl (H2.out.r.r.put9z _ _ _ _ _ _ _ _ _) ?_;exact retF_of (H2.out.close (by first | exact mC | simp))
   · rw [if_neg hw] at hm;have q4 := streqc s [46, 46];rw [decide_eq_false hw] at q4;clear hw
     by_cases hw : s = (⟨#[40]⟩ : ByteArray)
     · rw [if_pos hw] at hm;have q3 := streqc s [40];rw [decide_eq_true hw] at q3;clear hw;obtain ⟨f, σ1, h1, h2⟩ := bnd_some hm;injection h2 with h2
       injection h2 with h3 h4
       subst h3; subst h4;have HC := hI (fun W h => hA .filter W _ f σ1 h h1);have HN := hI (fun W (h : PAt L gt C g W σ1) => need_any hL (⟨#[41]⟩ : ByteArray) h);clear hA hm h1 hbd hn
       go_enter Tryz.func181, Tryz.ntmps181
       go_upto_region 1 with (fail)
       generalize W.alloc (.cells #[ι 0, eS, ι 0, ι 0, eS, nL, nL, nL, nL] 29) = wz at H0 ⊢;obtain ⟨⟨b0, b1, b2, b3⟩, f0, f1, f2, f3⟩ := box4' H0.out.r.p.box;have hlg := H0.out.r.p.glt;have hk9 : (σ.k : Int) ≤ 4096 := by omega
       have hk0 : 0 ≤ (σ.k : Int) := by omega
       generalize hkk : (σ.k : Int) = kk at b1 hk9 hk0;have H1 := hI (H0.out.next ((Gr.refl g _).set 1 _) (H0.out.r.p.step hnx (by rw [hkk])));clear hkk;go_wp2_with fail;refine (HC.out _ H1.out.r.p).mono ?_;rintro e w2 hZ;obtain ⟨Z1, rfl, hg2, hp2, hl2⟩ := fr3 hZ;have H2 := hI ((H1.out.call hg2 hp2 hl2).box Z1.c);clear hg2 hp2 hl2;go_wp2_with fail;refine (HN.out _ H2.out.r.p).mono ?_;rintro e w3 ⟨rfl, hg3, hp3⟩;have H3 := hI (H2.out.next hg3 hp3);clear hg3 hp3;obtain ⟨y0, y1, y2, y3, y4, y5, y6, y7, y8⟩ := box9 (H3.out.bx (q := w2.heap.size) (c := Z1.c) (by simp));have x0 := H3.out.r.cells;go_wp2_with fail;refine post9 Tryz.results181 rfl rfl (H3.out.r.r.put9z _ _ _ _ _ _ _ _ _) ?_;exact retF_of (H3.out.close (by first | exact mC | simp))
     · rw [if_neg hw] at hm;have q3 := streqc s [40];rw [decide_eq_false hw] at q3;clear hw
       by_cases hw : s = (⟨#[91]⟩ : ByteArray)
       · rw [if_pos hw] at hm;have q2 := streqc s [91];rw [decide_eq_true hw] at q2;clear hw;obtain ⟨b, hb⟩ : ∃ b, sees L (⟨#[93]⟩ : ByteArray) (adv σ) = b := ⟨_, rfl⟩
         rw [hb] at hm;have HT := hI (fun W (h : PAt L gt C g W (adv σ)) => take_any hL (⟨#[93]⟩ : ByteArray) b hb h);clear hb
         cases b with
         | true =>
          rw [if_pos rfl] at hm;injection hm with hm
          injection hm with h3 h4
          subst h3; subst h4;have HNO := hI (fun n W => node_any 9 ⟨#[]⟩ none n n W);clear hA hbd hn
          go_enter Tryz.func181, Tryz.ntmps181
          go_upto_region 1 with (fail)
          generalize W.alloc (.cells #[ι 0, eS, ι 0, ι 0, eS, nL, nL, nL, nL] 29) = wz at H0 ⊢;obtain ⟨⟨b0, b1, b2, b3⟩, f0, f1, f2, f3⟩ := box4' H0.out.r.p.box;have hlg := H0.out.r.p.glt;have hk9 : (σ.k : Int) ≤ 4096 := by omega
          have hk0 : 0 ≤ (σ.k : Int) := by omega
          generalize hkk : (σ.k : Int) = kk at b1 hk9 hk0;have H1 := hI (H0.out.next ((Gr.refl g _).set 1 _) (H0.out.r.p.step hnx (by rw [hkk])));clear hkk;go_wp2_with fail;refine (HT.out _ H1.out.r.p).mono ?_;rintro e w2 ⟨rfl, hg2, hp2⟩;have H2 := hI (H1.out.next hg2 hp2);clear hg2 hp2;go_wp2_with fail;refine (HNO.out _ _).mono ?_;rintro e w3 ⟨rfl, hb3⟩;have H3 := hI ((H2.out.low hb3).leaf 9 ⟨#[]⟩ 0 0 ⟨#[]⟩ (by decide) (by decide));clear hb3;have x0 := H3.out.r.cells;go_wp2_with fail;refine post9 Tryz.results181 rfl rfl (H3.out.r.r.put9z _ _ _ _ _ _ _ _ _) ?_;exact retF_of (H3.out.close (by first | exact mC | simp))
         | false =>
          rw [if_neg (by decide)] at hm;obtain ⟨f, σ1, h1, h2⟩ := bnd_some hm;obtain ⟨f, σ1, h5, h6⟩ := bnd_some h1;injection h6 with h6
          injection h6 with h7 h8
          subst h7; subst h8;injection h2 with h2
          injection h2 with h3 h4
          subst h3; subst h4;have HC := hI (fun W h => hA .filter W _ f σ1 h h5);have HN := hI (fun W (h : PAt L gt C g W σ1) => need_any hL (⟨#[93]⟩ : ByteArray) h);have HNO := hI (fun A W => node_any 9 ⟨#[]⟩ A 1 1 W);clear hA hm h1 h5 hbd hn
          go_enter Tryz.func181, Tryz.ntmps181
          go_upto_region 1 with (fail)
          generalize W.alloc (.cells #[ι 0, eS, ι 0, ι 0, eS, nL, nL, nL, nL] 29) = wz at H0 ⊢;obtain ⟨⟨b0, b1, b2, b3⟩, f0, f1, f2, f3⟩ := box4' H0.out.r.p.box;have hlg := H0.out.r.p.glt;have hk9 : (σ.k : Int) ≤ 4096 := by omega
          have hk0 : 0 ≤ (σ.k : Int) := by omega
          generalize hkk : (σ.k : Int) = kk at b1 hk9 hk0;have H1 := hI (H0.out.next ((Gr.refl g _).set 1 _) (H0.out.r.p.step hnx (by rw [hkk])));clear hkk;go_wp2_with fail;refine (HT.out _ H1.out.r.p).mono ?_;rintro e w2 ⟨rfl, hg2, hp2⟩;have H2 := hI (H1.out.next hg2 hp2);clear hg2 hp2;go_wp2_with fail;refine (HC.out _ H2.out.r.p).mono ?_;rintro e w3 hZ;obtain ⟨Z1, rfl, hg3, hp3, hl3⟩ := fr3 hZ;have H3 := hI ((H2.out.call hg3 hp3 hl3).box Z1.c);clear hg3 hp3 hl3;go_wp2_with fail;refine (HN.out _ H3.out.r.p).mono ?_;rintro e w4 ⟨rfl, hg4, hp4⟩;have H4 := hI (H3.out.next hg4 hp4);clear hg4 hp4;obtain ⟨y0, y1, y2, y3, y4, y5, y6, y7, y8⟩ := box9 (H4.out.bx (q := w3.heap.size) (c := Z1.c) (by simp));go_wp2_with fail;have H5 := hI (H4.out.node 9 ⟨#[]⟩ (by decide) (fs := [f]) (row := Z1.c) rfl (by simp) (LiesFL.one (H4.out.t (f, Z1.l) (by simp))) rfl);refine (HNO.out _ _).mono ?_;rintro e w6 ⟨rfl, hb6⟩;have H6 := hI (H5.out.low hb6);clear hb6;have x0 := H6.out.r.cells;go_wp2_with fail;refine post9 Tryz.results181 rfl rfl (H6.out.r.r.put9z _ _ _ _ _ _ _ _ _) ?_;exact retF_of (H6.out.close (by first | exact mC | simp))
       · rw [if_neg hw] at hm;have q2 := streqc s [91];rw [decide_eq_false hw] at q2;clear hw
         by_cases hw : s = (⟨#[123]⟩ : ByteArray)
         · rw [if_pos hw] at hm;have q1 := streqc s [123];rw [decide_eq_true hw] at q1;clear hw;obtain ⟨b, hb⟩ : ∃ b, sees L (⟨#[125]⟩ : ByteArray) (adv σ) = b := ⟨_, rfl⟩
           rw [hb] at hm;have HT := hI (fun W (h : PAt L gt C g W (adv σ)) => take_any hL (⟨#[125]⟩ : ByteArray) b hb h);have HNO := hI (fun n W => node_any 10 ⟨#[]⟩ none n n W);clear hb
           cases b with
           | true =>
            rw [if_pos rfl] at hm;injection hm with hm
            injection hm with h3 h4
            subst h3; subst h4;clear hA hbd hn
            go_enter Tryz.func181, Tryz.ntmps181
            go_upto_region 1 with (fail)
            generalize W.alloc (.cells #[ι 0, eS, ι 0, ι 0, eS, nL, nL, nL, nL] 29) = wz at H0 ⊢;obtain ⟨⟨b0, b1, b2, b3⟩, f0, f1, f2, f3⟩ := box4' H0.out.r.p.box;have hlg := H0.out.r.p.glt;have hk9 : (σ.k : Int) ≤ 4096 := by omega
            have hk0 : 0 ≤ (σ.k : Int) := by omega
            generalize hkk : (σ.k : Int) = kk at b1 hk9 hk0;have H1 := hI (H0.out.next ((Gr.refl g _).set 1 _) (H0.out.r.p.step hnx (by rw [hkk])));clear hkk;go_wp2_with fail;refine (HNO.out _ _).mono ?_;rintro e w2 ⟨rfl, hb2⟩;have H2 := hI ((H1.out.low hb2).box #[ι 10, eS, ι 0, ι 0, eS, nL, nL, nL, nL]);clear hb2;go_wp2_with fail;refine (HT.out _ H2.out.r.p).mono ?_;rintro e w3 ⟨rfl, hg3, hp3⟩;have H3 := hI (H2.out.next hg3 hp3);have HGS := hI hg3.size;clear hg3 hp3;have H4 := hI (H3.out.leaf 10 ⟨#[]⟩ 0 0 ⟨#[]⟩ (by decide) (by decide));obtain ⟨y0, y1, y2, y3, y4, y5, y6, y7, y8⟩ := box9 (H4.out.bx (q := w2.heap.size) (c := #[ι 10, eS, ι 0, ι 0, eS, nL, nL, nL, nL]) (by simp));have x0 := H4.out.r.cells;go_wp2_with fail;refine post9 Tryz.results181 rfl rfl (H4.out.r.r.put9z _ _ _ _ _ _ _ _ _) ?_;exact retF_of (H4.out.close (by first | exact mC | simp))
           | false =>
            rw [if_neg (by decide)] at hm;obtain ⟨l1, σ1, h1, h2⟩ := bnd_some hm;have HE1 := hI (fun W v B hE => entry_any hL hA [] l1 (by simp) v B W _ σ1 hE h1);have hln1 := entry_len h1;have HEN := hI (fun l l' hl W v B σ τ hE hm => entry_any hL hA l l' hl v B W σ τ hE hm);have HTC := hI (fun W σ b hb (h : PAt L gt C g W σ) => take_any hL (⟨#[44]⟩ : ByteArray) b hb h);have HN := hI (fun σ W (h : PAt L gt C g W σ) => need_any hL (⟨#[125]⟩ : ByteArray) h);have HM2 := hI h2;obtain ⟨n, rfl⟩ : ∃ n', n = n' + 1 := by
             cases n with
             | zero => exact absurd h2 (by simp [objL])
             | succ n => exact ⟨n, rfl⟩
            clear hA hm h1 h2 hbd
            go_enter Tryz.func181, Tryz.ntmps181
            go_upto_region 1 with (fail)
            generalize W.alloc (.cells #[ι 0, eS, ι 0, ι 0, eS, nL, nL, nL, nL] 29) = wz at H0 ⊢;obtain ⟨⟨b0, b1, b2, b3⟩, f0, f1, f2, f3⟩ := box4' H0.out.r.p.box;have hlg := H0.out.r.p.glt;have hk9 : (σ.k : Int) ≤ 4096 := by omega
            have hk0 : 0 ≤ (σ.k : Int) := by omega
            generalize hkk : (σ.k : Int) = kk at b1 hk9 hk0;have H1 := hI (H0.out.next ((Gr.refl g _).set 1 _) (H0.out.r.p.step hnx (by rw [hkk])));clear hkk;go_wp2_with fail;refine (HNO.out _ _).mono ?_;rintro e w2 ⟨rfl, hb2⟩;have H2 := hI ((H1.out.low hb2).box #[ι 10, eS, ι 0, ι 0, eS, nL, nL, nL, nL]);clear hb2;go_wp2_with fail;refine (HT.out _ H2.out.r.p).mono ?_;rintro e w3 ⟨rfl, hg3, hp3⟩;have H3 := hI (H2.out.next hg3 hp3);have HGS := hI hg3.size;clear hg3 hp3;obtain ⟨B, hB⟩ : ∃ B, B = (w2.alloc (.cells #[ι 10, eS, ι 0, ι 0, eS, nL, nL, nL, nL] 29)).heap.size := ⟨_, rfl⟩
            have hB3 : B ≤ w3.heap.size := by rw [hB]; exact HGS.out
            have hBW : W.heap.size < B := by rw [hB]; exact H2.out.lt
            have hBq : w2.heap.size < B := by rw [hB]; simp
            have HES : Hid (ESt L gt C g B w3 (adv σ) [] nL) := hI ⟨H3.out.r.p, Nat.lt_trans hg0 hBW, Nat.lt_trans H3.out.r.gt0 hBW, hB3, [], ⟨rfl, .inl ⟨rfl, rfl⟩⟩, LiesFL.nil _ _⟩;clear hB;obtain ⟨y0, y1, y2, y3, y4, y5, y6, y7, y8⟩ := box9 (H3.out.bx (q := w2.heap.size) (c := #[ι 10, eS, ι 0, ι 0, eS, nL, nL, nL, nL]) (by simp));generalize w2.heap.size = q at H3 hBq y0 y1 y2 y3 y4 y5 y6 y7 y8 ⊢;go_wp2_with fail;refine (HE1.out _ _ _ HES.out).mono ?_;rintro e w4 ⟨v4, rfl, hgb4, hE4⟩;have hv4 : ∃ A c, v4 = .slice A l1.length c := by
             obtain ⟨xs, h1, -⟩ := hE4.row;obtain ⟨A, c, h2, -⟩ := own_open h1;exact ⟨A, c, h2⟩
            obtain ⟨A4, c4, rfl⟩ := hv4;have H4 := hI (H3.out.low2 hBW (by intro x hx; simp at hx; subst hx; exact hBq) hgb4 hE4.p);have H5 := hI (H4.out.set (by intro x hx; simp at hx) 8 (.slice A4 l1.length c4) rfl);have HE5 := hI (show ESt L gt C g B (w4.setCell ⟨q, 8, none⟩ (.slice A4 l1.length c4)) σ1 l1 (.slice A4 l1.length c4) from est_set hE4 hBq H5.out.r.p);have v8 := (H4.out.bx (q := q) (c := #[ι 10, eS, ι 0, ι 0, eS, nL, nL, nL, nL]) (by simp)).cell (i := 8) rfl;have vf8 := (H4.out.bx (q := q) (c := #[ι 10, eS, ι 0, ι 0, eS, nL, nL, nL, nL]) (by simp)).free 8;have hlq := (H4.out.bx (q := q) (c := #[ι 10, eS, ι 0, ι 0, eS, nL, nL, nL, nL]) (by simp)).lt;have HX : Hid (∃ (n' : Nat) (l : List Ft) (σk : PS) (A : Option Addr) (c : Nat), n' ≤ n ∧ l.length + 2 * n' ≤ 2 * n + 2 ∧ objL L call (n' + 1) l σk = some (t, τ) ∧ St noS L gt C g W (w4.setCell ⟨q, 8, none⟩ (.slice A4 l1.length c4)) σk [(q, #[ι 10, eS, ι 0, ι 0, eS, nL, nL, nL, .slice A l.length c])] [] ∧ ESt L gt C g B (w4.setCell ⟨q, 8, none⟩ (.slice A4 l1.length c4)) σk l (.slice A l.length c)) := hI ⟨n, l1, σ1, A4, c4, Nat.le_refl _, by simp at hln1; omega, HM2.out, H5.out, HE5.out⟩;clear hgb4 hE4 y0 y1 y2 y3 y4 y5 y6 y7 y8 H5 HE5 HES H3 H4 HE1 HM2;go_wp2_with fail
            go_loopg [90] n (fun gg s90 wr => Hid (∃ (n' : Nat) (l : List Ft) (σk : PS) (A : Option Addr) (c : Nat), n' ≤ gg ∧ l.length + 2 * n' ≤ 2 * n + 2 ∧ objL L call (n' + 1) l σk = some (t, τ) ∧ St noS L gt C g W wr σk [(q, #[ι 10, eS, ι 0, ι 0, eS, nL, nL, nL, .slice A l.length c])] [] ∧ ESt L gt C g B wr σk l (.slice A l.length c)))
            case atStart => exact HX
            case round =>
             clear HX v8 vf8 hlq;obtain ⟨n', l, σk, A, c, hgk, hln, hc, hS, hE⟩ := hrel.out;have H0' := hI hS;have HE0 := hI hE;rw [objL] at hc;dsimp only at hc;obtain ⟨b, hb⟩ : ∃ b, sees L (⟨#[44]⟩ : ByteArray) σk = b := ⟨_, rfl⟩
             have HB := hI hb;rw [hb] at hc;clear hb hrel hS hE
             cases b with
             | false =>
              rw [if_neg (by decide)] at hc;injection hc with hc
              injection hc with h3 h4
              subst h3; subst h4;go_wp2_with fail;refine (HTC.out _ _ _ HB.out H0'.out.r.p).mono ?_;rintro e w5 ⟨rfl, hg5, hp5⟩;have H5 := hI (H0'.out.next hg5 hp5);have HE5 := hI (HE0.out.next hg5 hp5);clear hg5 hp5;go_wp2_with fail
              (try simp only [Exit.inBlock, Exit.then])
              go_wp2_with fail;refine (HN.out _ _ H5.out.r.p).mono ?_;rintro e w6 ⟨rfl, hg6, hp6⟩;have H6 := hI (H5.out.next hg6 hp6);have HE6 := hI (HE5.out.next hg6 hp6);have H7 := hI (H6.out.put (x := (nodeF 10 l, [ι 10, eS, ι 0, ι 0, eS, nL, nL, nL, .slice A l.length c])) (est_tree (bs := [(q, #[ι 10, eS, ι 0, ι 0, eS, nL, nL, nL, .slice A l.length c])]) HE6.out hBW (by intro x hx; simp at hx; subst hx; exact hBq) (by omega)));clear hg6 hp6;obtain ⟨y0, y1, y2, y3, y4, y5, y6, y7, y8⟩ := box9 (H7.out.bx (q := q) (c := #[ι 10, eS, ι 0, ι 0, eS, nL, nL, nL, .slice A l.length c]) (by simp));have x0 := H7.out.r.cells;go_wp2_with fail;refine post9 Tryz.results181 rfl rfl (H7.out.r.r.put9z _ _ _ _ _ _ _ _ _) ?_;exact retF_of (H7.out.close (by first | exact mC | simp))
             | true =>
              rw [if_pos rfl] at hc;obtain ⟨l2, σ2, h3, h4⟩ := bnd_some hc;obtain ⟨n2, rfl⟩ : ∃ n2, n' = n2 + 1 := by
               cases n' with
               | zero => exact absurd h4 (by simp [objL])
               | succ n => exact ⟨n, rfl⟩
              have hln2 := entry_len h3;have HR := hI (fun W v B hE => HEN.out l l2 (by omega) W v B _ σ2 hE h3);have H4x := hI h4;clear hc h3 h4;go_wp2_with fail;refine (HTC.out _ _ _ HB.out H0'.out.r.p).mono ?_;rintro e w5 ⟨rfl, hg5, hp5⟩;have H5 : Hid (St noS L gt C g W w5 (adv σk) [(q, #[ι 10, eS, ι 0, ι 0, eS, nL, nL, nL, .slice A l.length c])] []) := hI (H0'.out.next hg5 hp5);have HE5 : Hid (ESt L gt C g B w5 (adv σk) l (.slice A l.length c)) := hI (HE0.out.next hg5 hp5);clear hg5 hp5;obtain ⟨y0, y1, y2, y3, y4, y5, y6, y7, y8⟩ := box9 (H5.out.bx (q := q) (c := #[ι 10, eS, ι 0, ι 0, eS, nL, nL, nL, .slice A l.length c]) (by simp));go_wp2_with fail;refine (HR.out _ _ _ HE5.out).mono ?_;rintro e w6 ⟨v6, rfl, hgb6, hE6⟩;have hv6 : ∃ A c, v6 = .slice A l2.length c := by
               obtain ⟨xs, h1, -⟩ := hE6.row;obtain ⟨A, c, h2, -⟩ := own_open h1;exact ⟨A, c, h2⟩
              obtain ⟨A6, c6, rfl⟩ := hv6;have H6 := hI (H5.out.low2 hBW (by intro x hx; simp at hx; subst hx; exact hBq) hgb6 hE6.p);have H7 := hI (H6.out.set (by intro x hx; simp at hx) 8 (.slice A6 l2.length c6) rfl);have HE7 := hI (show ESt L gt C g B (w6.setCell ⟨q, 8, none⟩ (.slice A6 l2.length c6)) σ2 l2 (.slice A6 l2.length c6) from est_set hE6 hBq H7.out.r.p);have v8 := (H6.out.bx (q := q) (c := #[ι 10, eS, ι 0, ι 0, eS, nL, nL, nL, .slice A l.length c]) (by simp)).cell (i := 8) rfl;have vf8 := (H6.out.bx (q := q) (c := #[ι 10, eS, ι 0, ι 0, eS, nL, nL, nL, .slice A l.length c]) (by simp)).free 8;have hlq := (H6.out.bx (q := q) (c := #[ι 10, eS, ι 0, ι 0, eS, nL, nL, nL, .slice A l.length c]) (by simp)).lt;clear hgb6 hE6 y0 y1 y2 y3 y4 y5 y6 y7 y8;go_wp2_with fail
              go_roundg n2
              case measure => omega
              case rel => exact hI ⟨n2, l2, σ2, A6, c6, Nat.le_refl _, by omega, H4x.out, H7.out, HE7.out⟩
         · rw [if_neg hw] at hm;have q1 := streqc s [123];rw [decide_eq_false hw] at q1;clear hw;injection hm with hm
           injection hm with h3 h4
           subst h3; subst h4;have HW := hI (fun W (h : PAt L gt C g W σ) => wrong_any h);clear hA hbd hn
           go_enter Tryz.func181, Tryz.ntmps181
           go_upto_region 1 with (fail)
           generalize W.alloc (.cells #[ι 0, eS, ι 0, ι 0, eS, nL, nL, nL, nL] 29) = wz at H0 ⊢;go_wp2_with fail;refine (HW.out _ H0.out.r.p).mono ?_;rintro e w1 ⟨rfl, hg1, hp1⟩;have H1 := hI (H0.out.next hg1 hp1);clear hg1 hp1;have H2 := hI (H1.out.leaf 0 ⟨#[]⟩ 0 0 ⟨#[]⟩ (by decide) (by decide));have x0 := H2.out.r.cells;go_wp2_with fail;refine post9 Tryz.results181 rfl rfl (H2.out.r.r.put9z _ _ _ _ _ _ _ _ _) ?_;exact retF_of (H2.out.close (by first | exact mC | simp))
