import Derived.Test.YtoleoimmpggldaaGreatDoorRYd
import Derived.Test.YtoleoimmpggldaaGreatDoorRYf
set_option linter.unusedVariables false
set_option linter.unusedSimpArgs false
set_option linter.unusedSectionVars false
set_option maxHeartbeats 10000000
set_option maxRecDepth 100000
namespace Go.Proofs.YtoleoimmpggldaaGreatDoor.Rx
open Go.RowKit
theorem operand_any {L : List Fk} (hL : TokL L) {gt C g : Nat} {call : Ru → PM} (n : Nat) (hn : n ≤ 400000) (hO : ∀ k, (tk L k).o ≤ 8192) (hA : OkA L gt C g call) : OkF L gt C g 150 (operM L call n) := by
 intro W σ t τ hP hm;have H0 := hI (St.begin hP);have hg0 := hP.glt;unfold operM at hm;obtain ⟨b, hb⟩ : ∃ b, sees L (⟨#[108, 97, 98, 101, 108]⟩ : ByteArray) σ = b := ⟨_, rfl⟩
 rw [hb] at hm;have HT1 := hI (fun W (h : PAt L gt C g W σ) => take_any hL (⟨#[108, 97, 98, 101, 108]⟩ : ByteArray) b hb h);clear hP hb
 cases b with
 | true =>
  rw [if_pos rfl] at hm;have HNO := hI (fun S A W => node_any 22 S A 1 1 W);obtain ⟨u, σ2, h1, h2⟩ := bnd_some hm;injection h2 with h2
  injection h2 with h3 h4
  subst h3; subst h4;have HK3 := hI (fun W (h : PAt L gt C g W (adv σ)) => kind_any hL 3 (by decide) h);have hz := kindT_size hL 3 (adv σ);have HN := hI (fun σ W (h : PAt L gt C g W σ) => need_any hL (⟨#[124]⟩ : ByteArray) h);have HC := hI (fun W h => hA .filter W _ u σ2 h h1);generalize kindS L 3 (adv σ) = σa at *
  generalize kindT L 3 (adv σ) = t0 at *
  obtain ⟨K1, O1, S1, I1⟩ := t0;dsimp only at HC HK3 hz ⊢;clear hA hm h1
  go_enter Tryz.func150, Tryz.ntmps150
  go_wp2_with fail;refine (HT1.out _ H0.out.r.p).mono ?_;rintro e w1 ⟨rfl, hg1, hp1⟩;have H1 := hI (H0.out.next hg1 hp1);clear hg1 hp1;go_wp2_with fail;refine (HK3.out _ H1.out.r.p).mono ?_;rintro e w2 ⟨rfl, hg2, hp2⟩;have H2 := hI ((H1.out.next hg2 hp2).boxT 41 #[ι K1, ι O1, .string S1, ι I1]);clear hg2 hp2;go_wp2_with fail;refine (HN.out _ _ H2.out.r.p).mono ?_;rintro e w3 ⟨rfl, hg3, hp3⟩;have H3 := hI (H2.out.next hg3 hp3);clear hg3 hp3;go_upto_region 4 with (fail)
  generalize w2.heap.size = kq at H3 ⊢;have keep : Hid (∀ X σ ts, St noS L gt C g W X σ [(kq, #[ι K1, ι O1, .string S1, ι I1])] ts → X.cell? ⟨kq, 2, none⟩ = some (.string S1)) := hI fun X σ ts hX => by
   have a0 := (hX.bx (q := kq) (c := #[ι K1, ι O1, .string S1, ι I1]) (by simp)).cell (i := 2) rfl;exact a0
  have keepR : Hid (∀ X σ ts, St noS L gt C g W X σ [(kq, #[ι K1, ι O1, .string S1, ι I1])] ts → ∀ u0 u1 u2 u3 u4 u5 u6 u7 u8 : Value, (((((((((X.setCell ⟨W.heap.size, 0, none⟩ u0).setCell ⟨W.heap.size, 1, none⟩ u1).setCell ⟨W.heap.size, 2, none⟩ u2).setCell ⟨W.heap.size, 3, none⟩ u3).setCell ⟨W.heap.size, 4, none⟩ u4).setCell ⟨W.heap.size, 5, none⟩ u5).setCell ⟨W.heap.size, 6, none⟩ u6).setCell ⟨W.heap.size, 7, none⟩ u7).setCell ⟨W.heap.size, 8, none⟩ u8).cell? ⟨kq, 2, none⟩ = some (.string S1)) := hI fun X σ ts hX u0 u1 u2 u3 u4 u5 u6 u7 u8 => by
   have a0 := ((hX.bx (q := kq) (c := #[ι K1, ι O1, .string S1, ι I1]) (by simp)).far9 (r := W.heap.size) (by have := (hX.b (kq, #[ι K1, ι O1, .string S1, ι I1]) (by simp)).1; dsimp only at this; omega) u0 u1 u2 u3 u4 u5 u6 u7 u8).cell (i := 2) rfl;exact a0
  have y0 := keep.out _ _ _ H3.out
  go_region_held3 (fun X => X.cell? ⟨kq, 2, none⟩ = some (.string S1))
   (first
    | with_reducible exact keep.out _ _ _ H3.out.drew
    | with_reducible exact keep.out _ _ _ H4.out
    | with_reducible exact keep.out _ _ _ H5.out
    | with_reducible exact keep.out _ _ _ H6.out
    | with_reducible exact keepR.out _ _ _ H6.out _ _ _ _ _ _ _ _ _)
   (first
    | (go_at_call 15; (refine (HC.out _ H3.out.drew.r.p).mono ?_); rintro e w4 hZ; obtain ⟨Z1, rfl, hg4, hp4, hl4⟩ := fr3 hZ; have H4 := hI (H3.out.drew.call hg4 hp4 hl4); clear hg4 hp4 hl4; have H5 := hI (H4.out.node 22 S1 (by omega) (fs := [u]) (row := Z1.c) rfl (by simp) (LiesFL.one (H4.out.t (u, Z1.l) (by simp))) rfl))
    | (go_at_call 30; (refine (HNO.out S1 _ _).mono ?_); rintro e w6 ⟨rfl, hb6⟩; have H6 := hI (H5.out.low hb6); clear hb6; have x0 := H6.out.r.cells))
  go_wp2_with fail;refine post9 Tryz.results150 rfl rfl (H6.out.r.r.put9z _ _ _ _ _ _ _ _ _) ?_;exact retF_of (H6.out.close (by first | exact mC | simp))
 | false =>
  rw [if_neg (by decide)] at hm;obtain ⟨b, hb⟩ : ∃ b, sees L (⟨#[100, 101, 102]⟩ : ByteArray) σ = b := ⟨_, rfl⟩
  rw [hb] at hm;have HT2 := hI (fun W (h : PAt L gt C g W σ) => take_any hL (⟨#[100, 101, 102]⟩ : ByteArray) b hb h);clear hb
  cases b with
  | true =>
   rw [if_pos rfl] at hm;have HC := hI (fun W h => def_any hL n hn hO hA W _ τ t h hm);clear hA hm hO hn
   go_enter Tryz.func150, Tryz.ntmps150
   go_wp2_with fail;refine (HT1.out _ H0.out.r.p).mono ?_;rintro e w1 ⟨rfl, hg1, hp1⟩;have H1 := hI (H0.out.next hg1 hp1);clear hg1 hp1;go_wp2_with fail;refine (HT2.out _ H1.out.r.p).mono ?_;rintro e w2 ⟨rfl, hg2, hp2⟩;have H2 := hI (H1.out.next hg2 hp2);clear hg2 hp2;go_wp2_with fail;refine (HC.out _ H2.out.r.p).mono ?_;rintro e w3 hZ;obtain ⟨Z1, rfl, hg3, hp3, hl3⟩ := fr3 hZ;have H3 := hI (H2.out.call hg3 hp3 hl3);clear hg3 hp3 hl3;have x0 := H3.out.r.cells;go_wp2_with fail;refine post9 Tryz.results150 rfl rfl (H3.out.r.r.put9z _ _ _ _ _ _ _ _ _) ?_;exact retF_of (H3.out.close (by first | exact mC | simp))
  | false =>
   rw [if_neg (by decide)] at hm;obtain ⟨f, σ1, h1, hm⟩ := bnd_some hm;have HC1 := hI (fun W h => hA .post W _ f σ1 h h1);obtain ⟨b, hb⟩ : ∃ b, sees L (⟨#[97, 115]⟩ : ByteArray) σ1 = b := ⟨_, rfl⟩
   rw [hb] at hm;have HT3 := hI (fun W (h : PAt L gt C g W σ1) => take_any hL (⟨#[97, 115]⟩ : ByteArray) b hb h);clear hb h1 hO hn
   cases b with
   | false =>
    rw [if_neg (by decide)] at hm;injection hm with hm
    injection hm with h3 h4
    subst h3; subst h4;clear hA
    go_enter Tryz.func150, Tryz.ntmps150
    go_wp2_with fail;refine (HT1.out _ H0.out.r.p).mono ?_;rintro e w1 ⟨rfl, hg1, hp1⟩;have H1 := hI (H0.out.next hg1 hp1);clear hg1 hp1;go_wp2_with fail;refine (HT2.out _ H1.out.r.p).mono ?_;rintro e w2 ⟨rfl, hg2, hp2⟩;have H2 := hI (H1.out.next hg2 hp2);clear hg2 hp2;go_wp2_with fail;refine (HC1.out _ H2.out.r.p).mono ?_;rintro e w3 hZ;obtain ⟨Z1, rfl, hg3, hp3, hl3⟩ := fr3 hZ;have H3 := hI ((H2.out.call hg3 hp3 hl3).box Z1.c);clear hg3 hp3 hl3;go_wp2_with fail;refine (HT3.out _ H3.out.r.p).mono ?_;rintro e w4 ⟨rfl, hg4, hp4⟩;have H4 := hI (H3.out.next hg4 hp4);clear hg4 hp4;obtain ⟨y0, y1, y2, y3, y4, y5, y6, y7, y8⟩ := box9 (H4.out.bx (q := w3.heap.size) (c := Z1.c) (by simp));have x0 := H4.out.r.cells;go_wp2_with fail;refine post9 Tryz.results150 rfl rfl (H4.out.r.r.put9z _ _ _ _ _ _ _ _ _) ?_;exact retF_of (H4.out.close (by first | exact mC | simp))
   | true =>
    rw [if_pos rfl] at hm;have HNO := hI (fun S A W => node_any 24 S A 2 2 W);obtain ⟨u, σ2, h1, h2⟩ := bnd_some hm;injection h2 with h2
    injection h2 with h3 h4
    subst h3; subst h4;have HK3 := hI (fun W (h : PAt L gt C g W (adv σ1)) => kind_any hL 3 (by decide) h);have hz := kindT_size hL 3 (adv σ1);have HN := hI (fun σ W (h : PAt L gt C g W σ) => need_any hL (⟨#[124]⟩ : ByteArray) h);have HC := hI (fun W h => hA .filter W _ u σ2 h h1);generalize kindS L 3 (adv σ1) = σa at *
    generalize kindT L 3 (adv σ1) = t0 at *
    obtain ⟨K1, O1, S1, I1⟩ := t0;dsimp only at HC HK3 hz ⊢;clear hA hm h1
    go_enter Tryz.func150, Tryz.ntmps150
    go_wp2_with fail;refine (HT1.out _ H0.out.r.p).mono ?_;rintro e w1 ⟨rfl, hg1, hp1⟩;have H1 := hI (H0.out.next hg1 hp1);clear hg1 hp1;go_wp2_with fail;refine (HT2.out _ H1.out.r.p).mono ?_;rintro e w2 ⟨rfl, hg2, hp2⟩;have H2 := hI (H1.out.next hg2 hp2);clear hg2 hp2;go_wp2_with fail;refine (HC1.out _ H2.out.r.p).mono ?_;rintro e w3 hZ;obtain ⟨Z1, rfl, hg3, hp3, hl3⟩ := fr3 hZ;have H3 := hI ((H2.out.call hg3 hp3 hl3).box Z1.c);clear hg3 hp3 hl3;go_wp2_with fail;refine (HT3.out _ H3.out.r.p).mono ?_;rintro e w4 ⟨rfl, hg4, hp4⟩;have H4 := hI (H3.out.next hg4 hp4);clear hg4 hp4;go_wp2_with fail;refine (HK3.out _ H4.out.r.p).mono ?_;rintro e w5 ⟨rfl, hg5, hp5⟩;have H5 := hI ((H4.out.next hg5 hp5).boxT 41 #[ι K1, ι O1, .string S1, ι I1]);clear hg5 hp5;go_wp2_with fail;refine (HN.out _ _ H5.out.r.p).mono ?_;rintro e w6 ⟨rfl, hg6, hp6⟩;have H6 := hI (H5.out.next hg6 hp6);clear hg6 hp6;go_upto_region 11 with (fail)
    generalize w5.heap.size = kq at H6 ⊢;generalize w3.heap.size = qq at H6 ⊢;have keep : Hid (∀ X σ ts, St noS L gt C g W X σ [(kq, #[ι K1, ι O1, .string S1, ι I1]), (qq, Z1.c)] ts → X.cell? ⟨kq, 2, none⟩ = some (.string S1) ∧ X.cell? ⟨qq, 0, none⟩ = some (ι Z1.o) ∧ X.cell? ⟨qq, 1, none⟩ = some (.string Z1.t) ∧ X.cell? ⟨qq, 2, none⟩ = some (ι Z1.k) ∧ X.cell? ⟨qq, 3, none⟩ = some (ι Z1.j) ∧ X.cell? ⟨qq, 4, none⟩ = some (.string Z1.s) ∧ X.cell? ⟨qq, 5, none⟩ = some (.slice Z1.A Z1.a Z1.u) ∧ X.cell? ⟨qq, 6, none⟩ = some (.slice Z1.B Z1.b Z1.v) ∧ X.cell? ⟨qq, 7, none⟩ = some (.slice Z1.C Z1.e Z1.w) ∧ X.cell? ⟨qq, 8, none⟩ = some (.slice Z1.D Z1.d Z1.x)) := hI fun X σ ts hX => by
     have a0 := (hX.bx (q := kq) (c := #[ι K1, ι O1, .string S1, ι I1]) (by simp)).cell (i := 2) rfl;obtain ⟨a10, a11, a12, a13, a14, a15, a16, a17, a18⟩ := box9 (hX.bx (q := qq) (c := Z1.c) (by simp));exact ⟨a0, a10, a11, a12, a13, a14, a15, a16, a17, a18⟩
    have keepR : Hid (∀ X σ ts, St noS L gt C g W X σ [(kq, #[ι K1, ι O1, .string S1, ι I1]), (qq, Z1.c)] ts → ∀ u0 u1 u2 u3 u4 u5 u6 u7 u8 : Value, (((((((((X.setCell ⟨W.heap.size, 0, none⟩ u0).setCell ⟨W.heap.size, 1, none⟩ u1).setCell ⟨W.heap.size, 2, none⟩ u2).setCell ⟨W.heap.size, 3, none⟩ u3).setCell ⟨W.heap.size, 4, none⟩ u4).setCell ⟨W.heap.size, 5, none⟩ u5).setCell ⟨W.heap.size, 6, none⟩ u6).setCell ⟨W.heap.size, 7, none⟩ u7).setCell ⟨W.heap.size, 8, none⟩ u8).cell? ⟨kq, 2, none⟩ = some (.string S1) ∧ (((((((((X.setCell ⟨W.heap.size, 0, none⟩ u0).setCell ⟨W.heap.size, 1, none⟩ u1).setCell ⟨W.heap.size, 2, none⟩ u2).setCell ⟨W.heap.size, 3, none⟩ u3).setCell ⟨W.heap.size, 4, none⟩ u4).setCell ⟨W.heap.size, 5, none⟩ u5).setCell ⟨W.heap.size, 6, none⟩ u6).setCell ⟨W.heap.size, 7, none⟩ u7).setCell ⟨W.heap.size, 8, none⟩ u8).cell? ⟨qq, 0, none⟩ = some (ι Z1.o) ∧ (((((((((X.setCell ⟨W.heap.size, 0, none⟩ u0).setCell ⟨W.heap.size, 1, none⟩ u1).setCell ⟨W.heap.size, 2, none⟩ u2).setCell ⟨W.heap.size, 3, none⟩ u3).setCell ⟨W.heap.size, 4, none⟩ u4).setCell ⟨W.heap.size, 5, none⟩ u5).setCell ⟨W.heap.size, 6, none⟩ u6).setCell ⟨W.heap.size, 7, none⟩ u7).setCell ⟨W.heap.size, 8, none⟩ u8).cell? ⟨qq, 1, none⟩ = some (.string Z1.t) ∧ (((((((((X.setCell ⟨W.heap.size, 0, none⟩ u0).setCell ⟨W.heap.size, 1, none⟩ u1).setCell ⟨W.heap.size, 2, none⟩ u2).setCell ⟨W.heap.size, 3, none⟩ u3).setCell ⟨W.heap.size, 4, none⟩ u4).setCell ⟨W.heap.size, 5, none⟩ u5).setCell ⟨W.heap.size, 6, none⟩ u6).setCell ⟨W.heap.size, 7, none⟩ u7).setCell ⟨W.heap.size, 8, none⟩ u8).cell? ⟨qq, 2, none⟩ = some (ι Z1.k) ∧ (((((((((X.setCell ⟨W.heap.size, 0, none⟩ u0).setCell ⟨W.heap.size, 1, none⟩ u1).setCell ⟨W.heap.size, 2, none⟩ u2).setCell ⟨W.heap.size, 3, none⟩ u3).setCell ⟨W.heap.size, 4, none⟩ u4).setCell ⟨W.heap.size, 5, none⟩ u5).setCell ⟨W.heap.size, 6, none⟩ u6).setCell ⟨W.heap.size, 7, none⟩ u7).setCell ⟨W.heap.size, 8, none⟩ u8).cell? ⟨qq, 3, none⟩ = some (ι Z1.j) ∧ (((((((((X.setCell ⟨W.heap.size, 0, none⟩ u0).setCell ⟨W.heap.size, 1, none⟩ u1).setCell ⟨W.heap.size, 2, none⟩ u2).setCell ⟨W.heap.size, 3, none⟩ u3).setCell ⟨W.heap.size, 4, none⟩ u4).setCell ⟨W.heap.size, 5, none⟩ u5).setCell ⟨W.heap.size, 6, none⟩ u6).setCell ⟨W.heap.size, 7, none⟩ u7).setCell ⟨W.heap.size, 8, none⟩ u8).cell? ⟨qq, 4, none⟩ = some (.string Z1.s) ∧ (((((((((X.setCell ⟨W.heap.size, 0, none⟩ u0).setCell ⟨W.heap.size, 1, none⟩ u1).setCell ⟨W.heap.size, 2, none⟩ u2).setCell ⟨W.heap.size, 3, none⟩ u3).setCell ⟨W.heap.size, 4, none⟩ u4).setCell ⟨W.heap.size, 5, none⟩ u5).setCell ⟨W.heap.size, 6, none⟩ u6).setCell ⟨W.heap.size, 7, none⟩ u7).setCell ⟨W.heap.size, 8, none⟩ u8).cell? ⟨qq, 5, none⟩ = some (.slice Z1.A Z1.a Z1.u) ∧ (((((((((X.setCell ⟨W.heap.size, 0, none⟩ u0).setCell ⟨W.heap.size, 1, none⟩ u1).setCell ⟨W.heap.size, 2, none⟩ u2).setCell ⟨W.heap.size, 3, none⟩ u3).setCell ⟨W.heap.size, 4, none⟩ u4).setCell ⟨W.heap.size, 5, none⟩ u5).setCell ⟨W.heap.size, 6, none⟩ u6).setCell ⟨W.heap.size, 7, none⟩ u7).setCell ⟨W.heap.size, 8, none⟩ u8).cell? ⟨qq, 6, none⟩ = some (.slice Z1.B Z1.b Z1.v) ∧ (((((((((X.setCell ⟨W.heap.size, 0, none⟩ u0).setCell ⟨W.heap.size, 1, none⟩ u1).setCell ⟨W.heap.size, 2, none⟩ u2).setCell ⟨W.heap.size, 3, none⟩ u3).setCell ⟨W.heap.size, 4, none⟩ u4).setCell ⟨W.heap.size, 5, none⟩ u5).setCell ⟨W.heap.size, 6, none⟩ u6).setCell ⟨W.heap.size, 7, none⟩ u7).setCell ⟨W.heap.size, 8, none⟩ u8).cell? ⟨qq, 7, none⟩ = some (.slice Z1.C Z1.e Z1.w) ∧ (((((((((X.setCell ⟨W.heap.size, 0, none⟩ u0).setCell ⟨W.heap.size, 1, none⟩ u1).setCell ⟨W.heap.size, 2, none⟩ u2).setCell ⟨W.heap.size, 3, none⟩ u3).setCell ⟨W.heap.size, 4, none⟩ u4).setCell ⟨W.heap.size, 5, none⟩ u5).setCell ⟨W.heap.size, 6, none⟩ u6).setCell ⟨W.heap.size, 7, none⟩ u7).setCell ⟨W.heap.size, 8, none⟩ u8).cell? ⟨qq, 8, none⟩ = some (.slice Z1.D Z1.d Z1.x)) := hI fun X σ ts hX u0 u1 u2 u3 u4 u5 u6 u7 u8 => by
     have a0 := ((hX.bx (q := kq) (c := #[ι K1, ι O1, .string S1, ι I1]) (by simp)).far9 (r := W.heap.size) (by have := (hX.b (kq, #[ι K1, ι O1, .string S1, ι I1]) (by simp)).1; dsimp only at this; omega) u0 u1 u2 u3 u4 u5 u6 u7 u8).cell (i := 2) rfl;obtain ⟨a10, a11, a12, a13, a14, a15, a16, a17, a18⟩ := box9 ((hX.bx (q := qq) (c := Z1.c) (by simp)).far9 (r := W.heap.size) (by have := (hX.b (qq, Z1.c) (by simp)).1; dsimp only at this; omega) u0 u1 u2 u3 u4 u5 u6 u7 u8);exact ⟨a0, a10, a11, a12, a13, a14, a15, a16, a17, a18⟩
    obtain ⟨y0, y1, y2, y3, y4, y5, y6, y7, y8, y9⟩ := keep.out _ _ _ H6.out
    go_region_held3 (fun X => X.cell? ⟨kq, 2, none⟩ = some (.string S1) ∧ X.cell? ⟨qq, 0, none⟩ = some (ι Z1.o) ∧ X.cell? ⟨qq, 1, none⟩ = some (.string Z1.t) ∧ X.cell? ⟨qq, 2, none⟩ = some (ι Z1.k) ∧ X.cell? ⟨qq, 3, none⟩ = some (ι Z1.j) ∧ X.cell? ⟨qq, 4, none⟩ = some (.string Z1.s) ∧ X.cell? ⟨qq, 5, none⟩ = some (.slice Z1.A Z1.a Z1.u) ∧ X.cell? ⟨qq, 6, none⟩ = some (.slice Z1.B Z1.b Z1.v) ∧ X.cell? ⟨qq, 7, none⟩ = some (.slice Z1.C Z1.e Z1.w) ∧ X.cell? ⟨qq, 8, none⟩ = some (.slice Z1.D Z1.d Z1.x))
     (first
      | with_reducible exact keep.out _ _ _ H6.out.drew
      | with_reducible exact keep.out _ _ _ H7.out
      | with_reducible exact keep.out _ _ _ H8.out
      | with_reducible exact keep.out _ _ _ H9.out
      | with_reducible exact keepR.out _ _ _ H9.out _ _ _ _ _ _ _ _ _)
     (first
      | (go_at_call 15; (refine (HC.out _ H6.out.drew.r.p).mono ?_); rintro e w7 hZ; obtain ⟨Z2, rfl, hg7, hp7, hl7⟩ := fr3 hZ; have H7 := hI (H6.out.drew.call hg7 hp7 hl7); clear hg7 hp7 hl7; have H8 := hI (H7.out.node 24 S1 (by omega) (fs := [f, u]) (row := (Z1.cc Z2)) rfl (by simp) (LiesFL.append (LiesFL.one (H7.out.t (f, Z1.l) (by simp))) (LiesFL.one (H7.out.t (u, Z2.l) (by simp)))) rfl))
      | (go_at_call 30; (refine (HNO.out S1 _ _).mono ?_); rintro e w9 ⟨rfl, hb9⟩; have H9 := hI (H8.out.low hb9); clear hb9; have x0 := H9.out.r.cells))
    go_wp2_with fail;refine post9 Tryz.results150 rfl rfl (H9.out.r.r.put9z _ _ _ _ _ _ _ _ _) ?_;exact retF_of (H9.out.close (by first | exact mC | simp))
end Go.Proofs.YtoleoimmpggldaaGreatDoor.Rx
namespace Go.Proofs.YtoleoimmpggldaaGreatDoor.Rx
open Go.RowKit
theorem streqc (x : ByteArray) (l : List UInt8) : (x.toList == l) = decide (x = ⟨l.toArray⟩) := by
 rw [Bool.eq_iff_iff, beq_iff_eq, decide_eq_true_eq]
 constructor
 · intro h;rw [ByteArray.toList_eq] at h;apply bytesInj;rw [h]
 · intro h;rw [h, ByteArray.toList_eq]
structure CSt (L : List Fk) (gt C g : Nat) (w0 : World) (B : Nat) (w : World) (σ : PS) (q : Nat) (op : Int) (tx : ByteArray) (l : List Ft) (A : Option Addr) (n c : Nat) : Prop where
 s : RSt L gt C g w0 w σ
 hn : l.length = n
 hB : w0.heap.size < B
 hBw : B ≤ w.heap.size
 hq : w0.heap.size < q
 nq : (Value.slice A n c).ownBlock ≠ some q
 bx : Box w q 29 #[ι op, .string tx, ι 0, ι 0, eS, nL, nL, nL, .slice A n c]
 row : ∃ xs, w.ownsRow B 29 9 (.slice A n c) n xs ∧ LiesFL w (fun b => w0.heap.size < b ∧ b < w.heap.size ∧ ¬ b = q ∧ (Value.slice A n c).ownBlock ≠ some b) l xs
section
variable {L : List Fk} {gt C g : Nat} {w w' w0 : World} {σ τ : PS} {B q : Nat} {op : Int} {tx : ByteArray} {l : List Ft} {A : Option Addr} {n c : Nat}
theorem CSt.next (h : CSt L gt C g w0 B w σ q op tx l A n c) (hg : Gr g w w') (hp : PAt L gt C g w' τ) : CSt L gt C g w0 B w' τ q op tx l A n c := by
 obtain ⟨xs, h1, h2⟩ := h.row;have hge := ownBlock_ge h1;have hg0 := h.s.g0;have hq := h.hq;have hB := h.hB;refine ⟨h.s.next hg hp, h.hn, hB, Nat.le_trans h.hBw hg.size, hq, h.nq, h.bx.grown hg (by intro e; injection e with e; omega), xs, h1.kept hg ?_, LiesFL.move h2 fun b hb => ⟨⟨hb.1, nT hb.2.1 hg.size, hb.2.2⟩, hg.block hb.2.1 (by have := hb.1; omega)⟩⟩
 cases hv : (Value.slice A n c).ownBlock with
 | none => exact .inl rfl
 | some b => exact .inr (by intro e; injection e with e; have := (hge b hv).1; omega)
theorem CSt.low (h : CSt L gt C g w0 B w σ q op tx l A n c) (hb : Below w.heap.size w w') : CSt L gt C g w0 B w' σ q op tx l A n c := h.next (Gr.below hb) (h.s.p.next hb)
theorem CSt.alloc (h : CSt L gt C g w0 B w σ q op tx l A n c) (o : Obj) : CSt L gt C g w0 B (w.alloc o) σ q op tx l A n c := h.low ((Below.refl _ _).alloc (Nat.le_refl _) o)
theorem CSt.drew (h : CSt L gt C g w0 B w σ q op tx l A n c) : CSt L gt C g w0 B w.drew σ q op tx l A n c := h.low (Below.refl _ _).drew
theorem CSt.apart (h : CSt L gt C g w0 B w σ q op tx l A n c) {f : Ft} {cs : List Value} (hl : LiesF w' (Nw w.heap.size w'.heap.size) f cs) (hg : Gr g w w') : LiesF w' (fun b => w0.heap.size < b ∧ b < w'.heap.size ∧ ¬ b = q ∧ (Value.slice A n c).ownBlock ≠ some b) f cs := by
 obtain ⟨xs, h1, h2⟩ := h.row;have hge := ownBlock_ge h1;have hq := h.bx.lt;have hlt := h.s.lt;exact LiesF.move hl fun b hb => ⟨⟨nT hlt hb.1, hb.2, by have := hb.1; omega, fun e => by have := (hge b e).2; have := hb.1; omega⟩, rfl⟩
theorem CSt.append (h : CSt L gt C g w0 B w σ q op tx l A n c) {f : Ft} {row : Array Value} (hf : LiesF w (fun b => w0.heap.size < b ∧ b < w.heap.size ∧ ¬ b = q ∧ (Value.slice A n c).ownBlock ≠ some b) f row.toList) {xs : List Value} (hx : w.ownsRow B 29 9 (.slice A n c) n xs) (hlx : LiesFL w (fun b => w0.heap.size < b ∧ b < w.heap.size ∧ ¬ b = q ∧ (Value.slice A n c).ownBlock ≠ some b) l xs)
 {g2 c2 : Nat} (ho : w'.ownsRow B 29 9 (.slice (some ⟨g2, 0, none⟩) (n + 1) c2) (n + 1) (xs ++ row.toList)) (hg : (w.alloc (.cells row 29)).grownBy w' (Value.slice A n c).ownBlock) (hor : (Value.slice A n c).ownBlock = some g2 ∨ g2 = (w.alloc (.cells row 29)).heap.size) :
 CSt L gt C g w0 B (w'.setCell ⟨q, 8, none⟩ (.slice (some ⟨g2, 0, none⟩) (n + 1) c2)) σ q op tx (l ++ [f]) (some ⟨g2, 0, none⟩) (n + 1) c2 := by
 have hge := ownBlock_ge hx;have hq := h.hq;have hB := h.hB;have hnq := h.nq;have hg0 := h.s.g0;have hgt0 := h.s.gt0;have hlt := h.s.lt;have hqlt := h.bx.lt;have hn1 : ∀ b, b ≤ w0.heap.size → (Value.slice A n c).ownBlock ≠ some b := fun b hb e => by have := (hge _ e).1; omega
 have hsz : w.heap.size + 1 ≤ w'.heap.size := by have := hg.size; simpa using this
 have hblk : ∀ b, b < w.heap.size → (Value.slice A n c).ownBlock ≠ some b → w'.heap[b]? = w.heap[b]? := fun b hb hne => (hg.block b (by simp; omega) (fun e => hne e.symm)).trans (Below.heap_alloc _ _ _ hb)
 have hg2 : ¬ g2 = q := by
  rcases hor with h3 | h3
  · intro e; exact hnq (by rw [h3, e])
  · simp at h3; omega
 have hS : ∀ b, (w0.heap.size < b ∧ b < w.heap.size ∧ ¬ b = q ∧ (Value.slice A n c).ownBlock ≠ some b) → (w0.heap.size < b ∧ b < (w'.setCell ⟨q, 8, none⟩ (.slice (some ⟨g2, 0, none⟩) (n + 1) c2)).heap.size ∧ ¬ b = q ∧ (Value.slice (some ⟨g2, 0, none⟩) (n + 1) c2).ownBlock ≠ some b) ∧ (w'.setCell ⟨q, 8, none⟩ (.slice (some ⟨g2, 0, none⟩) (n + 1) c2)).heap[b]? = w.heap[b]? := by
  intro b hb;refine ⟨⟨hb.1, by simp [World.setCell]; omega, hb.2.2.1, ?_⟩, (Below.heap_setCell _ _ _ _ hb.2.2.1).trans (hblk b hb.2.1 hb.2.2.2)⟩;intro e;simp only [Value.ownBlock, Option.some.injEq] at e;subst e;rcases hor with h3 | h3
  · exact hb.2.2.2 h3
  · have := hb.2.1; simp at h3; omega
 have hbx : Box w' q 29 #[ι op, .string tx, ι 0, ι 0, eS, nL, nL, nL, .slice A n c] := (hblk q hqlt hnq).trans h.bx;have hput := hbx.put 8 (.slice (some ⟨g2, 0, none⟩) (n + 1) c2);have hp : PAt L gt C g w' σ := (h.s.p.alloc _).grown hg (hn1 _ (by omega)) (hn1 _ (by omega));refine ⟨⟨hp.far (by omega) (by omega) 8 _, ⟨?_, ?_, ?_, by simp [World.setCell]; omega, ?_⟩, Box.far (p := ⟨q, 8, none⟩) ((hblk _ hlt (hn1 _ (Nat.le_refl _))).trans h.s.r) (by show _ ≠ q; omega) _, hg0, hgt0⟩, by rw [List.length_append, h.hn]; rfl, hB, by have := h.hBw; simp [World.setCell]; omega, hq, by simp only [Value.ownBlock]; intro e; injection e with e; exact hg2 e, hput, xs ++ row.toList, ?_, ?_⟩
 · exact hg.os.trans h.s.gr.os
 · exact hg.tape.trans h.s.gr.tape
 · exact hg.output.trans h.s.gr.output
 · intro b hb hne;rw [Below.heap_setCell _ _ _ _ (by show b ≠ q; omega)];exact (hblk b (by omega) (hn1 b (by omega))).trans (World.grownBy.block h.s.gr b hb hne)
 · exact ho.kept (grown_set w' q 8 _) (.inr (by simp only [Value.ownBlock]; intro e; injection e with e; exact hg2 e))
 · exact LiesFL.append (LiesFL.move hlx hS) (LiesFL.one (LiesF.move hf hS))
theorem CSt.tree (h : CSt L gt C g w0 B w σ q op tx l A n c) (htx : tx.size ≤ 140737488355328) (hn : n ≤ 1000000) : TreeAt w0 w (.mk op tx vz [] l) [ι op, .string tx, ι 0, ι 0, eS, nL, nL, nL, .slice A n c] := by
 obtain ⟨xs, h1, h2⟩ := h.row;have hB := h.hB;obtain ⟨A', c', he, a1, a2, a3, a4, a5, a6⟩ := own_open h1;simp only [Value.slice.injEq, true_and] at he;obtain ⟨rfl, rfl⟩ := he;exact liesF_node op tx htx h.hn a3 a1 a2 (by omega) (a6.move fun b hb => ⟨⟨by have := hb.1; omega, hb.2⟩, rfl⟩) (LiesFL.move h2 fun b hb => ⟨⟨hb.1, hb.2.1⟩, rfl⟩)
end
theorem call_any {L : List Fk} (hL : TokL L) {gt C g : Nat} {call : Ru → PM} (n : Nat) (hn : n ≤ 400000) (hA : OkA L gt C g call) (s : ByteArray) (hs : s.size ≤ 1048576) (W : World) (σ τ : PS) (t : Ft) (hP : PAt L gt C g W σ) (hm : callM L call n s σ = some (t, τ)) :
 Calls Tryz.prog 180 #[.pointer (some ⟨g, 0, none⟩), .string s] W (RetF L gt C g W t τ) := by
 have H0 := hI (St.begin hP);have hg0 := hP.glt;unfold callM at hm;obtain ⟨b, hb⟩ : ∃ b, sees L (⟨#[40]⟩ : ByteArray) σ = b := ⟨_, rfl⟩
 rw [hb] at hm;have HT := hI (fun W (h : PAt L gt C g W σ) => take_any hL (⟨#[40]⟩ : ByteArray) b hb h);clear hP hb
 cases b with
 | false =>
  rw [if_neg (by decide)] at hm
  by_cases hi : s = (⟨#[105, 110, 112, 117, 116, 115]⟩ : ByteArray)
  · rw [if_pos hi] at hm;injection hm with hm
    injection hm with h3 h4
    subst h3; subst h4;have q := streqc s [105, 110, 112, 117, 116, 115];rw [decide_eq_true hi] at q;have HNO := hI (fun n W => node_any 28 ⟨#[]⟩ none n n W);clear hA hi hs
    go_enter Tryz.func180, Tryz.ntmps180
    go_wp2_with fail;refine (HT.out _ H0.out.r.p).mono ?_;rintro e w1 ⟨rfl, hg1, hp1⟩;have H1 := hI (H0.out.next hg1 hp1);clear hg1 hp1;go_wp2_with fail;refine (HNO.out _ _).mono ?_;rintro e w2 ⟨rfl, hb2⟩;have H2 := hI ((H1.out.low hb2).leaf 28 ⟨#[]⟩ 0 0 ⟨#[]⟩ (by decide) (by decide));clear hb2;have x0 := H2.out.r.cells;go_wp2_with fail;refine post9 Tryz.results180 rfl rfl (H2.out.r.r.put9z _ _ _ _ _ _ _ _ _) ?_;exact retF_of (H2.out.close (by first | exact mC | simp))
  · rw [if_neg hi] at hm;injection hm with hm
    injection hm with h3 h4
    subst h3; subst h4;have q := streqc s [105, 110, 112, 117, 116, 115];rw [decide_eq_false hi] at q;have HNO := hI (fun n W => node_any 25 s none n n W);clear hA hi
    go_enter Tryz.func180, Tryz.ntmps180
    go_wp2_with fail;refine (HT.out _ H0.out.r.p).mono ?_;rintro e w1 ⟨rfl, hg1, hp1⟩;have H1 := hI (H0.out.next hg1 hp1);clear hg1 hp1;go_wp2_with fail;refine (HNO.out _ _).mono ?_;rintro e w2 ⟨rfl, hb2⟩;have H2 := hI ((H1.out.low hb2).leaf 25 s 0 0 ⟨#[]⟩ (by omega) (by decide));clear hb2;have x0 := H2.out.r.cells;go_wp2_with fail;refine post9 Tryz.results180 rfl rfl (H2.out.r.r.put9z _ _ _ _ _ _ _ _ _) ?_;exact retF_of (H2.out.close (by first | exact mC | simp))
 | true =>
  rw [if_pos rfl] at hm;obtain ⟨lt, σe, h1, h2⟩ := bnd_some hm;injection h2 with h2
  injection h2 with h3 h4
  subst h3; subst h4;obtain ⟨f, σ1, h5, h6⟩ := bnd_some h1;obtain ⟨n, rfl⟩ : ∃ n', n = n' + 1 := by
   cases n with
   | zero => exact absurd h6 (by simp [listL])
   | succ n => exact ⟨n, rfl⟩
  obtain ⟨i0, hi, hz0, hz1, hz2⟩ := infoF inf_fi;have HC := hI (fun W h => hA .filter W _ f σ1 h h5);have HM := hI (fun W σ f τ h hm => hA .filter W σ f τ h hm);have HL2 := hI h6;have HNO := hI (fun A W => node_any 25 s A 1 1 W);have HTK := hI (fun W σ b hb (h : PAt L gt C g W σ) => take_any hL (⟨#[59]⟩ : ByteArray) b hb h);have HN := hI (fun σ W (h : PAt L gt C g W σ) => need_any hL (⟨#[41]⟩ : ByteArray) h);clear hA h1 h5 h6 hm
  go_enter Tryz.func180, Tryz.ntmps180
  go_wp2_with fail;refine (HT.out _ H0.out.r.p).mono ?_;rintro e w1 ⟨rfl, hg1, hp1⟩;have H1 := hI (H0.out.next hg1 hp1);clear hg1 hp1;go_wp2_with fail;refine (HC.out _ H1.out.r.p).mono ?_;rintro e w2 hZ;obtain ⟨Z1, rfl, hg2, hp2, hl2⟩ := fr3 hZ;have H2 := hI (H1.out.call hg2 hp2 hl2);clear hg2 hp2 hl2;go_wp2_with fail;have HLB := hI H2.out.r;have HF2 := hI (H2.out.t (f, Z1.l) (by simp));have hlt2 := H2.out.lt;refine (HNO.out _ _).mono ?_;rintro e w3 ⟨rfl, hb3⟩;have hb3' := hb3.size;have H3 : Hid (CSt L gt C g W w2.heap.size (w3.alloc (.cells #[ι 25, .string s, ι 0, ι 0, eS, nL, nL, nL, .slice (some ⟨w2.heap.size, 0, none⟩) 1 1] 29)) σ1 w3.heap.size 25 s [f] (some ⟨w2.heap.size, 0, none⟩) 1 1) := hI (by
   have r2 := ((HLB.out.alloc (.cells Z1.c 29)).low hb3).alloc (.cells #[ι 25, .string s, ι 0, ι 0, eS, nL, nL, nL, .slice (some ⟨w2.heap.size, 0, none⟩) 1 1] 29);have hbx : Box (w3.alloc (.cells #[ι 25, .string s, ι 0, ι 0, eS, nL, nL, nL, .slice (some ⟨w2.heap.size, 0, none⟩) 1 1] 29)) w2.heap.size 29 Z1.c := ((Box.laid w2 29 Z1.c).below hb3 (by simp)).alloc _;simp at hb3';refine ⟨r2, rfl, hlt2, by simp; omega, by omega, by simp only [Value.ownBlock]; intro e; injection e with e; omega, Box.laid _ _ _, _, ⟨rfl, .inr ⟨w2.heap.size, 1, Z1.c, rfl, Nat.le_refl _, hbx, by simp, by simp [maxLen], rfl, rfl⟩⟩, LiesFL.one (LiesF.move HF2.out fun b hb => ?_)⟩;rcases hb with hb | ⟨a1, a2, -⟩
   · exact hb.elim
   · refine ⟨⟨a1, by simp; omega, by omega, by simp only [Value.ownBlock]; intro e; injection e with e; omega⟩, ?_⟩;exact (Below.heap_alloc _ _ _ (by omega)).trans ((hb3.block b (by simp; omega)).trans (Below.heap_alloc _ _ _ a2)))
  have hqB : w2.heap.size < w3.heap.size := by simp at hb3'; omega
  generalize hBe : w2.heap.size = B at H3 hqB ⊢;clear hBe hb3 hb3' HF2 HLB H2 hlt2 H1;go_wp2_with fail;generalize w3.alloc (.cells #[ι 25, .string s, ι 0, ι 0, eS, nL, nL, nL, .slice (some ⟨B, 0, none⟩) 1 1] 29) = w4 at H3 ⊢;generalize w3.heap.size = q at H3 ⊢;have HX : Hid (∃ (n' nl c : Nat) (A : Option Addr) (l : List Ft) (σk : PS), n' ≤ n ∧ nl + n' ≤ n + 1 ∧ listL L (call .filter) (n' + 1) l σk = some (lt, σe) ∧ CSt L gt C g W B w4 σk q 25 s l A nl c) := hI ⟨n, 1, 1, _, [f], σ1, Nat.le_refl _, by omega, HL2.out, H3.out⟩;clear H3 HL2 hqB
  go_loopg [19] n (fun gg s19 wr => Hid (∃ (n' nl c : Nat) (A : Option Addr) (l : List Ft) (σk : PS), n' ≤ gg ∧ nl + n' ≤ n + 1 ∧ listL L (call .filter) (n' + 1) l σk = some (lt, σe) ∧ CSt L gt C g W B wr σk q 25 s l A nl c))
  case atStart => exact HX
  case round =>
   clear HX;obtain ⟨n', nl, c, A, l, σk, hgk, hln, hc, hS⟩ := hrel.out;have H0 := hI hS;rw [listL] at hc;dsimp only at hc;obtain ⟨b, hb⟩ : ∃ b, sees L (⟨#[59]⟩ : ByteArray) σk = b := ⟨_, rfl⟩
   have HB := hI hb;rw [hb] at hc;clear hb hrel hS
   cases b with
   | false =>
    rw [if_neg (by decide)] at hc;injection hc with hc
    injection hc with h3 h4
    subst h3; subst h4;go_wp2_with fail;refine (HTK.out _ _ _ HB.out H0.out.s.p).mono ?_;rintro e w5 ⟨rfl, hg5, hp5⟩;have H1 := hI (H0.out.next hg5 hp5);clear hg5 hp5;go_wp2_with fail
    (try simp only [Exit.inBlock, Exit.then])
    go_wp2_with fail;refine (HN.out _ _ H1.out.s.p).mono ?_;rintro e w6 ⟨rfl, hg6, hp6⟩;have H2 := hI (H1.out.next hg6 hp6);clear hg6 hp6;obtain ⟨y0, y1, y2, y3, y4, y5, y6, y7, y8⟩ := box9 H2.out.bx;have x0 := H2.out.s.cells;go_wp2_with fail;refine post9 Tryz.results180 rfl rfl (H2.out.s.r.put9z _ _ _ _ _ _ _ _ _) ?_;exact H2.out.s.close (H2.out.tree (by omega) (by omega))
   | true =>
    rw [if_pos rfl] at hc;obtain ⟨u, σ2, h3, h4⟩ := bnd_some hc;obtain ⟨n2, rfl⟩ : ∃ n2, n' = n2 + 1 := by
     cases n' with
     | zero => exact absurd h4 (by simp [listL])
     | succ n => exact ⟨n, rfl⟩
    have HR := hI (fun W h => HM.out W _ u σ2 h h3);have H4x := hI h4;clear hc h3 h4;go_wp2_with fail;refine (HTK.out _ _ _ HB.out H0.out.s.p).mono ?_;rintro e w5 ⟨rfl, hg5, hp5⟩;have H5 : Hid (CSt L gt C g W B w5 (adv σk) q 25 s l A nl c) := hI (H0.out.next hg5 hp5);clear hg5 hp5;go_upto_region 7 with (fail)
    have y8 := H5.out.bx.cell (i := 8) rfl;have hqk := H5.out.bx.lt;refine wp_region_noPanic ?_;refine wp_region_held_drew (S := fun _ => True) (by kernel_rfl) trivial (fun hHeld => ?_);refine wpAnyH_take (i := 0) (v := ?_) rfl (by kernel_rfl) (by kernel_rfl) (by kernel_rfl) (fun _ _ _ h => h) (Or.inl ⟨by rfl, ?ytkc0⟩) (by assumption) ?_
    case ytkc0 => (intro w hSw; (try dsimp only at hSw); go_simp <;> with_reducible rfl)
    try simp only [Act.put, sA, sZ, sS]
    refine wpAnyH_take (i := 2) (v := ?_) rfl (by kernel_rfl) (by kernel_rfl) (by kernel_rfl) (fun _ _ _ h => h) (Or.inl ⟨by rfl, ?ytkc2⟩) (by assumption) ?_
    case ytkc2 => (intro w hSw; (try dsimp only at hSw); go_simp <;> with_reducible rfl)
    try simp only [Act.put, sA, sZ, sS]
    refine wpAnyH_ready (rs := [1, 3]) (by kernel_rfl) (by simp) ?_;refine .cons rfl (fun Kc hK => ?_) (.cons rfl (fun Kc hK => ?_) .nil)
    · skip;go_simp;refine hK.out _ _ trivial (fun _ => ?_);clear hK Kc
      try simp only [Act.put, sA, sZ, sS]
      refine wpAnyH_ready (rs := [3]) (by kernel_rfl) (by simp) ?_;refine .cons rfl (fun Kc hK => ?_) .nil;go_simp;refine (HR.out _ H5.out.drew.s.p).mono ?_;rintro e w6 hZ;obtain ⟨Z2, rfl, hg6, hp6, hl6⟩ := fr3 hZ;have HF6 := hI (H5.out.drew.apart hl6 hg6);have H6 := hI (H5.out.drew.next hg6 hp6);clear hg6 hp6 hl6;refine hK.out _ _ trivial (fun _ => ?_);clear hK Kc
      try simp only [Act.put, sA, sZ, sS]
      refine wpAnyH_ready (rs := [4]) (by kernel_rfl) (by simp) ?_;refine .cons rfl (fun Kc hK => ?_) .nil;go_simp;obtain ⟨xs, hx, hlx⟩ := H6.out.row;have HXR := hI (And.intro hx hlx);have hbw : B ≤ w6.heap.size := H6.out.hBw;clear hx hlx;refine hK.out _ _ trivial (fun _ => ?_);clear hK Kc
      try simp only [Act.put, sA, sZ, sS]
      refine wpAnyH_ready (rs := [5]) (by kernel_rfl) (by simp) ?_;refine .cons rfl (fun Kc hK => ?_) .nil;refine step_append_lies _ rfl (.tmp 22) (.tmp 25) 27 rfl B 29 i0 (.agg #[ι 0, eS, ι 0, ι 0, eS, nL, nL, nL, nL]) 9 152 Tryz.underlying27 hi hz0 hz1 hz2 rfl (by decide) (.slice A nl c) nl xs rfl (own_keepB' HXR.out.1 ((Below.refl _ _).alloc (Nat.le_refl _) _)) ⟨w6.heap.size, 0, none⟩ 1 1 Z2.l rfl rfl (new9 _ _ Z2.c rfl) (one9 _ _ _ _ _ _ _ _ _ _ _ _ _ _ _ _ _) (by decide) (by unfold maxLen; omega) (by omega) (by simp; omega) _ rfl ?_;intro g4 c4 w9 hown4 hgr4 hor4 hlt4;have H9 := hI (H6.out.append (row := Z2.c) HF6.out HXR.out.1 HXR.out.2 hown4 hgr4 hor4);have hbx9 : Box w9 q 29 #[ι 25, .string s, ι 0, ι 0, eS, nL, nL, nL, .slice A nl c] := ((H6.out.bx).alloc _).grown hgr4 (fun e => H6.out.nq e.symm);have c8 := hbx9.cell (i := 8) rfl;have f8 := hbx9.free 8;have hq9 := hbx9.lt;clear hown4 hgr4 hor4 hlt4 hbx9;refine hK.out _ _ trivial (fun _ => ?_);clear hK Kc
      try simp only [List.getElem_toArray, List.getElem_cons_succ, List.getElem_cons_zero, Act.put, sA, sZ, sS]
      refine wpAnyH_take (i := 6) (v := ?_) rfl (by kernel_rfl) (by kernel_rfl) (by kernel_rfl) (fun _ _ _ h => h) (Or.inl ⟨by rfl, ?ytkfa1⟩) (by assumption) ?_
      case ytkfa1 => (intro w hSw; (try dsimp only at hSw); go_simp <;> with_reducible rfl)
      try simp only [Act.put, sA, sZ, sS]
      refine wpAnyH_ready (rs := [7]) (by kernel_rfl) (by simp) ?_;refine .cons rfl (fun Kc hK => ?_) .nil;go_simp;refine hK.out _ _ trivial (fun _ => ?_);clear hK Kc
      try simp only [List.getElem_toArray, List.getElem_cons_succ, List.getElem_cons_zero, Act.put, sA, sZ, sS]
      refine wpAnyH_done (by kernel_rfl) ?_ _;refine NoPanic.normal ?_
      try simp only [List.getElem_toArray, List.getElem_cons_succ, List.getElem_cons_zero, Act.put, sA, sZ, sS]
      go_wp2_with fail
      go_roundg n2
      case measure => omega
      case rel => exact hI ⟨n2, nl + 1, c4, some ⟨g4, 0, none⟩, l ++ [u], σ2, Nat.le_refl _, by omega, H4x.out, H9.out⟩
    · skip;go_simp;refine (HR.out _ H5.out.drew.s.p).mono ?_;rintro e w6 hZ;obtain ⟨Z2, rfl, hg6, hp6, hl6⟩ := fr3 hZ;have HF6 := hI (H5.out.drew.apart hl6 hg6);have H6 := hI (H5.out.drew.next hg6 hp6);clear hg6 hp6 hl6;refine hK.out _ _ trivial (fun _ => ?_);clear hK Kc
      try simp only [Act.put, sA, sZ, sS]
      refine wpAnyH_ready (rs := [1, 4]) (by kernel_rfl) (by simp) ?_;refine .cons rfl (fun Kc hK => ?_) (.cons rfl (fun Kc hK => ?_) .nil)
      · skip;have y8 := H6.out.bx.cell (i := 8) rfl;have hqk := H6.out.bx.lt;go_simp;refine hK.out _ _ trivial (fun _ => ?_);clear hK Kc
        try simp only [Act.put, sA, sZ, sS]
        refine wpAnyH_ready (rs := [4]) (by kernel_rfl) (by simp) ?_;refine .cons rfl (fun Kc hK => ?_) .nil;go_simp;obtain ⟨xs, hx, hlx⟩ := H6.out.row;have HXR := hI (And.intro hx hlx);have hbw : B ≤ w6.heap.size := H6.out.hBw;clear hx hlx;refine hK.out _ _ trivial (fun _ => ?_);clear hK Kc
        try simp only [Act.put, sA, sZ, sS]
        refine wpAnyH_ready (rs := [5]) (by kernel_rfl) (by simp) ?_;refine .cons rfl (fun Kc hK => ?_) .nil;refine step_append_lies _ rfl (.tmp 22) (.tmp 25) 27 rfl B 29 i0 (.agg #[ι 0, eS, ι 0, ι 0, eS, nL, nL, nL, nL]) 9 152 Tryz.underlying27 hi hz0 hz1 hz2 rfl (by decide) (.slice A nl c) nl xs rfl (own_keepB' HXR.out.1 ((Below.refl _ _).alloc (Nat.le_refl _) _)) ⟨w6.heap.size, 0, none⟩ 1 1 Z2.l rfl rfl (new9 _ _ Z2.c rfl) (one9 _ _ _ _ _ _ _ _ _ _ _ _ _ _ _ _ _) (by decide) (by unfold maxLen; omega) (by omega) (by simp; omega) _ rfl ?_;intro g4 c4 w9 hown4 hgr4 hor4 hlt4;have H9 := hI (H6.out.append (row := Z2.c) HF6.out HXR.out.1 HXR.out.2 hown4 hgr4 hor4);have hbx9 : Box w9 q 29 #[ι 25, .string s, ι 0, ι 0, eS, nL, nL, nL, .slice A nl c] := ((H6.out.bx).alloc _).grown hgr4 (fun e => H6.out.nq e.symm);have c8 := hbx9.cell (i := 8) rfl;have f8 := hbx9.free 8;have hq9 := hbx9.lt;clear hown4 hgr4 hor4 hlt4 hbx9;refine hK.out _ _ trivial (fun _ => ?_);clear hK Kc
        try simp only [List.getElem_toArray, List.getElem_cons_succ, List.getElem_cons_zero, Act.put, sA, sZ, sS]
        refine wpAnyH_take (i := 6) (v := ?_) rfl (by kernel_rfl) (by kernel_rfl) (by kernel_rfl) (fun _ _ _ h => h) (Or.inl ⟨by rfl, ?ytkfa2⟩) (by assumption) ?_
        case ytkfa2 => (intro w hSw; (try dsimp only at hSw); go_simp <;> with_reducible rfl)
        try simp only [Act.put, sA, sZ, sS]
        refine wpAnyH_ready (rs := [7]) (by kernel_rfl) (by simp) ?_;refine .cons rfl (fun Kc hK => ?_) .nil;go_simp;refine hK.out _ _ trivial (fun _ => ?_);clear hK Kc
        try simp only [List.getElem_toArray, List.getElem_cons_succ, List.getElem_cons_zero, Act.put, sA, sZ, sS]
        refine wpAnyH_done (by kernel_rfl) ?_ _;refine NoPanic.normal ?_
        try simp only [List.getElem_toArray, List.getElem_cons_succ, List.getElem_cons_zero, Act.put, sA, sZ, sS]
        go_wp2_with fail
        go_roundg n2
        case measure => omega
        case rel => exact hI ⟨n2, nl + 1, c4, some ⟨g4, 0, none⟩, l ++ [u], σ2, Nat.le_refl _, by omega, H4x.out, H9.out⟩
      · skip;go_simp;obtain ⟨xs, hx, hlx⟩ := H6.out.row;have HXR := hI (And.intro hx hlx);have hbw : B ≤ w6.heap.size := H6.out.hBw;clear hx hlx;have y8 := (H6.out.alloc (.cells Z2.c 29)).bx.cell (i := 8) rfl;have hqk := H6.out.bx.lt;refine hK.out _ _ trivial (fun _ => ?_);clear hK Kc
        try simp only [Act.put, sA, sZ, sS]
        refine wpAnyH_ready (rs := [1]) (by kernel_rfl) (by simp) ?_;refine .cons rfl (fun Kc hK => ?_) .nil;go_simp;refine hK.out _ _ trivial (fun _ => ?_);clear hK Kc
        try simp only [Act.put, sA, sZ, sS]
        refine wpAnyH_ready (rs := [5]) (by kernel_rfl) (by simp) ?_;refine .cons rfl (fun Kc hK => ?_) .nil;refine step_append_lies _ rfl (.tmp 22) (.tmp 25) 27 rfl B 29 i0 (.agg #[ι 0, eS, ι 0, ι 0, eS, nL, nL, nL, nL]) 9 152 Tryz.underlying27 hi hz0 hz1 hz2 rfl (by decide) (.slice A nl c) nl xs rfl (own_keepB' HXR.out.1 ((Below.refl _ _).alloc (Nat.le_refl _) _)) ⟨w6.heap.size, 0, none⟩ 1 1 Z2.l rfl rfl (new9 _ _ Z2.c rfl) (one9 _ _ _ _ _ _ _ _ _ _ _ _ _ _ _ _ _) (by decide) (by unfold maxLen; omega) (by omega) (by simp; omega) _ rfl ?_;intro g4 c4 w9 hown4 hgr4 hor4 hlt4;have H9 := hI (H6.out.append (row := Z2.c) HF6.out HXR.out.1 HXR.out.2 hown4 hgr4 hor4);have hbx9 : Box w9 q 29 #[ι 25, .string s, ι 0, ι 0, eS, nL, nL, nL, .slice A nl c] := ((H6.out.bx).alloc _).grown hgr4 (fun e => H6.out.nq e.symm);have c8 := hbx9.cell (i := 8) rfl;have f8 := hbx9.free 8;have hq9 := hbx9.lt;clear hown4 hgr4 hor4 hlt4 hbx9;refine hK.out _ _ trivial (fun _ => ?_);clear hK Kc
        try simp only [List.getElem_toArray, List.getElem_cons_succ, List.getElem_cons_zero, Act.put, sA, sZ, sS]
        refine wpAnyH_take (i := 6) (v := ?_) rfl (by kernel_rfl) (by kernel_rfl) (by kernel_rfl) (fun _ _ _ h => h) (Or.inl ⟨by rfl, ?ytkfa3⟩) (by assumption) ?_
        case ytkfa3 => (intro w hSw; (try dsimp only at hSw); go_simp <;> with_reducible rfl)
        try simp only [Act.put, sA, sZ, sS]
        refine wpAnyH_ready (rs := [7]) (by kernel_rfl) (by simp) ?_;refine .cons rfl (fun Kc hK => ?_) .nil;go_simp;refine hK.out _ _ trivial (fun _ => ?_);clear hK Kc
        try simp only [List.getElem_toArray, List.getElem_cons_succ, List.getElem_cons_zero, Act.put, sA, sZ, sS]
        refine wpAnyH_done (by kernel_rfl) ?_ _;refine NoPanic.normal ?_
        try simp only [List.getElem_toArray, List.getElem_cons_succ, List.getElem_cons_zero, Act.put, sA, sZ, sS]
        go_wp2_with fail
        go_roundg n2
        case measure => omega
        case rel => exact hI ⟨n2, nl + 1, c4, some ⟨g4, 0, none⟩, l ++ [u], σ2, Nat.le_refl _, by omega, H4x.out, H9.out⟩
