import Derived.Test.YtoleoimmpggldaaGreatDoorQF
set_option linter.unusedVariables false
set_option linter.unusedSectionVars false
set_option linter.unusedSimpArgs false
set_option maxHeartbeats 10000000
set_option maxRecDepth 100000
namespace Go.Proofs.YtoleoimmpggldaaGreatDoor
open Go.RowKit
theorem before_any {L : List Fk} (hL : TokL L) {gt C g : Nat} {call : Ru → PM} (hA : OkA L gt C g call) (x : ByteArray) (W : World) (σ τ : PS) (t : Ft) (hP : PAt L gt C g W σ) (hm : beforeM L call x σ = some (t, τ)) :
 Calls Tryz.prog 186 #[.pointer (some ⟨g, 0, none⟩), .string x] W (RetF L gt C g W t τ) := by
 obtain ⟨f, σ1, h1, h2⟩ := bnd_some hm;injection h2 with h2
 injection h2 with h3 h4
 subst h3; subst h4;have H0 := hI (St.begin hP);have HC := hI (hA .filter _ _ f σ1 H0.out.r.p h1);have HN := hI (fun W (h : PAt L gt C g W σ1) => need_any hL x h);clear hP hA hm h1
 go_enter Tryz.func186, Tryz.ntmps186
 go_wp2_with fail;refine (HC.out).mono ?_;rintro e w1 hZ;obtain ⟨Z1, rfl, hg1, hp1, hl1⟩ := fr3 hZ;have H1 := hI ((H0.out.call hg1 hp1 hl1).box Z1.c);clear hg1 hp1 hl1;go_wp2_with fail;refine (HN.out _ H1.out.r.p).mono ?_;rintro e w2 ⟨rfl, hg2, hp2⟩;have H2 := hI (H1.out.next hg2 hp2);clear hg2 hp2;obtain ⟨y0, Z1.x, y2, y3, y4, y5, y6, y7, y8⟩ := box9 (H2.out.bx (q := w1.heap.size) (c := Z1.c) (by simp));obtain ⟨⟨x0, Z1.d, x2, x3, x4, x5, x6, x7, x8⟩, z0, z1, z2, z3, z4, z5, z6, z7, z8⟩ := H2.out.r.cells;go_wp2_with fail;refine post9 Tryz.results186 rfl rfl (H2.out.r.r.put9z _ _ _ _ _ _ _ _ _) ?_;exact retF_of (H2.out.close (by first | exact mC | simp))
theorem other_any {L : List Fk} (hL : TokL L) {gt C g : Nat} {call : Ru → PM} (hA : OkA L gt C g call) (W : World) (σ τ : PS) (t : Ft) (hP : PAt L gt C g W σ) (hm : otherM L call σ = some (t, τ)) :
 Calls Tryz.prog 197 #[.pointer (some ⟨g, 0, none⟩)] W (RetF L gt C g W t τ) := by
 have H0 := hI (St.begin hP);unfold otherM at hm;obtain ⟨b, hb⟩ : ∃ b, sees L (⟨#[101, 108, 105, 102]⟩ : ByteArray) σ = b := ⟨_, rfl⟩
 rw [hb] at hm;have HT := hI (fun W (h : PAt L gt C g W σ) => take_any hL (⟨#[101, 108, 105, 102]⟩ : ByteArray) b hb h);clear hP hb
 cases b with
 | true =>
  rw [if_pos rfl] at hm;have HC := hI (fun W h => hA .condition W _ t τ h hm);clear hA hm
  go_enter Tryz.func197, Tryz.ntmps197
  go_wp2_with fail;refine (HT.out _ H0.out.r.p).mono ?_;rintro e w1 ⟨rfl, hg1, hp1⟩;have H1 := hI (H0.out.next hg1 hp1);clear hg1 hp1;go_wp2_with fail;refine (HC.out _ H1.out.r.p).mono ?_;rintro e w2 hZ;obtain ⟨Z1, rfl, hg2, hp2, hl2⟩ := fr3 hZ;have H2 := hI (H1.out.call hg2 hp2 hl2);clear hg2 hp2 hl2;obtain ⟨⟨x0, Z1.d, x2, x3, x4, x5, x6, x7, x8⟩, z0, z1, z2, z3, z4, z5, z6, z7, z8⟩ := H2.out.r.cells;go_wp2_with fail;refine post9 Tryz.results197 rfl rfl (H2.out.r.r.put9z _ _ _ _ _ _ _ _ _) ?_;exact retF_of (H2.out.close (by first | exact mC | simp))
 | false =>
  rw [if_neg (by decide)] at hm;obtain ⟨b, hb⟩ : ∃ b, sees L (⟨#[101, 108, 115, 101]⟩ : ByteArray) σ = b := ⟨_, rfl⟩
  rw [hb] at hm;have HT2 := hI (fun W (h : PAt L gt C g W σ) => take_any hL (⟨#[101, 108, 115, 101]⟩ : ByteArray) b hb h);clear hb
  cases b with
  | true =>
   rw [if_pos rfl] at hm;have HC := hI (fun W h => before_any hL hA (⟨#[101, 110, 100]⟩ : ByteArray) W _ τ t h hm);clear hA hm
   go_enter Tryz.func197, Tryz.ntmps197
   go_wp2_with fail;refine (HT.out _ H0.out.r.p).mono ?_;rintro e w1 ⟨rfl, hg1, hp1⟩;have H1 := hI (H0.out.next hg1 hp1);clear hg1 hp1;go_wp2_with fail;refine (HT2.out _ H1.out.r.p).mono ?_;rintro e w2 ⟨rfl, hg2, hp2⟩;have H2 := hI (H1.out.next hg2 hp2);clear hg2 hp2;go_wp2_with fail;refine (HC.out _ H2.out.r.p).mono ?_;rintro e w3 hZ;obtain ⟨Z1, rfl, hg3, hp3, hl3⟩ := fr3 hZ;have H3 := hI (H2.out.call hg3 hp3 hl3);clear hg3 hp3 hl3;obtain ⟨⟨x0, Z1.d, x2, x3, x4, x5, x6, x7, x8⟩, z0, z1, z2, z3, z4, z5, z6, z7, z8⟩ := H3.out.r.cells;go_wp2_with fail;refine post9 Tryz.results197 rfl rfl (H3.out.r.r.put9z _ _ _ _ _ _ _ _ _) ?_;exact retF_of (H3.out.close (by first | exact mC | simp))
  | false =>
   rw [if_neg (by decide)] at hm;injection hm with hm
   injection hm with h3 h4
   subst h3; subst h4;have HN := hI (fun W (h : PAt L gt C g W σ) => need_any hL (⟨#[101, 110, 100]⟩ : ByteArray) h);clear hA
   go_enter Tryz.func197, Tryz.ntmps197
   go_wp2_with fail;refine (HT.out _ H0.out.r.p).mono ?_;rintro e w1 ⟨rfl, hg1, hp1⟩;have H1 := hI (H0.out.next hg1 hp1);clear hg1 hp1;go_wp2_with fail;refine (HT2.out _ H1.out.r.p).mono ?_;rintro e w2 ⟨rfl, hg2, hp2⟩;have H2 := hI (H1.out.next hg2 hp2);clear hg2 hp2;go_wp2_with fail;refine (HN.out _ H2.out.r.p).mono ?_;rintro e w3 ⟨rfl, hg3, hp3⟩;have H3 := hI (H2.out.next hg3 hp3);clear hg3 hp3;go_wp2_with fail;refine (ident_any _).mono ?_;rintro e w4 ⟨rfl, hb4⟩;have H4 := hI ((H3.out.low hb4).leaf 1 ⟨#[]⟩ 0 0 ⟨#[]⟩ (by decide) (by decide));clear hb4;obtain ⟨⟨x0, Z1.d, x2, x3, x4, x5, x6, x7, x8⟩, z0, z1, z2, z3, z4, z5, z6, z7, z8⟩ := H4.out.r.cells;go_wp2_with fail;refine post9 Tryz.results197 rfl rfl (H4.out.r.r.put9z _ _ _ _ _ _ _ _ _) ?_;exact retF_of (H4.out.close (by first | exact mC | simp))
theorem array_any {L : List Fk} (hL : TokL L) {gt C g : Nat} {call : Ru → PM} (hA : OkA L gt C g call) (W : World) (σ τ : PS) (t : Ft) (hP : PAt L gt C g W σ) (hm : arrayM L call σ = some (t, τ)) :
 Calls Tryz.prog 187 #[.pointer (some ⟨g, 0, none⟩)] W (RetF L gt C g W t τ) := by
 have H0 := hI (St.begin hP);unfold arrayM at hm;obtain ⟨b, hb⟩ : ∃ b, sees L (⟨#[93]⟩ : ByteArray) σ = b := ⟨_, rfl⟩
 rw [hb] at hm;have HT := hI (fun W (h : PAt L gt C g W σ) => take_any hL (⟨#[93]⟩ : ByteArray) b hb h);clear hP hb
 cases b with
 | true =>
  rw [if_pos rfl] at hm;injection hm with hm
  injection hm with h3 h4
  subst h3; subst h4;have HNO := hI (fun W => node_any 9 none 0 0 W);clear hA
  go_enter Tryz.func187, Tryz.ntmps187
  go_wp2_with fail;refine (HT.out _ H0.out.r.p).mono ?_;rintro e w1 ⟨rfl, hg1, hp1⟩;have H1 := hI (H0.out.next hg1 hp1);clear hg1 hp1;go_wp2_with fail;refine (HNO.out _).mono ?_;rintro e w2 ⟨rfl, hb2⟩;have H2 := hI ((H1.out.low hb2).leaf 9 ⟨#[]⟩ 0 0 ⟨#[]⟩ (by decide) (by decide));clear hb2;obtain ⟨⟨x0, x1, x2, x3, x4, x5, x6, x7, x8⟩, z0, z1, z2, z3, z4, z5, z6, z7, z8⟩ := H2.out.r.cells;go_wp2_with fail;refine post9 Tryz.results187 rfl rfl (H2.out.r.r.put9z _ _ _ _ _ _ _ _ _) ?_;exact retF_of (H2.out.close (by first | exact mC | simp))
 | false =>
  rw [if_neg (by decide)] at hm;obtain ⟨f, σ1, h1, h2⟩ := bnd_some hm;injection h2 with h2
  injection h2 with h3 h4
  subst h3; subst h4;have HC := hI (fun W h => before_any hL hA (⟨#[93]⟩ : ByteArray) W _ σ1 f h h1);have HNO := hI (fun A W => node_any 9 A 1 1 W);clear hA hm h1
  go_enter Tryz.func187, Tryz.ntmps187
  go_wp2_with fail;refine (HT.out _ H0.out.r.p).mono ?_;rintro e w1 ⟨rfl, hg1, hp1⟩;have H1 := hI (H0.out.next hg1 hp1);clear hg1 hp1;go_wp2_with fail;refine (HC.out _ H1.out.r.p).mono ?_;rintro e w2 hZ;obtain ⟨Z1, rfl, hg2, hp2, hl2⟩ := fr3 hZ;have H2 := hI (H1.out.call hg2 hp2 hl2);clear hg2 hp2 hl2;go_wp2_with fail;have H3 := hI (H2.out.node 9 ⟨#[]⟩ (by decide) (fs := [f]) (row := Z1.c) rfl (by simp) (LiesFL.one (H2.out.t (f, Z1.l) (by simp))) rfl);refine (HNO.out _ _).mono ?_;rintro e w4 ⟨rfl, hb4⟩;have H4 := hI (H3.out.low hb4);clear hb4;obtain ⟨⟨x0, Z1.d, x2, x3, x4, x5, x6, x7, x8⟩, z0, z1, z2, z3, z4, z5, z6, z7, z8⟩ := H4.out.r.cells;go_wp2_with fail;refine post9 Tryz.results187 rfl rfl (H4.out.r.r.put9z _ _ _ _ _ _ _ _ _) ?_;exact retF_of (H4.out.close (by first | exact mC | simp))
theorem unary_any {L : List Fk} (hL : TokL L) {gt C g : Nat} {call : Ru → PM} (hA : OkA L gt C g call) : OkF L gt C g 141 (unaryM L call) := by
 intro W σ t τ hP hm;have H0 := hI (St.begin hP);unfold unaryM at hm;obtain ⟨b, hb⟩ : ∃ b, sees L (⟨#[45]⟩ : ByteArray) σ = b := ⟨_, rfl⟩
 rw [hb] at hm;have HT := hI (fun W (h : PAt L gt C g W σ) => take_any hL (⟨#[45]⟩ : ByteArray) b hb h);clear hP hb
 cases b with
 | false =>
  rw [if_neg (by decide)] at hm;have HC := hI (fun W h => hA .operand W _ t τ h hm);clear hA hm
  go_enter Tryz.func141, Tryz.ntmps141
  go_wp2_with fail;refine (HT.out _ H0.out.r.p).mono ?_;rintro e w1 ⟨rfl, hg1, hp1⟩;have H1 := hI (H0.out.next hg1 hp1);clear hg1 hp1;go_wp2_with fail;refine (HC.out _ H1.out.r.p).mono ?_;rintro e w2 hZ;obtain ⟨Z1, rfl, hg2, hp2, hl2⟩ := fr3 hZ;have H2 := hI (H1.out.call hg2 hp2 hl2);clear hg2 hp2 hl2;obtain ⟨⟨x0, Z1.d, x2, x3, x4, x5, x6, x7, x8⟩, z0, z1, z2, z3, z4, z5, z6, z7, z8⟩ := H2.out.r.cells;go_wp2_with fail;refine post9 Tryz.results141 rfl rfl (H2.out.r.r.put9z _ _ _ _ _ _ _ _ _) ?_;exact retF_of (H2.out.close (by first | exact mC | simp))
 | true =>
  rw [if_pos rfl] at hm;obtain ⟨f, σ1, h1, h2⟩ := bnd_some hm;injection h2 with h2
  injection h2 with h3 h4
  subst h3; subst h4;have HC := hI (fun W h => hA .unary W _ f σ1 h h1);have HNO := hI (fun A W => node_any 11 A 1 1 W);clear hA hm h1
  go_enter Tryz.func141, Tryz.ntmps141
  go_wp2_with fail;refine (HT.out _ H0.out.r.p).mono ?_;rintro e w1 ⟨rfl, hg1, hp1⟩;have H1 := hI (H0.out.next hg1 hp1);clear hg1 hp1;go_wp2_with fail;refine (HC.out _ H1.out.r.p).mono ?_;rintro e w2 hZ;obtain ⟨Z1, rfl, hg2, hp2, hl2⟩ := fr3 hZ;have H2 := hI (H1.out.call hg2 hp2 hl2);clear hg2 hp2 hl2;go_wp2_with fail;have H3 := hI (H2.out.node 11 ⟨#[]⟩ (by decide) (fs := [f]) (row := Z1.c) rfl (by simp) (LiesFL.one (H2.out.t (f, Z1.l) (by simp))) rfl);refine (HNO.out _ _).mono ?_;rintro e w4 ⟨rfl, hb4⟩;have H4 := hI (H3.out.low hb4);clear hb4;obtain ⟨⟨x0, Z1.d, x2, x3, x4, x5, x6, x7, x8⟩, z0, z1, z2, z3, z4, z5, z6, z7, z8⟩ := H4.out.r.cells;go_wp2_with fail;refine post9 Tryz.results141 rfl rfl (H4.out.r.r.put9z _ _ _ _ _ _ _ _ _) ?_;exact retF_of (H4.out.close (by first | exact mC | simp))
