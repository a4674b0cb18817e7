import Derived.Test.YtoleoimmpggldaaGreatDoorYd
set_option linter.unusedVariables false
set_option linter.unusedSectionVars false
set_option linter.unusedSimpArgs false
set_option maxHeartbeats 10000000
set_option maxRecDepth 100000
namespace Go.Proofs.YtoleoimmpggldaaGreatDoor
open Go.RowKit
section
variable {S : Nat → Prop} {L : List Fk} {gt C g : Nat} {w w' w0 : World} {σ τ : PS} {bs : List (Nat × Array Value)} {ts : List (Ft × List Value)} {t : Ft} {cs : List Value}
theorem Own.ne (h : St S L gt C g w0 w σ bs ts) : ∀ b, Own S w0 w bs b → b < w.heap.size ∧ b ≠ g := by
 intro b hb;refine ⟨Own.lt h b hb, ?_⟩;rcases hb with hb | hb
 · exact (h.hS b hb).2
 · have := hb.1; have := h.r.g0; omega
theorem St.callU (h : St S L gt C g w0 w σ bs ts) (hg : Gr g w w') (hp : PAt L gt C g w' τ) (hl : LiesF w' (Und (Own S w0 w bs) w.heap.size w'.heap.size) t cs) : St S L gt C g w0 w' τ bs ((t, cs) :: ts) := by
 refine (h.next hg hp).put (LiesF.move hl fun b hb' => ⟨?_, rfl⟩);rcases hb' with hb' | hb'
 · exact (Own.gr h hg b hb').1
 · exact .inr ⟨nT h.lt hb'.1, hb'.2, fun q hq => by have := (h.b q hq).2.lt; have := hb'.1; omega⟩
end
theorem suffix_any {L : List Fk} (hL : TokL L) {gt C g : Nat} {call : Ru → PM} (hA : OkA L gt C g call) {S : Nat → Prop} {f : Ft} {c00 c01 c02 c03 c04 c05 c06 c07 c08 : Value} (W : World) (σ τ : PS) (t : Ft) (hP : PAt L gt C g W σ) (hS : ∀ b, S b → b < W.heap.size ∧ b ≠ g) (hl : LiesF W S f [c00, c01, c02, c03, c04, c05, c06, c07, c08]) (hm : suffixM L call f σ = some (t, τ)) :
 Calls Tryz.prog 165 #[.pointer (some ⟨g, 0, none⟩), .agg #[c00, c01, c02, c03, c04, c05, c06, c07, c08]] W (RetU S L gt C g W t τ) := by
 obtain ⟨Z1, rfl, rfl, rfl, rfl, rfl, rfl, rfl, rfl, rfl⟩ := fr9 hl;have H0 := hI (St.param hP hS hl (.cells Z1.c 29));have hg0 := hP.glt;have hS1 : ∀ b, S b → b < W.heap.size := fun b hb => (hS b hb).1
 have HS1 := hI hS1;have keep : Hid (∀ X σ bs ts, St S L gt C g (W.alloc (.cells Z1.c 29)) X σ bs ts → X.cell? ⟨W.heap.size, 0, none⟩ = some (ι Z1.o) ∧ X.cell? ⟨W.heap.size, 1, none⟩ = some (.string Z1.t) ∧ X.cell? ⟨W.heap.size, 2, none⟩ = some (ι Z1.k) ∧ X.cell? ⟨W.heap.size, 3, none⟩ = some (ι Z1.j) ∧ X.cell? ⟨W.heap.size, 4, none⟩ = some (.string Z1.s) ∧ X.cell? ⟨W.heap.size, 5, none⟩ = some (.slice Z1.A Z1.a Z1.u) ∧ X.cell? ⟨W.heap.size, 6, none⟩ = some (.slice Z1.B Z1.b Z1.v) ∧ X.cell? ⟨W.heap.size, 7, none⟩ = some (.slice Z1.C Z1.e Z1.w) ∧ X.cell? ⟨W.heap.size, 8, none⟩ = some (.slice Z1.D Z1.d Z1.x)) := hI fun X σ bs ts hX => box9 (hX.pbox hg0)
 have sz1 : (W.alloc (.cells Z1.c 29)).heap.size = W.heap.size + 1 := by simp
 have HB := hI (fun (U : Nat → Prop) W σ (t : Ft) (τ : PS) (d0 d1 d2 d3 d4 d5 d6 d7 d8 : Value) (h : PAt L gt C g W σ) (hU : ∀ b, U b → b < W.heap.size ∧ b ≠ g) (hl : LiesF W U f [d0, d1, d2, d3, d4, d5, d6, d7, d8]) (hm : bracketM L call f σ = some (t, τ)) => bracket_any hL hA W σ τ t h hU hl hm);have HK := hI (fun K σ W (h : PAt L gt C g W σ) => kind_any hL K h);have HFD := hI (fun s (hs : s.size ≤ 1048576) (U : Nat → Prop) W (d0 d1 d2 d3 d4 d5 d6 d7 d8 : Value) hU (hl : LiesF W U f [d0, d1, d2, d3, d4, d5, d6, d7, d8]) => field_any (S := U) s (by omega) W hU hl);have HSZ := hI hL.size;unfold suffixM at hm;obtain ⟨b, hb⟩ : ∃ b, sees L (⟨#[46]⟩ : ByteArray) σ = b := ⟨_, rfl⟩
 rw [hb] at hm;have HT1 := hI (fun W (h : PAt L gt C g W (σ)) => take_any hL (⟨#[46]⟩ : ByteArray) b hb h);have SZ1 := hI sz1;clear hP hS hl hb hS1 sz1 hA
 cases b with
 | true =>
  rw [if_pos rfl] at hm;injection hm with hm
  injection hm with h3 h4
  subst h3; subst h4;have HK1 := hI (HK.out 6 (adv σ));have hsz := HSZ.out (adv σ).k;generalize (tk L (adv σ).k).s = S3 at HK1 hsz ⊢
  go_enter Tryz.func165, Tryz.ntmps165
  go_wp2_with fail;refine (HT1.out _ H0.out.r.p).mono ?_;rintro e w1 ⟨rfl, hg1, hp1⟩;have H1 := hI (H0.out.next hg1 hp1);clear hg1 hp1;go_upto_region 2 with (fail)
  obtain ⟨y0, y1, y2, y3, y4, y5, y6, y7, y8⟩ := keep.out _ _ _ _ H1.out
  go_region_held3 (fun X => X.cell? ⟨W.heap.size, 0, none⟩ = some (ι Z1.o) ∧ X.cell? ⟨W.heap.size, 1, none⟩ = some (.string Z1.t) ∧ X.cell? ⟨W.heap.size, 2, none⟩ = some (ι Z1.k) ∧ X.cell? ⟨W.heap.size, 3, none⟩ = some (ι Z1.j) ∧ X.cell? ⟨W.heap.size, 4, none⟩ = some (.string Z1.s) ∧ X.cell? ⟨W.heap.size, 5, none⟩ = some (.slice Z1.A Z1.a Z1.u) ∧ X.cell? ⟨W.heap.size, 6, none⟩ = some (.slice Z1.B Z1.b Z1.v) ∧ X.cell? ⟨W.heap.size, 7, none⟩ = some (.slice Z1.C Z1.e Z1.w) ∧ X.cell? ⟨W.heap.size, 8, none⟩ = some (.slice Z1.D Z1.d Z1.x))
   (first
    | with_reducible exact keep.out _ _ _ _ H1.out.drew
    | with_reducible exact keep.out _ _ _ _ H2.out
    | with_reducible exact keep.out _ _ _ _ H3.out
    | exact box9 ((H3.out.pbox hg0).far9 (by omega) _ _ _ _ _ _ _ _ _))
   (first
    | (go_at_call 14; (refine (HK1.out _ H1.out.drew.r.p).mono ?_); rintro e w2 ⟨rfl, hg2, hp2⟩; have H2 := hI (H1.out.drew.next hg2 hp2); clear hg2 hp2)
    | (go_at_call 169; (refine (HFD.out S3 hsz _ _ _ _ _ _ _ _ _ _ _ (Own.lt H2.out) (H2.out.t (f, Z1.l) (by simp))).mono ?_); rintro e w3 ⟨c20, c21, c22, c23, c24, c25, c26, c27, c28, rfl, hb3, hl3⟩; obtain ⟨Z2, rfl, rfl, rfl, rfl, rfl, rfl, rfl, rfl, rfl⟩ := fr9 hl3; have H3 := hI (H2.out.maker hb3 hl3); clear hb3 hl3; have x0 := H3.out.r.cells; rw [SZ1.out] at x0; have hltr3 := H3.out.lt; rw [SZ1.out] at hltr3))
  go_wp2_with fail;refine post9 Tryz.results165 rfl rfl ((SZ1.out ▸ H3.out.r.r.put9z _ _ _ _ _ _ _ _ _)) ?_;exact RetU.base (SZ1.out ▸ H3.out.close (by first | exact mC | simp))
 | false =>
  rw [if_neg (by decide)] at hm;obtain ⟨b, hb⟩ : ∃ b, sees L (⟨#[63]⟩ : ByteArray) σ = b := ⟨_, rfl⟩
  rw [hb] at hm;have HT2 := hI (fun W (h : PAt L gt C g W (σ)) => take_any hL (⟨#[63]⟩ : ByteArray) b hb h);clear hb
  cases b with
  | true =>
   rw [if_pos rfl] at hm;injection hm with hm
   injection hm with h3 h4
   subst h3; subst h4;have HNO := hI (fun A W => node_any 19 A 1 1 W)
   go_enter Tryz.func165, Tryz.ntmps165
   go_wp2_with fail;refine (HT1.out _ H0.out.r.p).mono ?_;rintro e w1 ⟨rfl, hg1, hp1⟩;have H1 := hI (H0.out.next hg1 hp1);clear hg1 hp1;go_wp2_with fail;refine (HT2.out _ H1.out.r.p).mono ?_;rintro e w2 ⟨rfl, hg2, hp2⟩;have H2 := hI (H1.out.next hg2 hp2);clear hg2 hp2;obtain ⟨y0, y1, y2, y3, y4, y5, y6, y7, y8⟩ := keep.out _ _ _ _ H2.out;go_wp2_with fail;have H3 := hI (H2.out.node 19 ⟨#[]⟩ (by decide) (fs := [f]) (row := Z1.c) rfl (by simp) (LiesFL.one (H2.out.t (f, Z1.l) (by first | exact mC | simp [nullF, litF, vz]))) rfl);refine (HNO.out _ _).mono ?_;rintro e w4 ⟨rfl, hb4⟩;have H4 := hI (H3.out.low hb4);clear hb4;have x0 := H4.out.r.cells;rw [SZ1.out] at x0;have hltr4 := H4.out.lt;rw [SZ1.out] at hltr4;go_wp2_with fail;refine post9 Tryz.results165 rfl rfl ((SZ1.out ▸ H4.out.r.r.put9z _ _ _ _ _ _ _ _ _)) ?_;exact RetU.base (SZ1.out ▸ H4.out.close (by first | exact mC | simp))
  | false =>
   rw [if_neg (by decide)] at hm;obtain ⟨b, hb⟩ : ∃ b, sees L (⟨#[91]⟩ : ByteArray) σ = b := ⟨_, rfl⟩
   rw [hb] at hm;have HT3 := hI (fun W (h : PAt L gt C g W (σ)) => take_any hL (⟨#[91]⟩ : ByteArray) b hb h);clear hb
   cases b with
   | true =>
    rw [if_pos rfl] at hm;have HB1 := hI (fun (U : Nat → Prop) W d0 d1 d2 d3 d4 d5 d6 d7 d8 h hU hl => HB.out U W (adv σ) t τ d0 d1 d2 d3 d4 d5 d6 d7 d8 h hU hl hm);clear hm HB
    go_enter Tryz.func165, Tryz.ntmps165
    go_wp2_with fail;refine (HT1.out _ H0.out.r.p).mono ?_;rintro e w1 ⟨rfl, hg1, hp1⟩;have H1 := hI (H0.out.next hg1 hp1);clear hg1 hp1;go_wp2_with fail;refine (HT2.out _ H1.out.r.p).mono ?_;rintro e w2 ⟨rfl, hg2, hp2⟩;have H2 := hI (H1.out.next hg2 hp2);clear hg2 hp2;go_wp2_with fail;refine (HT3.out _ H2.out.r.p).mono ?_;rintro e w3 ⟨rfl, hg3, hp3⟩;have H3 := hI (H2.out.next hg3 hp3);clear hg3 hp3;obtain ⟨y0, y1, y2, y3, y4, y5, y6, y7, y8⟩ := keep.out _ _ _ _ H3.out;go_wp2_with fail;refine (HB1.out _ _ _ _ _ _ _ _ _ _ _ H3.out.r.p (Own.ne H3.out) (H3.out.t (f, Z1.l) (by simp))).mono ?_;rintro e w4 hZ;obtain ⟨Z2, rfl, hg4, hp4, hl4⟩ := fr3 hZ;have H4 := hI (H3.out.callU hg4 hp4 hl4);clear hg4 hp4 hl4;have x0 := H4.out.r.cells;rw [SZ1.out] at x0;have hltr4 := H4.out.lt;rw [SZ1.out] at hltr4;go_wp2_with fail;refine post9 Tryz.results165 rfl rfl ((SZ1.out ▸ H4.out.r.r.put9z _ _ _ _ _ _ _ _ _)) ?_;exact RetU.base (SZ1.out ▸ H4.out.close (by first | exact mC | simp))
   | false =>
    rw [if_neg (by decide)] at hm;injection hm with hm
    injection hm with h3 h4
    subst h3; subst h4;have HK1 := hI (HK.out 4 σ);have hsz := HSZ.out σ.k;generalize (tk L σ.k).s = S3 at HK1 hsz ⊢
    go_enter Tryz.func165, Tryz.ntmps165
    go_wp2_with fail;refine (HT1.out _ H0.out.r.p).mono ?_;rintro e w1 ⟨rfl, hg1, hp1⟩;have H1 := hI (H0.out.next hg1 hp1);clear hg1 hp1;go_wp2_with fail;refine (HT2.out _ H1.out.r.p).mono ?_;rintro e w2 ⟨rfl, hg2, hp2⟩;have H2 := hI (H1.out.next hg2 hp2);clear hg2 hp2;go_wp2_with fail;refine (HT3.out _ H2.out.r.p).mono ?_;rintro e w3 ⟨rfl, hg3, hp3⟩;have H3 := hI (H2.out.next hg3 hp3);clear hg3 hp3;go_upto_region 7 with (fail)
    obtain ⟨y0, y1, y2, y3, y4, y5, y6, y7, y8⟩ := keep.out _ _ _ _ H3.out
    go_region_held3 (fun X => X.cell? ⟨W.heap.size, 0, none⟩ = some (ι Z1.o) ∧ X.cell? ⟨W.heap.size, 1, none⟩ = some (.string Z1.t) ∧ X.cell? ⟨W.heap.size, 2, none⟩ = some (ι Z1.k) ∧ X.cell? ⟨W.heap.size, 3, none⟩ = some (ι Z1.j) ∧ X.cell? ⟨W.heap.size, 4, none⟩ = some (.string Z1.s) ∧ X.cell? ⟨W.heap.size, 5, none⟩ = some (.slice Z1.A Z1.a Z1.u) ∧ X.cell? ⟨W.heap.size, 6, none⟩ = some (.slice Z1.B Z1.b Z1.v) ∧ X.cell? ⟨W.heap.size, 7, none⟩ = some (.slice Z1.C Z1.e Z1.w) ∧ X.cell? ⟨W.heap.size, 8, none⟩ = some (.slice Z1.D Z1.d Z1.x))
     (first
      | with_reducible exact keep.out _ _ _ _ H3.out.drew
      | with_reducible exact keep.out _ _ _ _ H4.out
      | with_reducible exact keep.out _ _ _ _ H5.out
      | exact box9 ((H5.out.pbox hg0).far9 (by omega) _ _ _ _ _ _ _ _ _))
     (first
      | (go_at_call 14; (refine (HK1.out _ H3.out.drew.r.p).mono ?_); rintro e w4 ⟨rfl, hg4, hp4⟩; have H4 := hI (H3.out.drew.next hg4 hp4); clear hg4 hp4)
      | (go_at_call 169; (refine (HFD.out S3 hsz _ _ _ _ _ _ _ _ _ _ _ (Own.lt H4.out) (H4.out.t (f, Z1.l) (by simp))).mono ?_); rintro e w5 ⟨c20, c21, c22, c23, c24, c25, c26, c27, c28, rfl, hb5, hl5⟩; obtain ⟨Z2, rfl, rfl, rfl, rfl, rfl, rfl, rfl, rfl, rfl⟩ := fr9 hl5; have H5 := hI (H4.out.maker hb5 hl5); clear hb5 hl5; have x0 := H5.out.r.cells; rw [SZ1.out] at x0; have hltr5 := H5.out.lt; rw [SZ1.out] at hltr5))
    go_wp2_with fail;refine post9 Tryz.results165 rfl rfl ((SZ1.out ▸ H5.out.r.r.put9z _ _ _ _ _ _ _ _ _)) ?_;exact RetU.base (SZ1.out ▸ H5.out.close (by first | exact mC | simp))
def PoSt (L : List Fk) (call : Ru → PM) (gt C g : Nat) (w0 : World) (q : Nat) (t : Ft) (τ : PS) (gg : Nat) (wr : World) : Prop :=
 ∃ (n : Nat) (f : Ft) (σ : PS) (cs : Array Value), n ≤ gg ∧ postL L call (n + 1) f σ = some (t, τ) ∧ FSt L gt C g w0 wr σ q f cs
theorem postfix_any {L : List Fk} (hL : TokL L) {gt C g : Nat} {call : Ru → PM} (n : Nat) (hA : OkA L gt C g call) : OkF L gt C g 156 (fun σ => bnd (call .primary σ) fun f σ1 => postL L call n f σ1) := by
 intro W σ t τ hP hm;obtain ⟨f, σ1, h1, h2⟩ := bnd_some hm;obtain ⟨n, rfl⟩ : ∃ n', n = n' + 1 := by
  cases n with
  | zero => exact absurd h2 (by simp [postL])
  | succ n => exact ⟨n, rfl⟩
 have H0 := hI (RSt.start hP);have HC := hI (fun W h => hA .primary W _ f σ1 h h1);have HK := hI (fun W σ (h : PAt L gt C g W σ) => peek_any h);have HSE := hI (fun W σ x b (hb : sees L x σ = b) (h : PAt L gt C g W σ) => hb ▸ sees_any x h);have HSU := hI (fun (U : Nat → Prop) W σ f (t : Ft) (τ : PS) (d0 d1 d2 d3 d4 d5 d6 d7 d8 : Value) (h : PAt L gt C g W σ) (hU : ∀ b, U b → b < W.heap.size ∧ b ≠ g) (hl : LiesF W U f [d0, d1, d2, d3, d4, d5, d6, d7, d8]) (hm : suffixM L call f σ = some (t, τ)) => suffix_any hL hA W σ τ t h hU hl hm);have H2 := hI h2;clear hP hA hm h1 h2
 go_enter Tryz.func156, Tryz.ntmps156
 go_wp2_with fail;refine (HC.out _ H0.out.p).mono ?_;rintro e w1 ⟨c10, c11, c12, c13, c14, c15, c16, c17, c18, rfl, hg1, hp1, hl1⟩;have HT1 := hI (TreeAt.of (w0 := W) hl1 (by simp));obtain ⟨Z1, rfl, rfl, rfl, rfl, rfl, rfl, rfl, rfl, rfl⟩ := fr9 hl1;have H1 := hI (FSt.start (cs := Z1.c) (H0.out.next hg1 hp1) HT1.out);have HX : Hid (PoSt L call gt C g W w1.heap.size t τ n (w1.alloc (.cells Z1.c 29))) := hI ⟨n, f, σ1, _, Nat.le_refl _, H2.out, H1.out⟩;clear hg1 hp1 hl1 H1 H2 HT1;go_wp2_with fail;generalize w1.heap.size = q at HX ⊢
 go_loopg [6] n (fun gg s6 wr => Hid (PoSt L call gt C g W q t τ gg wr))
 case atStart => exact HX
 case round =>
  clear HX;obtain ⟨n', f', σk, cs, hn, hc, HF⟩ := hrel.out;clear hrel;have HF := hI HF;obtain ⟨Z1, rfl⟩ := fr1 (HF.out.form);have hlq := HF.out.q0;have hlt0 := HF.out.bx.lt;have hf0 := field_kind (tk L σk.k);rw [postL] at hc;dsimp only at hc
  by_cases h4 : (tk L σk.k).k = 4
  · have HSB : Hid (sufB L σk = true) := hI (by unfold sufB; rw [decide_eq_true h4]; rfl);have q4 : (((tk L σk.k).k : Int) == 4) = true := by rw [beq_iff_eq]; omega
    clear h4;rw [if_pos HSB.out] at hc;obtain ⟨u, σ2, h3, h4⟩ := bnd_some hc;have HSF := hI (fun (U : Nat → Prop) W d0 d1 d2 d3 d4 d5 d6 d7 d8 h hU hl => HSU.out U W σk f' u σ2 d0 d1 d2 d3 d4 d5 d6 d7 d8 h hU hl h3);have H4 := hI h4;clear hc h3 h4 HSB;go_wp2_with fail;refine (HK.out _ _ HF.out.s.p).mono ?_;rintro e w2 ⟨rfl, hb2⟩;have HF2 := hI (HF.out.low hb2);clear hb2;have y0 := box9 HF2.out.bx;have z0 := box9f HF2.out.bx;go_wp2_with fail;refine (HSF.out _ _ _ _ _ _ _ _ _ _ _ HF2.out.s.p (fun b hb => ⟨hb.2.1, by have := hb.1; have := HF2.out.s.g0; omega⟩) HF2.out.t).mono ?_;rintro e w8 hZ;obtain ⟨Z2, rfl, hg8, hp8, hl8⟩ := fr3 hZ;have HF8 := hI (HF2.out.next hg8 hp8);have HT8 : Hid (LiesF w8 (fun b => W.heap.size < b ∧ b < w8.heap.size ∧ ¬ b = q) u Z2.l) := hI (LiesF.move hl8 fun b hb => ⟨hb.elim (fun h => ⟨h.1, nT h.2.1 hg8.size, h.2.2⟩) (fun h => ⟨nT HF2.out.s.lt h.1, h.2, by have := h.1; have := HF2.out.bx.lt; omega⟩), rfl⟩);have HF9 := hI (HF8.out.put HT8.out);have v0 := box9 HF8.out.bx;have x0 := box9f HF8.out.bx;obtain ⟨n2, hn2⟩ : ∃ n2, n' = n2 + 1 := by
     cases n' with
     | zero => exact absurd H4.out (by simp [postL])
     | succ n => exact ⟨n, rfl⟩
    subst hn2;clear hg8 hp8 hl8;go_wp2_with fail
    go_roundg n2
    case measure => omega
    case rel => exact hI ⟨n2, u, σ2, _, Nat.le_refl _, H4.out, HF9.out⟩
  have q4 : (((tk L σk.k).k : Int) == 4) = false := bF.2 (by omega);obtain ⟨b1, hb1⟩ : ∃ b, sees L (⟨#[46]⟩ : ByteArray) σk = b := ⟨_, rfl⟩
  have HB1 := hI hb1
  cases b1 with
  | true =>
   have HSB : Hid (sufB L σk = true) := hI (by unfold sufB; rw [hb1]; simp);clear h4 hb1;rw [if_pos HSB.out] at hc;obtain ⟨u, σ2, h3, h4⟩ := bnd_some hc;have HSF := hI (fun (U : Nat → Prop) W d0 d1 d2 d3 d4 d5 d6 d7 d8 h hU hl => HSU.out U W σk f' u σ2 d0 d1 d2 d3 d4 d5 d6 d7 d8 h hU hl h3);have H4 := hI h4;clear hc h3 h4 HSB;go_wp2_with fail;refine (HK.out _ _ HF.out.s.p).mono ?_;rintro e w2 ⟨rfl, hb2⟩;have HF2 := hI (HF.out.low hb2);clear hb2;go_wp2_with fail;refine (HSE.out _ _ _ _ HB1.out HF2.out.s.p).mono ?_;rintro e w3 ⟨rfl, hb3⟩;have HF3 := hI (HF2.out.low hb3);clear hb3;have y0 := box9 HF3.out.bx;have z0 := box9f HF3.out.bx;go_wp2_with fail;refine (HSF.out _ _ _ _ _ _ _ _ _ _ _ HF3.out.s.p (fun b hb => ⟨hb.2.1, by have := hb.1; have := HF3.out.s.g0; omega⟩) HF3.out.t).mono ?_;rintro e w8 hZ;obtain ⟨Z2, rfl, hg8, hp8, hl8⟩ := fr3 hZ;have HF8 := hI (HF3.out.next hg8 hp8);have HT8 : Hid (LiesF w8 (fun b => W.heap.size < b ∧ b < w8.heap.size ∧ ¬ b = q) u Z2.l) := hI (LiesF.move hl8 fun b hb => ⟨hb.elim (fun h => ⟨h.1, nT h.2.1 hg8.size, h.2.2⟩) (fun h => ⟨nT HF3.out.s.lt h.1, h.2, by have := h.1; have := HF3.out.bx.lt; omega⟩), rfl⟩);have HF9 := hI (HF8.out.put HT8.out);have v0 := box9 HF8.out.bx;have x0 := box9f HF8.out.bx;obtain ⟨n2, hn2⟩ : ∃ n2, n' = n2 + 1 := by
    cases n' with
    | zero => exact absurd H4.out (by simp [postL])
    | succ n => exact ⟨n, rfl⟩
   subst hn2;clear hg8 hp8 hl8;go_wp2_with fail
   go_roundg n2
   case measure => omega
   case rel => exact hI ⟨n2, u, σ2, _, Nat.le_refl _, H4.out, HF9.out⟩
  | false =>
   obtain ⟨b2, hb2⟩ : ∃ b, sees L (⟨#[91]⟩ : ByteArray) σk = b := ⟨_, rfl⟩
   have HB2 := hI hb2
   cases b2 with
   | true =>
    have HSB : Hid (sufB L σk = true) := hI (by unfold sufB; rw [hb1, hb2]; simp);clear h4 hb1 hb2;rw [if_pos HSB.out] at hc;obtain ⟨u, σ2, h3, h4⟩ := bnd_some hc;have HSF := hI (fun (U : Nat → Prop) W d0 d1 d2 d3 d4 d5 d6 d7 d8 h hU hl => HSU.out U W σk f' u σ2 d0 d1 d2 d3 d4 d5 d6 d7 d8 h hU hl h3);have H4 := hI h4;clear hc h3 h4 HSB;go_wp2_with fail;refine (HK.out _ _ HF.out.s.p).mono ?_;rintro e w2 ⟨rfl, hb2⟩;have HF2 := hI (HF.out.low hb2);clear hb2;go_wp2_with fail;refine (HSE.out _ _ _ _ HB1.out HF2.out.s.p).mono ?_;rintro e w3 ⟨rfl, hb3⟩;have HF3 := hI (HF2.out.low hb3);clear hb3;go_wp2_with fail;refine (HSE.out _ _ _ _ HB2.out HF3.out.s.p).mono ?_;rintro e w4 ⟨rfl, hb4⟩;have HF4 := hI (HF3.out.low hb4);clear hb4;have y0 := box9 HF4.out.bx;have z0 := box9f HF4.out.bx;go_wp2_with fail;refine (HSF.out _ _ _ _ _ _ _ _ _ _ _ HF4.out.s.p (fun b hb => ⟨hb.2.1, by have := hb.1; have := HF4.out.s.g0; omega⟩) HF4.out.t).mono ?_;rintro e w8 hZ;obtain ⟨Z2, rfl, hg8, hp8, hl8⟩ := fr3 hZ;have HF8 := hI (HF4.out.next hg8 hp8);have HT8 : Hid (LiesF w8 (fun b => W.heap.size < b ∧ b < w8.heap.size ∧ ¬ b = q) u Z2.l) := hI (LiesF.move hl8 fun b hb => ⟨hb.elim (fun h => ⟨h.1, nT h.2.1 hg8.size, h.2.2⟩) (fun h => ⟨nT HF4.out.s.lt h.1, h.2, by have := h.1; have := HF4.out.bx.lt; omega⟩), rfl⟩);have HF9 := hI (HF8.out.put HT8.out);have v0 := box9 HF8.out.bx;have x0 := box9f HF8.out.bx;obtain ⟨n2, hn2⟩ : ∃ n2, n' = n2 + 1 := by
     cases n' with
     | zero => exact absurd H4.out (by simp [postL])
     | succ n => exact ⟨n, rfl⟩
    subst hn2;clear hg8 hp8 hl8;go_wp2_with fail
    go_roundg n2
    case measure => omega
    case rel => exact hI ⟨n2, u, σ2, _, Nat.le_refl _, H4.out, HF9.out⟩
   | false =>
    obtain ⟨b3, hb3⟩ : ∃ b, sees L (⟨#[63]⟩ : ByteArray) σk = b := ⟨_, rfl⟩
    have HB3 := hI hb3
    cases b3 with
    | true =>
     have HSB : Hid (sufB L σk = true) := hI (by unfold sufB; rw [hb1, hb2, hb3]; simp);clear h4 hb1 hb2 hb3;rw [if_pos HSB.out] at hc;obtain ⟨u, σ2, h3, h4⟩ := bnd_some hc;have HSF := hI (fun (U : Nat → Prop) W d0 d1 d2 d3 d4 d5 d6 d7 d8 h hU hl => HSU.out U W σk f' u σ2 d0 d1 d2 d3 d4 d5 d6 d7 d8 h hU hl h3);have H4 := hI h4;clear hc h3 h4 HSB;go_wp2_with fail;refine (HK.out _ _ HF.out.s.p).mono ?_;rintro e w2 ⟨rfl, hb2⟩;have HF2 := hI (HF.out.low hb2);clear hb2;go_wp2_with fail;refine (HSE.out _ _ _ _ HB1.out HF2.out.s.p).mono ?_;rintro e w3 ⟨rfl, hb3⟩;have HF3 := hI (HF2.out.low hb3);clear hb3;go_wp2_with fail;refine (HSE.out _ _ _ _ HB2.out HF3.out.s.p).mono ?_;rintro e w4 ⟨rfl, hb4⟩;have HF4 := hI (HF3.out.low hb4);clear hb4;go_wp2_with fail;refine (HSE.out _ _ _ _ HB3.out HF4.out.s.p).mono ?_;rintro e w5 ⟨rfl, hb5⟩;have HF5 := hI (HF4.out.low hb5);clear hb5;have y0 := box9 HF5.out.bx;have z0 := box9f HF5.out.bx;go_wp2_with fail;refine (HSF.out _ _ _ _ _ _ _ _ _ _ _ HF5.out.s.p (fun b hb => ⟨hb.2.1, by have := hb.1; have := HF5.out.s.g0; omega⟩) HF5.out.t).mono ?_;rintro e w8 hZ;obtain ⟨Z2, rfl, hg8, hp8, hl8⟩ := fr3 hZ;have HF8 := hI (HF5.out.next hg8 hp8);have HT8 : Hid (LiesF w8 (fun b => W.heap.size < b ∧ b < w8.heap.size ∧ ¬ b = q) u Z2.l) := hI (LiesF.move hl8 fun b hb => ⟨hb.elim (fun h => ⟨h.1, nT h.2.1 hg8.size, h.2.2⟩) (fun h => ⟨nT HF5.out.s.lt h.1, h.2, by have := h.1; have := HF5.out.bx.lt; omega⟩), rfl⟩);have HF9 := hI (HF8.out.put HT8.out);have v0 := box9 HF8.out.bx;have x0 := box9f HF8.out.bx;obtain ⟨n2, hn2⟩ : ∃ n2, n' = n2 + 1 := by
      cases n' with
      | zero => exact absurd H4.out (by simp [postL])
      | succ n => exact ⟨n, rfl⟩
     subst hn2;clear hg8 hp8 hl8;go_wp2_with fail
     go_roundg n2
     case measure => omega
     case rel => exact hI ⟨n2, u, σ2, _, Nat.le_refl _, H4.out, HF9.out⟩
    | false =>
     have hsb : ¬ sufB L σk = true := by unfold sufB; rw [hb1, hb2, hb3, decide_eq_false h4]; decide
     rw [if_neg hsb] at hc;injection hc with hc
     injection hc with h5 h6
     subst h5; subst h6;clear h4 hb1 hb2 hb3 hsb;go_wp2_with fail;refine (HK.out _ _ HF.out.s.p).mono ?_;rintro e w2 ⟨rfl, hb2⟩;have HF2 := hI (HF.out.low hb2);clear hb2;go_wp2_with fail;refine (HSE.out _ _ _ _ HB1.out HF2.out.s.p).mono ?_;rintro e w3 ⟨rfl, hb3⟩;have HF3 := hI (HF2.out.low hb3);clear hb3;go_wp2_with fail;refine (HSE.out _ _ _ _ HB2.out HF3.out.s.p).mono ?_;rintro e w4 ⟨rfl, hb4⟩;have HF4 := hI (HF3.out.low hb4);clear hb4;go_wp2_with fail;refine (HSE.out _ _ _ _ HB3.out HF4.out.s.p).mono ?_;rintro e w5 ⟨rfl, hb5⟩;have HF5 := hI (HF4.out.low hb5);clear hb5;have y0 := box9 HF5.out.bx;have x0 := HF5.out.s.cells;go_wp2_with fail
     (try simp only [Exit.inBlock, Exit.then])
     go_wp2_with fail;refine post9 Tryz.results156 rfl rfl (HF5.out.s.r.put9z _ _ _ _ _ _ _ _ _) ?_;exact HF5.out.s.close HF5.out.tree
