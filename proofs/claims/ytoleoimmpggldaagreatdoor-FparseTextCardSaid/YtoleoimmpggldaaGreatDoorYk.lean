import Derived.Test.YtoleoimmpggldaaGreatDoorYi
import Derived.Test.YtoleoimmpggldaaGreatDoorYe
import Derived.Test.YtoleoimmpggldaaGreatDoorYg
import Derived.Test.YtoleoimmpggldaaGreatDoorYc
import Derived.Test.YtoleoimmpggldaaGreatDoorYf
set_option linter.unusedVariables false
set_option linter.unusedSectionVars false
set_option linter.unusedSimpArgs false
set_option maxHeartbeats 10000000
set_option maxRecDepth 100000
namespace Go.Proofs.YtoleoimmpggldaaGreatDoor
open Go.RowKit
section
variable {L : List Fk} {call : Ru → PM} {n : Nat} {t : Ft} {σ τ : PS}
end
theorem written_any {L : List Fk} (hL : TokL L) {gt C g : Nat} {call : Ru → PM} (n : Nat) (hn : n ≤ 400000) (hA : OkA L gt C g call) (hFE : ∀ (W : World) (σ τ : PS) (t : Ft), PAt L gt C g W σ → foreachM L call σ = some (t, τ) → Calls Tryz.prog 192 #[.pointer (some ⟨g, 0, none⟩)] W (RetF L gt C g W t τ)) (t0 : Fk) (W : World) (σ τ : PS) (t : Ft) (hP : PAt L gt C g W σ) (hm : writtenM L call n t0 σ = some (t, τ)) :
 Calls Tryz.prog 175 #[.pointer (some ⟨g, 0, none⟩), .agg #[ι t0.k, ι t0.o, .string t0.s, ι t0.i]] W (RetF L gt C g W t τ) := by
 have H0 := hI (St.begin (hP.alloc (.cells #[ι t0.k, ι t0.o, .string t0.s, ι t0.i] 41)));have SZ1 := hI (show (W.alloc (.cells #[ι t0.k, ι t0.o, .string t0.s, ι t0.i] 41)).heap.size = W.heap.size + 1 by simp);have hg0 := hP.glt;obtain ⟨k, o, s, i⟩ := t0;dsimp only at H0 SZ1 ⊢;unfold writtenM at hm;dsimp only at hm;clear hP
 by_cases e0 : s = (⟨#[46]⟩ : ByteArray)
 · rw [if_pos e0] at hm;have r0 := streqc s [46];rw [decide_eq_true e0] at r0;clear e0;have HC := hI (fun W (h : PAt L gt C g W σ) => ppoint_any hL W σ τ t h hm);clear hA hm hFE hn
   go_enter Tryz.func175, Tryz.ntmps175
   go_wp2_with fail;refine (HC.out _ H0.out.r.p).mono ?_;rintro e w1 hZ;obtain ⟨Z1, rfl, hg1, hp1, hl1⟩ := fr3 hZ;have H1 := hI (H0.out.call hg1 hp1 hl1);clear hg1 hp1 hl1;have x0 := H1.out.r.cells;rw [SZ1.out] at x0;have hltr := H1.out.lt;rw [SZ1.out] at hltr;go_wp2_with fail;refine post9 Tryz.results175 rfl rfl (SZ1.out ▸ H1.out.r.r.put9z _ _ _ _ _ _ _ _ _) ?_;exact retF_of (RetU.base (SZ1.out ▸ H1.out.close (by first | exact mC | simp)))
 rw [if_neg e0] at hm;have r0 := streqc s [46];rw [decide_eq_false e0] at r0;clear e0
 by_cases e1 : s = (⟨#[46, 46]⟩ : ByteArray)
 · rw [if_pos e1] at hm;have r1 := streqc s [46, 46];rw [decide_eq_true e1] at r1;clear e1;injection hm with hm
   injection hm with h3 h4
   subst h3; subst h4;clear hA hFE hn
   go_enter Tryz.func175, Tryz.ntmps175
   go_wp2_with fail;refine (node_any 2 none 0 0 _).mono ?_;rintro e w1 ⟨rfl, hb1⟩;have H1 := hI ((H0.out.low hb1).leaf 2 ⟨#[]⟩ 0 0 ⟨#[]⟩ (by decide) (by decide));clear hb1;have x0 := H1.out.r.cells;rw [SZ1.out] at x0;have hltr := H1.out.lt;rw [SZ1.out] at hltr;go_wp2_with fail;refine post9 Tryz.results175 rfl rfl (SZ1.out ▸ H1.out.r.r.put9z _ _ _ _ _ _ _ _ _) ?_;exact retF_of (RetU.base (SZ1.out ▸ H1.out.close (by first | exact mC | simp)))
 rw [if_neg e1] at hm;have r1 := streqc s [46, 46];rw [decide_eq_false e1] at r1;clear e1
 by_cases e2 : s = (⟨#[116, 114, 117, 101]⟩ : ByteArray)
 · rw [if_pos e2] at hm;have r2 := streqc s [116, 114, 117, 101];rw [decide_eq_true e2] at r2;clear e2;injection hm with hm
   injection hm with h3 h4
   subst h3; subst h4;clear hA hFE hn
   go_enter Tryz.func175, Tryz.ntmps175
   go_wp2_with fail;refine (lit_any 2 0 ⟨#[]⟩ _).mono ?_;rintro e w1 ⟨rfl, hb1⟩;have H1 := hI ((H0.out.low hb1).leaf 7 ⟨#[]⟩ 2 0 ⟨#[]⟩ (by decide) (by decide));clear hb1;have x0 := H1.out.r.cells;rw [SZ1.out] at x0;have hltr := H1.out.lt;rw [SZ1.out] at hltr;go_wp2_with fail;refine post9 Tryz.results175 rfl rfl (SZ1.out ▸ H1.out.r.r.put9z _ _ _ _ _ _ _ _ _) ?_;exact retF_of (RetU.base (SZ1.out ▸ H1.out.close (by first | exact mC | simp)))
 rw [if_neg e2] at hm;have r2 := streqc s [116, 114, 117, 101];rw [decide_eq_false e2] at r2;clear e2
 by_cases e3 : s = (⟨#[102, 97, 108, 115, 101]⟩ : ByteArray)
 · rw [if_pos e3] at hm;have r3 := streqc s [102, 97, 108, 115, 101];rw [decide_eq_true e3] at r3;clear e3;injection hm with hm
   injection hm with h3 h4
   subst h3; subst h4;clear hA hFE hn
   go_enter Tryz.func175, Tryz.ntmps175
   go_wp2_with fail;refine (lit_any 1 0 ⟨#[]⟩ _).mono ?_;rintro e w1 ⟨rfl, hb1⟩;have H1 := hI ((H0.out.low hb1).leaf 7 ⟨#[]⟩ 1 0 ⟨#[]⟩ (by decide) (by decide));clear hb1;have x0 := H1.out.r.cells;rw [SZ1.out] at x0;have hltr := H1.out.lt;rw [SZ1.out] at hltr;go_wp2_with fail;refine post9 Tryz.results175 rfl rfl (SZ1.out ▸ H1.out.r.r.put9z _ _ _ _ _ _ _ _ _) ?_;exact retF_of (RetU.base (SZ1.out ▸ H1.out.close (by first | exact mC | simp)))
 rw [if_neg e3] at hm;have r3 := streqc s [102, 97, 108, 115, 101];rw [decide_eq_false e3] at r3;clear e3
 by_cases e4 : s = (⟨#[110, 117, 108, 108]⟩ : ByteArray)
 · rw [if_pos e4] at hm;have r4 := streqc s [110, 117, 108, 108];rw [decide_eq_true e4] at r4;clear e4;injection hm with hm
   injection hm with h3 h4
   subst h3; subst h4;clear hA hFE hn
   go_enter Tryz.func175, Tryz.ntmps175
   go_wp2_with fail;refine (null_any _).mono ?_;rintro e w1 ⟨rfl, hb1⟩;have H1 := hI ((H0.out.low hb1).leaf 7 ⟨#[]⟩ 0 0 ⟨#[]⟩ (by decide) (by decide));clear hb1;have x0 := H1.out.r.cells;rw [SZ1.out] at x0;have hltr := H1.out.lt;rw [SZ1.out] at hltr;go_wp2_with fail;refine post9 Tryz.results175 rfl rfl (SZ1.out ▸ H1.out.r.r.put9z _ _ _ _ _ _ _ _ _) ?_;exact retF_of (RetU.base (SZ1.out ▸ H1.out.close (by first | exact mC | simp)))
 rw [if_neg e4] at hm;have r4 := streqc s [110, 117, 108, 108];rw [decide_eq_false e4] at r4;clear e4
 by_cases e5 : s = (⟨#[40]⟩ : ByteArray)
 · rw [if_pos e5] at hm;have r5 := streqc s [40];rw [decide_eq_true e5] at r5;clear e5;have HC := hI (fun W (h : PAt L gt C g W σ) => before_any hL hA (⟨#[41]⟩ : ByteArray) W σ τ t h hm);clear hA hm hFE hn
   go_enter Tryz.func175, Tryz.ntmps175
   go_wp2_with fail;refine (HC.out _ H0.out.r.p).mono ?_;rintro e w1 hZ;obtain ⟨Z1, rfl, hg1, hp1, hl1⟩ := fr3 hZ;have H1 := hI (H0.out.call hg1 hp1 hl1);clear hg1 hp1 hl1;have x0 := H1.out.r.cells;rw [SZ1.out] at x0;have hltr := H1.out.lt;rw [SZ1.out] at hltr;go_wp2_with fail;refine post9 Tryz.results175 rfl rfl (SZ1.out ▸ H1.out.r.r.put9z _ _ _ _ _ _ _ _ _) ?_;exact retF_of (RetU.base (SZ1.out ▸ H1.out.close (by first | exact mC | simp)))
 rw [if_neg e5] at hm;have r5 := streqc s [40];rw [decide_eq_false e5] at r5;clear e5
 by_cases e6 : s = (⟨#[91]⟩ : ByteArray)
 · rw [if_pos e6] at hm;have r6 := streqc s [91];rw [decide_eq_true e6] at r6;clear e6;have HC := hI (fun W (h : PAt L gt C g W σ) => array_any hL hA W σ τ t h hm);clear hA hm hFE hn
   go_enter Tryz.func175, Tryz.ntmps175
   go_wp2_with fail;refine (HC.out _ H0.out.r.p).mono ?_;rintro e w1 hZ;obtain ⟨Z1, rfl, hg1, hp1, hl1⟩ := fr3 hZ;have H1 := hI (H0.out.call hg1 hp1 hl1);clear hg1 hp1 hl1;have x0 := H1.out.r.cells;rw [SZ1.out] at x0;have hltr := H1.out.lt;rw [SZ1.out] at hltr;go_wp2_with fail;refine post9 Tryz.results175 rfl rfl (SZ1.out ▸ H1.out.r.r.put9z _ _ _ _ _ _ _ _ _) ?_;exact retF_of (RetU.base (SZ1.out ▸ H1.out.close (by first | exact mC | simp)))
 rw [if_neg e6] at hm;have r6 := streqc s [91];rw [decide_eq_false e6] at r6;clear e6
 by_cases e7 : s = (⟨#[123]⟩ : ByteArray)
 · rw [if_pos e7] at hm;have r7 := streqc s [123];rw [decide_eq_true e7] at r7;clear e7;have HC := hI (fun W (h : PAt L gt C g W σ) => object_any hL n hn hA W σ τ t h hm);clear hA hm hFE hn
   go_enter Tryz.func175, Tryz.ntmps175
   go_wp2_with fail;refine (HC.out _ H0.out.r.p).mono ?_;rintro e w1 hZ;obtain ⟨Z1, rfl, hg1, hp1, hl1⟩ := fr3 hZ;have H1 := hI (H0.out.call hg1 hp1 hl1);clear hg1 hp1 hl1;have x0 := H1.out.r.cells;rw [SZ1.out] at x0;have hltr := H1.out.lt;rw [SZ1.out] at hltr;go_wp2_with fail;refine post9 Tryz.results175 rfl rfl (SZ1.out ▸ H1.out.r.r.put9z _ _ _ _ _ _ _ _ _) ?_;exact retF_of (RetU.base (SZ1.out ▸ H1.out.close (by first | exact mC | simp)))
 rw [if_neg e7] at hm;have r7 := streqc s [123];rw [decide_eq_false e7] at r7;clear e7
 by_cases e8 : s = (⟨#[105, 102]⟩ : ByteArray)
 · rw [if_pos e8] at hm;have r8 := streqc s [105, 102];rw [decide_eq_true e8] at r8;clear e8;have HC := hI (fun W (h : PAt L gt C g W σ) => hA .condition W σ t τ h hm);clear hA hm hFE hn
   go_enter Tryz.func175, Tryz.ntmps175
   go_wp2_with fail;refine (HC.out _ H0.out.r.p).mono ?_;rintro e w1 hZ;obtain ⟨Z1, rfl, hg1, hp1, hl1⟩ := fr3 hZ;have H1 := hI (H0.out.call hg1 hp1 hl1);clear hg1 hp1 hl1;have x0 := H1.out.r.cells;rw [SZ1.out] at x0;have hltr := H1.out.lt;rw [SZ1.out] at hltr;go_wp2_with fail;refine post9 Tryz.results175 rfl rfl (SZ1.out ▸ H1.out.r.r.put9z _ _ _ _ _ _ _ _ _) ?_;exact retF_of (RetU.base (SZ1.out ▸ H1.out.close (by first | exact mC | simp)))
 rw [if_neg e8] at hm;have r8 := streqc s [105, 102];rw [decide_eq_false e8] at r8;clear e8
 by_cases e9 : s = (⟨#[116, 114, 121]⟩ : ByteArray)
 · rw [if_pos e9] at hm;have r9 := streqc s [116, 114, 121];rw [decide_eq_true e9] at r9;clear e9;have HC := hI (fun W (h : PAt L gt C g W σ) => attempt_any hL hA W σ τ t h hm);clear hA hm hFE hn
   go_enter Tryz.func175, Tryz.ntmps175
   go_wp2_with fail;refine (HC.out _ H0.out.r.p).mono ?_;rintro e w1 hZ;obtain ⟨Z1, rfl, hg1, hp1, hl1⟩ := fr3 hZ;have H1 := hI (H0.out.call hg1 hp1 hl1);clear hg1 hp1 hl1;have x0 := H1.out.r.cells;rw [SZ1.out] at x0;have hltr := H1.out.lt;rw [SZ1.out] at hltr;go_wp2_with fail;refine post9 Tryz.results175 rfl rfl (SZ1.out ▸ H1.out.r.r.put9z _ _ _ _ _ _ _ _ _) ?_;exact retF_of (RetU.base (SZ1.out ▸ H1.out.close (by first | exact mC | simp)))
 rw [if_neg e9] at hm;have r9 := streqc s [116, 114, 121];rw [decide_eq_false e9] at r9;clear e9
 by_cases e10 : s = (⟨#[114, 101, 100, 117, 99, 101]⟩ : ByteArray)
 · rw [if_pos e10] at hm;have r10 := streqc s [114, 101, 100, 117, 99, 101];rw [decide_eq_true e10] at r10;clear e10;have HC := hI (fun W (h : PAt L gt C g W σ) => reduce_any hL hA W σ τ t h hm);clear hA hm hFE hn
   go_enter Tryz.func175, Tryz.ntmps175
   go_wp2_with fail;refine (HC.out _ H0.out.r.p).mono ?_;rintro e w1 hZ;obtain ⟨Z1, rfl, hg1, hp1, hl1⟩ := fr3 hZ;have H1 := hI (H0.out.call hg1 hp1 hl1);clear hg1 hp1 hl1;have x0 := H1.out.r.cells;rw [SZ1.out] at x0;have hltr := H1.out.lt;rw [SZ1.out] at hltr;go_wp2_with fail;refine post9 Tryz.results175 rfl rfl (SZ1.out ▸ H1.out.r.r.put9z _ _ _ _ _ _ _ _ _) ?_;exact retF_of (RetU.base (SZ1.out ▸ H1.out.close (by first | exact mC | simp)))
 rw [if_neg e10] at hm;have r10 := streqc s [114, 101, 100, 117, 99, 101];rw [decide_eq_false e10] at r10;clear e10
 by_cases e11 : s = (⟨#[102, 111, 114, 101, 97, 99, 104]⟩ : ByteArray)
 · rw [if_pos e11] at hm;have r11 := streqc s [102, 111, 114, 101, 97, 99, 104];rw [decide_eq_true e11] at r11;clear e11;have HC := hI (fun W (h : PAt L gt C g W σ) => hFE W σ τ t h hm);clear hA hm hFE hn
   go_enter Tryz.func175, Tryz.ntmps175
   go_wp2_with fail;refine (HC.out _ H0.out.r.p).mono ?_;rintro e w1 hZ;obtain ⟨Z1, rfl, hg1, hp1, hl1⟩ := fr3 hZ;have H1 := hI (H0.out.call hg1 hp1 hl1);clear hg1 hp1 hl1;have x0 := H1.out.r.cells;rw [SZ1.out] at x0;have hltr := H1.out.lt;rw [SZ1.out] at hltr;go_wp2_with fail;refine post9 Tryz.results175 rfl rfl (SZ1.out ▸ H1.out.r.r.put9z _ _ _ _ _ _ _ _ _) ?_;exact retF_of (RetU.base (SZ1.out ▸ H1.out.close (by first | exact mC | simp)))
 rw [if_neg e11] at hm;have r11 := streqc s [102, 111, 114, 101, 97, 99, 104];rw [decide_eq_false e11] at r11;clear e11
 by_cases e12 : s = (⟨#[98, 114, 101, 97, 107]⟩ : ByteArray)
 · rw [if_pos e12] at hm;have r12 := streqc s [98, 114, 101, 97, 107];rw [decide_eq_true e12] at r12;clear e12;have HSZ := hI (hL.size σ.k);injection hm with hm
   injection hm with h3 h4
   subst h3; subst h4;have HK := hI (fun W (h : PAt L gt C g W σ) => kind_any hL 3 h);generalize (tk L σ.k).s = S3 at HK HSZ ⊢;clear hA hFE hn
   go_enter Tryz.func175, Tryz.ntmps175
   go_wp2_with fail;refine (HK.out _ H0.out.r.p).mono ?_;rintro e w1 ⟨rfl, hg1, hp1⟩;have H1 := hI ((H0.out.next hg1 hp1).leaf 23 S3 0 0 ⟨#[]⟩ (by have := HSZ.out; omega) (by decide));clear hg1 hp1;have x0 := H1.out.r.cells;rw [SZ1.out] at x0;have hltr := H1.out.lt;rw [SZ1.out] at hltr;go_wp2_with fail;refine post9 Tryz.results175 rfl rfl (SZ1.out ▸ H1.out.r.r.put9z _ _ _ _ _ _ _ _ _) ?_;exact retF_of (RetU.base (SZ1.out ▸ H1.out.close (by first | exact mC | simp)))
 rw [if_neg e12] at hm;have r12 := streqc s [98, 114, 101, 97, 107];rw [decide_eq_false e12] at r12;clear e12;injection hm with hm
 injection hm with h3 h4
 subst h3; subst h4;have HF := hI (fun t W (h : PAt L gt C g W σ) => pfail_any hL t h);clear hA hFE hn
 go_enter Tryz.func175, Tryz.ntmps175
 go_wp2_with fail;refine (HF.out ⟨k, o, s, i⟩ _ H0.out.r.p).mono ?_;rintro e w1 ⟨rfl, hg1, hp1⟩;have H1 := hI ((H0.out.next hg1 hp1).leaf 0 ⟨#[]⟩ 0 0 ⟨#[]⟩ (by decide) (by decide));clear hg1 hp1;have x0 := H1.out.r.cells;rw [SZ1.out] at x0;have hltr := H1.out.lt;rw [SZ1.out] at hltr;go_wp2_with fail;refine post9 Tryz.results175 rfl rfl (SZ1.out ▸ H1.out.r.r.put9z _ _ _ _ _ _ _ _ _) ?_;exact retF_of (RetU.base (SZ1.out ▸ H1.out.close (by first | exact mC | simp)))
theorem operand_any {L : List Fk} (hL : TokL L) {gt C g : Nat} {call : Ru → PM} (n : Nat) (hn : n ≤ 400000) (hA : OkA L gt C g call) : OkF L gt C g 149 (operM L call n) := by
 intro W σ t τ hP hm;have H0 := hI (St.begin hP);unfold operM at hm;obtain ⟨b, hb⟩ : ∃ b, sees L (⟨#[108, 97, 98, 101, 108]⟩ : ByteArray) σ = b := ⟨_, rfl⟩
 rw [hb] at hm;have HT := hI (fun W (h : PAt L gt C g W σ) => take_any hL (⟨#[108, 97, 98, 101, 108]⟩ : ByteArray) b hb h);clear hP hb
 cases b with
 | true =>
  rw [if_pos rfl] at hm;have HC := hI (fun W (h : PAt L gt C g W (adv σ)) => scope_any hL hA (S := noS) 22 [] none 0 [] rfl (by omega) W _ τ t h (fun b hb => hb.elim) (fun _ => rfl) (Rs.nil _ _ _) (LiesFL.nil _ _) (fun u hu => by simp at hu) hm);clear hA hm hn
  go_enter Tryz.func149, Tryz.ntmps149
  go_wp2_with fail;refine (HT.out _ H0.out.r.p).mono ?_;rintro e w1 ⟨rfl, hg1, hp1⟩;have H1 := hI (H0.out.next hg1 hp1);clear hg1 hp1;go_wp2_with fail;refine (HC.out _ H1.out.r.p).mono ?_;rintro e w2 hru;obtain ⟨c10, c11, c12, c13, c14, c15, c16, c17, c18, rfl, hg2, hp2, hl2⟩ := retF_of hru;obtain ⟨Z1, rfl, rfl, rfl, rfl, rfl, rfl, rfl, rfl, rfl⟩ := fr9 hl2;have H2 := hI (H1.out.call hg2 hp2 hl2);clear hru hg2 hp2 hl2;have x0 := H2.out.r.cells;go_wp2_with fail;refine post9 Tryz.results149 rfl rfl (H2.out.r.r.put9z _ _ _ _ _ _ _ _ _) ?_;exact retF_of (H2.out.close (by first | exact mC | simp))
 | false =>
  rw [if_neg (by decide)] at hm;obtain ⟨b, hb⟩ : ∃ b, sees L (⟨#[100, 101, 102]⟩ : ByteArray) σ = b := ⟨_, rfl⟩
  rw [hb] at hm;have HT2 := hI (fun W (h : PAt L gt C g W σ) => take_any hL (⟨#[100, 101, 102]⟩ : ByteArray) b hb h);clear hb
  cases b with
  | true =>
   rw [if_pos rfl] at hm;have HC := hI (fun W (h : PAt L gt C g W (adv σ)) => defn_any hL n (by omega) hA W _ τ t h hm);clear hA hm hn
   go_enter Tryz.func149, Tryz.ntmps149
   go_wp2_with fail;refine (HT.out _ H0.out.r.p).mono ?_;rintro e w1 ⟨rfl, hg1, hp1⟩;have H1 := hI (H0.out.next hg1 hp1);clear hg1 hp1;go_wp2_with fail;refine (HT2.out _ H1.out.r.p).mono ?_;rintro e w2 ⟨rfl, hg2, hp2⟩;have H2 := hI (H1.out.next hg2 hp2);clear hg2 hp2;go_wp2_with fail;refine (HC.out _ H2.out.r.p).mono ?_;rintro e w3 hZ;obtain ⟨Z1, rfl, hg3, hp3, hl3⟩ := fr3 hZ;have H3 := hI (H2.out.call hg3 hp3 hl3);clear hg3 hp3 hl3;have x0 := H3.out.r.cells;go_wp2_with fail;refine post9 Tryz.results149 rfl rfl (H3.out.r.r.put9z _ _ _ _ _ _ _ _ _) ?_;exact retF_of (H3.out.close (by first | exact mC | simp))
  | false =>
   rw [if_neg (by decide)] at hm;obtain ⟨f, σ1, h1, hm⟩ := bnd_some hm;have HC := hI (fun W h => hA .post W _ f σ1 h h1);obtain ⟨b, hb⟩ : ∃ b, sees L (⟨#[97, 115]⟩ : ByteArray) σ1 = b := ⟨_, rfl⟩
   rw [hb] at hm;have HT3 := hI (fun W (h : PAt L gt C g W σ1) => take_any hL (⟨#[97, 115]⟩ : ByteArray) b hb h);clear hb h1
   cases b with
   | false =>
    rw [if_neg (by decide)] at hm;injection hm with hm
    injection hm with h3 h4
    subst h3; subst h4;clear hA hn
    go_enter Tryz.func149, Tryz.ntmps149
    go_wp2_with fail;refine (HT.out _ H0.out.r.p).mono ?_;rintro e w1 ⟨rfl, hg1, hp1⟩;have H1 := hI (H0.out.next hg1 hp1);clear hg1 hp1;go_wp2_with fail;refine (HT2.out _ H1.out.r.p).mono ?_;rintro e w2 ⟨rfl, hg2, hp2⟩;have H2 := hI (H1.out.next hg2 hp2);clear hg2 hp2;go_wp2_with fail;refine (HC.out _ H2.out.r.p).mono ?_;rintro e w3 hZ;obtain ⟨Z1, rfl, hg3, hp3, hl3⟩ := fr3 hZ;have H3 := hI ((H2.out.call hg3 hp3 hl3).box Z1.c);clear hg3 hp3 hl3;go_wp2_with fail;refine (HT3.out _ H3.out.r.p).mono ?_;rintro e w4 ⟨rfl, hg4, hp4⟩;have H4 := hI (H3.out.next hg4 hp4);clear hg4 hp4;have y0 := box9 (H4.out.bx (q := w3.heap.size) (c := Z1.c) (by simp));have x0 := H4.out.r.cells;go_wp2_with fail;refine post9 Tryz.results149 rfl rfl (H4.out.r.r.put9z _ _ _ _ _ _ _ _ _) ?_;exact retF_of (H4.out.close (by first | exact mC | simp))
   | true =>
    rw [if_pos rfl] at hm;have HSC := hI (fun (S : Nat → Prop) (A : Option Addr) (xs : List Value) W (h : PAt L gt C g W (adv σ1)) (hS : ∀ b, S b → b < W.heap.size ∧ b ≠ g) (hA0 : A = none → 1 = 0) (hRs : Rs W S A xs) (hLs : LiesFL W S [f] xs) (h1c : ∀ u ∈ xs, u.oneCell' = true) => scope_any hL hA (S := S) 24 [f] A 1 xs rfl (by omega) W _ τ t h hS hA0 hRs hLs h1c hm);clear hA hm hn
    go_enter Tryz.func149, Tryz.ntmps149
    go_wp2_with fail;refine (HT.out _ H0.out.r.p).mono ?_;rintro e w1 ⟨rfl, hg1, hp1⟩;have H1 := hI (H0.out.next hg1 hp1);clear hg1 hp1;go_wp2_with fail;refine (HT2.out _ H1.out.r.p).mono ?_;rintro e w2 ⟨rfl, hg2, hp2⟩;have H2 := hI (H1.out.next hg2 hp2);clear hg2 hp2;go_wp2_with fail;refine (HC.out _ H2.out.r.p).mono ?_;rintro e w3 hZ;obtain ⟨Z1, rfl, hg3, hp3, hl3⟩ := fr3 hZ;have H3 := hI ((H2.out.call hg3 hp3 hl3).box Z1.c);clear hg3 hp3 hl3;go_wp2_with fail;refine (HT3.out _ H3.out.r.p).mono ?_;rintro e w4 ⟨rfl, hg4, hp4⟩;have H4 := hI (H3.out.next hg4 hp4);clear hg4 hp4;have y0 := box9 (H4.out.bx (q := w3.heap.size) (c := Z1.c) (by simp));have H5 := hI (H4.out.node 0 ⟨#[]⟩ (by decide) (fs := [f]) (row := Z1.c) rfl (by simp) (LiesFL.one (H4.out.t (f, Z1.l) (by simp))) rfl);obtain ⟨xs, hxl, hfl, -, -, -, hRx, hLx⟩ := H5.out.subs (op := 0) (tx := ⟨#[]⟩) (fs := [f]) (A := some ⟨w4.heap.size, 0, none⟩) (n := 1) (m := 1) mC;have HRL := hI (show Rs (w4.alloc (.cells Z1.c 29)) (Own noS W (w4.alloc (.cells Z1.c 29)) [(w3.heap.size, Z1.c)]) (some ⟨w4.heap.size, 0, none⟩) Z1.l from rs_box (Box.laid w4 29 Z1.c) (.inr ⟨H4.out.lt, by simp, fun q hq => by have := (H4.out.b q hq).2.lt; omega⟩));have HLL := hI (show LiesFL (w4.alloc (.cells Z1.c 29)) (Own noS W (w4.alloc (.cells Z1.c 29)) [(w3.heap.size, Z1.c)]) [f] Z1.l from LiesFL.move (LiesFL.one (H4.out.t (f, Z1.l) (by simp))) fun b hb => Own.gr H4.out (Gr.one _ _) b hb);clear hxl hfl hRx hLx;go_wp2_with fail;refine (HSC.out _ _ _ _ H5.out.r.p (Own.ne H5.out) (fun e => by simp at e) HRL.out HLL.out (one9 _ _ _ _ _ _ _ _ _ _ _ _ _ _ _ _ _)).mono ?_;rintro e w6 hZ;obtain ⟨Z2, rfl, hg6, hp6, hl6⟩ := fr3 hZ;have H6 := hI (H5.out.callU hg6 hp6 hl6);clear hg6 hp6 hl6;have x0 := H6.out.r.cells;go_wp2_with fail;refine post9 Tryz.results149 rfl rfl (H6.out.r.r.put9z _ _ _ _ _ _ _ _ _) ?_;exact retF_of (H6.out.close (by first | exact mC | simp))
theorem primary_any {L : List Fk} (hL : TokL L) {gt C g : Nat} {call : Ru → PM} (n : Nat) (hn : n ≤ 400000) (hA : OkA L gt C g call) (hFE : ∀ (W : World) (σ τ : PS) (t : Ft), PAt L gt C g W σ → foreachM L call σ = some (t, τ) → Calls Tryz.prog 192 #[.pointer (some ⟨g, 0, none⟩)] W (RetF L gt C g W t τ)) : OkF L gt C g 164 (primM L call n) := by
 intro W σ t τ hP hm;have H0 := hI (St.begin hP);have HR := hI (fun W (h : PAt L gt C g W σ) => read_any hL h);have HSZ := hI (hL.size σ.k);have hg0 := hP.glt;unfold primM at hm;generalize tk L σ.k = t0 at HR HSZ hm;generalize readP L σ = σ1 at HR hm;obtain ⟨k, o, s, i⟩ := t0;dsimp only at HSZ hm;have hsz := HSZ.out;clear hP
 by_cases k4 : k = 4
 · rw [if_pos k4] at hm;injection hm with hm
   injection hm with h3 h4
   subst h3; subst h4;subst k4;have HFD := hI (fun (U : Nat → Prop) W hU hl => field_any (S := U) (f := identF) (c0 := ι 1) (c1 := eS) (c2 := ι 0) (c3 := ι 0) (c4 := eS) (c5 := nL) (c6 := nL) (c7 := nL) (c8 := nL) s (by omega) W hU hl);clear hA hFE hn
   go_enter Tryz.func164, Tryz.ntmps164
   go_wp2_with fail;refine (HR.out _ H0.out.r.p).mono ?_;rintro e w1 ⟨rfl, hg1, hp1⟩;have H1 := hI ((H0.out.next hg1 hp1).alloc (.cells #[ι (4 : Nat), ι o, .string s, ι i] 41));have HSW := hI hg1.size;have HK1 := hI (Box.laid w1 41 #[ι (4 : Nat), ι o, .string s, ι i]);clear hg1 hp1;have hw1 : W.heap.size < w1.heap.size := nT H0.out.lt HSW.out;go_upto_region 5 with (fail)
   have yt := cell2 HK1.out;have ytd := hI (cell2 (HK1.out.below (Below.refl _ _).drew HK1.out.lt))
   go_region_held3 (fun X => X.cell? ⟨w1.heap.size, 2, none⟩ = some (.string s))
    (first
     | with_reducible exact yt
     | with_reducible exact ytd.out
     | with_reducible exact yt2.out
     | with_reducible exact yt3.out
     | with_reducible exact KA.out _ _ _ _ _ _ _ _ _
     | exact yt)
    (first
     | (go_at_call 170; (refine (ident_any _).mono ?_); rintro e w2 ⟨rfl, hb2⟩; have H2 := hI ((H1.out.drew.low hb2).leaf 1 ⟨#[]⟩ 0 0 ⟨#[]⟩ (by decide) (by decide)); have HK2 := hI (HK1.out.below ((Below.refl _ _).drew.trans hb2) HK1.out.lt); have yt2 := hI (cell2 HK2.out))
     | (go_at_call 169; (refine (HFD.out _ _ (Own.lt H2.out) (H2.out.t (identF, [ι 1, eS, ι 0, ι 0, eS, nL, nL, nL, nL]) mC)).mono ?_); rintro e w3 ⟨c20, c21, c22, c23, c24, c25, c26, c27, c28, rfl, hb3, hl3⟩; obtain ⟨Z2, rfl, rfl, rfl, rfl, rfl, rfl, rfl, rfl, rfl⟩ := fr9 hl3; have H3 := hI (H2.out.maker hb3 hl3); have HK3 := hI (HK2.out.below hb3 HK2.out.lt); have yt3 := hI (cell2 HK3.out); have x0 := H3.out.r.cells; have KA := hI (fun (u0 u1 u2 u3 u4 u5 u6 u7 u8 : Value) => cell2 (HK3.out.far9 (r := W.heap.size) (by omega) u0 u1 u2 u3 u4 u5 u6 u7 u8))))
   go_wp2_with fail;refine post9 Tryz.results164 rfl rfl (H3.out.r.r.put9z _ _ _ _ _ _ _ _ _) ?_;exact retF_of (H3.out.close (by first | exact mC | simp))
 rw [if_neg k4] at hm
 by_cases k5 : k = 5
 · rw [if_pos k5] at hm;injection hm with hm
   injection hm with h3 h4
   subst h3; subst h4;subst k5;clear hA hFE hn k4
   go_enter Tryz.func164, Tryz.ntmps164
   go_wp2_with fail;refine (HR.out _ H0.out.r.p).mono ?_;rintro e w1 ⟨rfl, hg1, hp1⟩;have H1 := hI ((H0.out.next hg1 hp1).alloc (.cells #[ι (5 : Nat), ι o, .string s, ι i] 41));have HSW := hI hg1.size;have HK1 := hI (Box.laid w1 41 #[ι (5 : Nat), ι o, .string s, ι i]);clear hg1 hp1;go_wp2_with fail;refine (lit_any 3 i ⟨#[]⟩ _).mono ?_;rintro e w2 ⟨rfl, hb2⟩;have H2 := hI ((H1.out.low hb2).leaf 7 ⟨#[]⟩ 3 i ⟨#[]⟩ (by decide) (by decide));clear hb2;have x0 := H2.out.r.cells;go_wp2_with fail;refine post9 Tryz.results164 rfl rfl (H2.out.r.r.put9z _ _ _ _ _ _ _ _ _) ?_;exact retF_of (H2.out.close (by first | exact mC | simp))
 rw [if_neg k5] at hm
 by_cases k6 : k = 6
 · rw [if_pos k6] at hm;injection hm with hm
   injection hm with h3 h4
   subst h3; subst h4;subst k6;clear hA hFE hn k5 k4
   go_enter Tryz.func164, Tryz.ntmps164
   go_wp2_with fail;refine (HR.out _ H0.out.r.p).mono ?_;rintro e w1 ⟨rfl, hg1, hp1⟩;have H1 := hI ((H0.out.next hg1 hp1).alloc (.cells #[ι (6 : Nat), ι o, .string s, ι i] 41));have HSW := hI hg1.size;have HK1 := hI (Box.laid w1 41 #[ι (6 : Nat), ι o, .string s, ι i]);clear hg1 hp1;go_wp2_with fail;refine (text_any s _).mono ?_;rintro e w2 ⟨rfl, hb2⟩;have H2 := hI ((H1.out.low hb2).leaf 7 ⟨#[]⟩ 4 0 s (by decide) (by omega));clear hb2;have x0 := H2.out.r.cells;go_wp2_with fail;refine post9 Tryz.results164 rfl rfl (H2.out.r.r.put9z _ _ _ _ _ _ _ _ _) ?_;exact retF_of (H2.out.close (by first | exact mC | simp))
 rw [if_neg k6] at hm
 by_cases k3 : k = 3
 · rw [if_pos k3] at hm;injection hm with hm
   injection hm with h3 h4
   subst h3; subst h4;subst k3;clear hA hFE hn k6 k5 k4
   go_enter Tryz.func164, Tryz.ntmps164
   go_wp2_with fail;refine (HR.out _ H0.out.r.p).mono ?_;rintro e w1 ⟨rfl, hg1, hp1⟩;have H1 := hI ((H0.out.next hg1 hp1).alloc (.cells #[ι (3 : Nat), ι o, .string s, ι i] 41));have HSW := hI hg1.size;have HK1 := hI (Box.laid w1 41 #[ι (3 : Nat), ι o, .string s, ι i]);clear hg1 hp1;go_wp2_with fail;refine (var_any s _).mono ?_;rintro e w2 ⟨rfl, hb2⟩;have H2 := hI ((H1.out.low hb2).leaf 8 s 0 0 ⟨#[]⟩ (by omega) (by decide));clear hb2;have x0 := H2.out.r.cells;go_wp2_with fail;refine post9 Tryz.results164 rfl rfl (H2.out.r.r.put9z _ _ _ _ _ _ _ _ _) ?_;exact retF_of (H2.out.close (by first | exact mC | simp))
 rw [if_neg k3] at hm
 by_cases k1 : k = 1
 · rw [if_pos k1] at hm;subst k1;have HC := hI (fun W (h : PAt L gt C g W σ1) => call_any hL n (by omega) hA s hsz W _ τ t h hm);clear hA hFE hn k3 k4 k5 k6 hm
   go_enter Tryz.func164, Tryz.ntmps164
   go_wp2_with fail;refine (HR.out _ H0.out.r.p).mono ?_;rintro e w1 ⟨rfl, hg1, hp1⟩;have H1 := hI ((H0.out.next hg1 hp1).alloc (.cells #[ι (1 : Nat), ι o, .string s, ι i] 41));have HSW := hI hg1.size;have HK1 := hI (Box.laid w1 41 #[ι (1 : Nat), ι o, .string s, ι i]);clear hg1 hp1;go_wp2_with fail;refine (HC.out _ H1.out.r.p).mono ?_;rintro e w2 hZ;obtain ⟨Z1, rfl, hg2, hp2, hl2⟩ := fr3 hZ;have H2 := hI (H1.out.call hg2 hp2 hl2);clear hg2 hp2 hl2;have x0 := H2.out.r.cells;go_wp2_with fail;refine post9 Tryz.results164 rfl rfl (H2.out.r.r.put9z _ _ _ _ _ _ _ _ _) ?_;exact retF_of (H2.out.close (by first | exact mC | simp))
 rw [if_neg k1] at hm;have HC := hI (fun W (h : PAt L gt C g W σ1) => written_any hL n hn hA hFE ⟨k, o, s, i⟩ W _ τ t h hm);have q4 : ((k : Int) == 4) = false := bF.2 (by omega);have q5 : ((k : Int) == 5) = false := bF.2 (by omega);have q6 : ((k : Int) == 6) = false := bF.2 (by omega);have q3 : ((k : Int) == 3) = false := bF.2 (by omega);have q1 : ((k : Int) == 1) = false := bF.2 (by omega);clear hA hFE hn k1 k3 k4 k5 k6 hm
 go_enter Tryz.func164, Tryz.ntmps164
 go_wp2_with fail;refine (HR.out _ H0.out.r.p).mono ?_;rintro e w1 ⟨rfl, hg1, hp1⟩;have H1 := hI ((H0.out.next hg1 hp1).alloc (.cells #[ι k, ι o, .string s, ι i] 41));have HSW := hI hg1.size;have HK1 := hI (Box.laid w1 41 #[ι k, ι o, .string s, ι i]);clear hg1 hp1;go_wp2_with fail;refine (HC.out _ H1.out.r.p).mono ?_;rintro e w2 hZ;obtain ⟨Z1, rfl, hg2, hp2, hl2⟩ := fr3 hZ;have H2 := hI (H1.out.call hg2 hp2 hl2);clear hg2 hp2 hl2;have x0 := H2.out.r.cells;go_wp2_with fail;refine post9 Tryz.results164 rfl rfl (H2.out.r.r.put9z _ _ _ _ _ _ _ _ _) ?_;exact retF_of (H2.out.close (by first | exact mC | simp))
