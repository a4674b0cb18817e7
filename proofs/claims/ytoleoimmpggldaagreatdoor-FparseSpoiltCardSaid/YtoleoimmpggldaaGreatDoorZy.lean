import Derived.Test.YtoleoimmpggldaaGreatDoorHG
import Derived.Test.YtoleoimmpggldaaGreatDoorHP
import Derived.Test.YtoleoimmpggldaaGreatDoorHK
import Derived.Test.YtoleoimmpggldaaGreatDoorQJ
import Derived.BigQuiet
import Derived.Deep.QuietTactic
import Derived.Test.YtoleoimmpggldaaGreatDoorZx
set_option linter.unusedVariables false
set_option linter.unusedSectionVars false
set_option linter.unusedSimpArgs false
set_option maxHeartbeats 10000000
set_option maxRecDepth 100000
namespace Go.Proofs.YtoleoimmpggldaaGreatDoor
open Go.RowKit
theorem own_row {w : World} {base : Nat} {e : TypeId} {n c size : Nat} {A : Option Addr} {xs : List Value} (h : w.ownsRow base e size (.slice A n c) n xs) (hn : 0 < n) :
 ∃ g, A = some ⟨g, 0, none⟩ ∧ base ≤ g ∧ g < w.heap.size ∧ ∀ j u, xs[j]? = some u → w.cell? ⟨g, j, none⟩ = some u := by
 have h2 := h;rcases h.2 with ⟨e1, e2⟩ | ⟨g, cap, cur, e1, hb, hh, hnc, hcm, hcs, ht⟩
 · omega
 · injection e1 with e2 e3 e4
   subst e2; subst e4;refine ⟨g, rfl, hb, (h2.lt g rfl).2, fun j u hj => ?_⟩;have hjn : j < n * size := by
    rw [← h2.1];exact (gE.1 hj).1
   rw [h2.cellAt j hjn, hj]
theorem flex_open {r : Fr} {ts : List Fk} {w w' : World} {e : Ending} (h : FlexPost r w e w') (hr : r = ⟨some ts, 0, 0⟩) (hn : 0 < ts.length) :
 Below w.heap.size w w' ∧ ∃ g c, e = .returned (.tuple #[.slice (some ⟨g, 0, none⟩) ts.length c, ι 0, ι 0]) ∧ w.heap.size ≤ g ∧ g < w'.heap.size ∧ ∀ j u, (rowT ts)[j]? = some u → w'.cell? ⟨g, j, none⟩ = some u := by
 subst hr;obtain ⟨hb, A, n, c, rfl, h1, h2⟩ := h;subst h1;obtain ⟨g, rfl, h3, h4, h5⟩ := own_row h2 hn;exact ⟨hb, g, c, rfl, h3, h4, h5⟩
theorem rowT_at {ts : List Fk} {i : Nat} {t : Fk} (h : ts[i]? = some t) (j : Nat) {u : Value} (hu : t.cs[j]? = some u) : (rowT ts)[i * 4 + j]? = some u := by
 induction ts generalizing i with
 | nil => simp at h
 | cons x r ih =>
  rw [show rowT (x :: r) = x.cs ++ rowT r from rfl]
  cases i with
  | zero =>
   simp at h;subst h;have hj : j < x.cs.length := (gE.1 hu).1;rw [Nat.zero_mul, Nat.zero_add, List.getElem?_append_left hj];exact hu
  | succ i =>
   have hl : x.cs.length = 4 := rfl;rw [List.getElem?_append_right (by rw [hl]; omega), hl, show (i + 1) * 4 + j - 4 = i * 4 + j by omega];exact ih (by simpa using h)
theorem below_cells {w W : World} {g : Nat} {xs : List Value} (hb : Below w.heap.size w W) (hg : g < w.heap.size) (h : ∀ j u, xs[j]? = some u → w.cell? ⟨g, j, none⟩ = some u) : ∀ j u, xs[j]? = some u → W.cell? ⟨g, j, none⟩ = some u :=
 fun j u hj => (hb.cell (p := ⟨g, j, none⟩) hg).trans (h j u hj)
theorem tok_cells {ts : List Fk} {i g : Nat} {t : Fk} {w : World} (h : ts[i]? = some t) (hc : ∀ j u, (rowT ts)[j]? = some u → w.cell? ⟨g, j, none⟩ = some u) :
 w.cell? ⟨g, i * 4, none⟩ = some (ι t.k) ∧ w.cell? ⟨g, i * 4 + 1, none⟩ = some (ι t.o) ∧ w.cell? ⟨g, i * 4 + 2, none⟩ = some (.string t.s) ∧ w.cell? ⟨g, i * 4 + 3, none⟩ = some (ι t.i) :=
 ⟨hc _ _ (rowT_at h 0 rfl), hc _ _ (rowT_at h 1 rfl), hc _ _ (rowT_at h 2 rfl), hc _ _ (rowT_at h 3 rfl)⟩
end Go.Proofs.YtoleoimmpggldaaGreatDoor
namespace Go.Proofs.YtoleoimmpggldaaGreatDoor
open Go.RowKit
theorem tok_two {l : List UInt8} {us : List Fk} (h : lexFP l = ⟨some us, 0, 0⟩) {i : Nat} {t t' : Fk} (ht : us[i]? = some t) (ht' : us[i + 1]? = some t') : t.o ≤ t'.o ∧ t'.o ≤ l.length := by
 obtain ⟨vs, rfl, hO, -⟩ := lexFP_toks h;have hi : i < vs.length := by
  have := (gE.1 ht').1;simp at this;omega
 rw [List.getElem?_append_left hi] at ht;have hg := hO i t ht;have h1 := hg.lt;have h2 := hg.le;have e : posF vs l.length (i + 1) = t'.o := by
  unfold posF;rcases Nat.lt_or_ge (i + 1) vs.length with h3 | h3
  · rw [List.getElem?_append_left h3] at ht';rw [ht']
  · rw [List.getElem?_append_right h3] at ht';rw [List.getElem?_eq_none h3];have : t' = endK l := by
     have := List.mem_of_getElem? ht'
     simpa using this
    subst this
    rfl
 omega
theorem token_any {us : List Fk} {g c i D : Nat} {s : ByteArray} {t t' : Fk} {W : World} (ht : us[i]? = some t) (ht' : us[D]? = some t') (hD : (i : Int) + 1 = (D : Int)) (ho : t.o ≤ t'.o) (hs : t'.o ≤ s.size) (hc : ∀ j u, (rowT us)[j]? = some u → W.cell? ⟨g, j, none⟩ = some u) (hn : us.length ≤ 10000) :
 Calls Tryz.prog 11 #[.string s, .slice (some ⟨g, 0, none⟩) us.length c, ι i] W fun e w' => e = .returned (.string (s.extract t.o t'.o)) ∧ Below W.heap.size W w' ∧ (∀ j u, (rowT us)[j]? = some u → w'.cell? ⟨g, j, none⟩ = some u) := by
 have c1 := (tok_cells ht hc).2.1;have c2 := (tok_cells ht' hc).2.1;have hi := (gE.1 ht).1;have hd := (gE.1 ht').1;have HC := hI hc;have HDR := hI (fun m => below_drewN (Below.refl W.heap.size W) m);obtain ⟨a, ha⟩ : ∃ a, t.o = a := ⟨_, rfl⟩
 obtain ⟨b, hb⟩ : ∃ b, t'.o = b := ⟨_, rfl⟩
 rw [ha] at c1 ho ⊢;rw [hb] at c2 ho hs ⊢;obtain ⟨N, hN⟩ : ∃ N, us.length = N := ⟨_, rfl⟩
 rw [hN] at hi hd hn ⊢;have h1 : (i : Int) < (N : Int) := by omega
 have h2 : (D : Int) < (N : Int) := by omega
 have h3 : (0 : Int) ≤ (i : Int) := by omega
 have h4 : (0 : Int) ≤ (D : Int) := by omega
 have h5 : (a : Int) ≤ (b : Int) := by omega
 have h6 : (b : Int) ≤ (s.size : Int) := by omega
 clear hc ht ht' hN ha hb
 go_enter Tryz.func11, Tryz.ntmps11
 go_wp2_with fail
 go_quiet (fail)
 go_wp2_with fail
 go_ret
 exact ⟨rfl, HDR.out _, fun j u hj => HC.out j u hj⟩
theorem spoilt_sad (s : ByteArray) (z1 z2 z3 : Int) (w : World) (hE : ErrIn w) (hG : SgIn w) (hz : s.size ≤ 140737488355328) (hsad : 150 < s.size ∨ ¬ (lexFP s.data.toList).e = 0 ∨ ∃ us, (lexFP s.data.toList) = ⟨some us, 0, 0⟩ ∧ us.length < 2) : Calls Tryz.prog 4 #[.string s, ι z1, ι z2, ι z3] w fun e w' => e = .returned (.bool true) ∧ Below w.heap.size w w' := by
 have HAW := hI (fun (W : World) (h : Below w.heap.size w W) => pawake_any W (hE.next h) (hG.next h));have HLX := hI (rflex_any s (by omega) w);clear hE hG
 by_cases h150 : 150 < s.size
 · have q150 : (150 : Int) < (s.size : Int) := by omega
   clear hsad
   go_enter Tryz.func4, Tryz.ntmps4
   go_wp2_with fail;refine HLX.out.mono ?_;rintro e1 w1 ⟨hb1, A0, n0, c0, rfl, -⟩;have HB1 := hI hb1;clear hb1;go_wp2_with fail;refine (HAW.out _ HB1.out).mono ?_;rintro e9 w9 ⟨rfl, hb9⟩;have HB9 := hI (chain HB1.out hb9);clear hb9;go_wp2_with fail
   go_ret
   exact ⟨rfl, HB9.out⟩
 · have q150 : ¬ (150 : Int) < (s.size : Int) := by omega
   rcases hsad with h | h | ⟨us, h, hu⟩
   · exact absurd h h150
   · generalize lexFP s.data.toList = q at HLX h;obtain ⟨ts, pp, ee⟩ := q;dsimp only at h;have qp : ((ee : Int) != 0) = true := by rw [bne_iff_ne]; omega
     clear h
     go_enter Tryz.func4, Tryz.ntmps4
     go_wp2_with fail;refine HLX.out.mono ?_;rintro e1 w1 ⟨hb1, A0, n0, c0, rfl, -⟩;have HB1 := hI hb1;clear hb1;go_wp2_with fail;refine (HAW.out _ HB1.out).mono ?_;rintro e9 w9 ⟨rfl, hb9⟩;have HB9 := hI (chain HB1.out hb9);clear hb9;go_wp2_with fail
     go_ret
     exact ⟨rfl, HB9.out⟩
   · rw [h] at HLX;obtain ⟨N, hN⟩ : ∃ N, us.length = N := ⟨_, rfl⟩
     have qu : (N : Int) < 2 := by omega
     have HN := hI hN;clear h hu hN
     go_enter Tryz.func4, Tryz.ntmps4
     go_wp2_with fail;refine HLX.out.mono ?_;rintro e1 w1 ⟨hb1, A0, n0, c0, rfl, h1, -⟩;have HB1 := hI hb1;have h2 : n0 = N := by rw [← HN.out]; exact h1
     subst h2;clear hb1 h1;go_wp2_with fail;refine (HAW.out _ HB1.out).mono ?_;rintro e9 w9 ⟨rfl, hb9⟩;have HB9 := hI (chain HB1.out hb9);clear hb9;go_wp2_with fail
     go_ret
     exact ⟨rfl, HB9.out⟩
end Go.Proofs.YtoleoimmpggldaaGreatDoor
namespace Go.Proofs.YtoleoimmpggldaaGreatDoor
open Go.RowKit
theorem spoilt_0 (s : ByteArray) (z1 z2 z3 : Int) (w : World) (hE : ErrIn w) (hG : SgIn w) (hz : s.size ≤ 150) (us : List Fk) (hus : lexFP s.data.toList = ⟨some us, 0, 0⟩) (h2 : 2 ≤ us.length) (hw : ∀ W, Calls Tryz.prog 10 #[ι z3, ι 4] W fun e w' => e = .returned (ι 0) ∧ W = w') : Calls Tryz.prog 4 #[.string s, ι z1, ι z2, ι z3] w fun e w' => e = .returned (.bool true) ∧ Below w.heap.size w w' := by
 have HAW := hI (fun (W : World) (h : Below w.heap.size w W) => pawake_any W (hE.next h) (hG.next h));have hlx := (rflex_any s (by omega) w).mono fun e w' h => flex_open h hus (by omega)
 have HX := hI hlx;have HPX := hI (fun (t : ByteArray) (ht : t.size ≤ 281474976710656) (W : World) (h : Below w.heap.size w W) => fparse_any t ht W (hE.next h) (hG.next h));have HRX := hI (fun (t : ByteArray) (ht : t.size ≤ 281474976710656) (W : World) => rparse_same t ht W);have hlen := (lexFP_len hus).1;obtain ⟨M, hM⟩ : ∃ M, us.length = M + 1 := ⟨us.length - 1, by omega⟩
 have hsl : s.data.toList.length = s.size := by simp

 obtain ⟨d1, hd1, hm1⟩ := kmod_nat z1 M (by omega) (by omega);obtain ⟨d2, hd2, hm2⟩ := kmod_nat z2 M (by omega) (by omega);obtain ⟨t1, ht1⟩ : ∃ t, us[d1]? = some t := ⟨_, List.getElem?_eq_getElem (by omega)⟩
 obtain ⟨u1, hu1⟩ : ∃ t, us[d1 + 1]? = some t := ⟨_, List.getElem?_eq_getElem (by omega)⟩
 obtain ⟨t2, ht2⟩ : ∃ t, us[d2]? = some t := ⟨_, List.getElem?_eq_getElem (by omega)⟩
 obtain ⟨u2, hu2⟩ : ∃ t, us[d2 + 1]? = some t := ⟨_, List.getElem?_eq_getElem (by omega)⟩
 have ho1 := tok_two hus ht1 hu1;have ho2 := tok_two hus ht2 hu2;rw [hsl] at ho1 ho2;obtain ⟨D1, hD1⟩ : ∃ D, d1 + 1 = D := ⟨_, rfl⟩
 obtain ⟨D2, hD2⟩ : ∃ D, d2 + 1 = D := ⟨_, rfl⟩
 rw [hD1] at hu1;rw [hD2] at hu2;have qD1 : (d1 : Int) + 1 = (D1 : Int) := by omega
 have hT1 := hI (fun g c (W : World) hc => token_any (s := s) (g := g) (c := c) (W := W) ht1 hu1 qD1 ho1.1 ho1.2 hc (by omega));have hT2 := hI (fun g c (W : World) hc => token_any (s := s) (g := g) (c := c) (W := W) ht2 hu2 (by omega) ho2.1 ho2.2 hc (by omega));have HC1 := hI (fun g (W : World) hc => (tok_cells (g := g) (w := W) ht1 hc).2.1);have HC2 := hI (fun g (W : World) hc => (tok_cells (g := g) (w := W) hu1 hc).2.1);obtain ⟨p1, hp1⟩ : ∃ p, t1.o = p := ⟨_, rfl⟩
 obtain ⟨p2, hp2⟩ : ∃ p, u1.o = p := ⟨_, rfl⟩
 obtain ⟨p3, hp3⟩ : ∃ p, t2.o = p := ⟨_, rfl⟩
 obtain ⟨p4, hp4⟩ : ∃ p, u2.o = p := ⟨_, rfl⟩
 rw [hp1, hp2] at ho1 hT1;rw [hp3, hp4] at ho2 hT2;rw [hp1] at HC1;rw [hp2] at HC2;obtain ⟨N, hN⟩ : ∃ N, us.length = N := ⟨_, rfl⟩
 have HM1 : Hid (∀ W, Calls Tryz.prog 10 #[ι z1, ι M] W fun e w' => e = .returned (ι (d1 : Int)) ∧ W = w') := hI hm1;have HM2 : Hid (∀ W, Calls Tryz.prog 10 #[ι z2, ι M] W fun e w' => e = .returned (ι (d2 : Int)) ∧ W = w') := hI hm2;have HM3 := hI hw;have HROW : Hid (∀ (g : Nat) (W W' : World), Below W.heap.size W W' → g < W.heap.size → (∀ j u, (rowT us)[j]? = some u → W.cell? ⟨g, j, none⟩ = some u) → ∀ j u, (rowT us)[j]? = some u → W'.cell? ⟨g, j, none⟩ = some u) := hI (fun g W W' hb hg h => below_cells hb hg h);rw [hN] at hM h2 HX hT1 hT2;generalize rowT us = row at HX hT1 hT2 HC1 HC2 HROW;have qn : (N : Int) - 1 = (M : Int) := by omega
 have qN2 : ¬ (N : Int) < 2 := by omega
 have q150 : ¬ (150 : Int) < (s.size : Int) := by omega
 have m0 : 0 ≤ (M : Int) := by omega
 have m1 : (M : Int) ≤ 4096 := by omega
 have m2 : (N : Int) ≤ 4096 := by omega
 have m3 : (D1 : Int) ≤ 4096 := by omega
 have k1 : (d1 : Int) < (N : Int) := by omega
 have k2 : (D1 : Int) < (N : Int) := by omega
 have k3 : (0 : Int) ≤ (d1 : Int) := by omega
 have k4 : (0 : Int) ≤ (D1 : Int) := by omega
 have k5 : (p1 : Int) ≤ (s.size : Int) := by omega
 have k6 : (p2 : Int) ≤ (s.size : Int) := by omega
 have hsz : (s.extract 0 p1 ++ s.extract p2 s.size : ByteArray).size ≤ 281474976710656 := by
  have e1 : (⟨#[10]⟩ : ByteArray).size = 1 := rfl;simp only [ByteArray.size_append, ByteArray.size_extract, e1];omega
 have HPT := hI (fun W h => HPX.out (s.extract 0 p1 ++ s.extract p2 s.size) hsz W h);have HRT := hI (fun W => HRX.out (s.extract 0 p1 ++ s.extract p2 s.size) hsz W);generalize parseP (s.extract 0 p1 ++ s.extract p2 s.size).data.toList = r at HPT HRT;obtain ⟨f, a, e⟩ := r;clear HPX HRX hsz hE hG hus hlx hm1 hm2 hw ht1 hu1 ht2 hu2 hN hp1 hp2 hp3 hp4 hM h2 hlen hd1 hd2 hsl hz hD1 hD2 ho1 ho2
 go_enter Tryz.func4, Tryz.ntmps4
 go_wp2_with fail;refine HX.out.mono ?_;rintro e1 w1 ⟨hb1, g, c, rfl, -, hg, hc⟩;have HB1 := hI hb1;have HR1 := hI hc;clear hb1 hc
 go_wp2_with (go_at_call 10; (with_reducible first | refine (HM1.out _).mono ?_ | refine (HM2.out _).mono ?_); rintro e w' ⟨rfl, rfl⟩)
 refine (hT1.out _ _ _ HR1.out).mono ?_;rintro e2 w2 ⟨rfl, hb2, hr2⟩;have HB2 := hI (chain HB1.out hb2);have HR2 := hI hr2;have hg2 : g < w2.heap.size := nT hg hb2.size;clear hb2 hr2;go_wp2_with fail;refine (hT2.out _ _ _ HR2.out).mono ?_;rintro e3 w3 ⟨rfl, hb3, hr3⟩;have HB3 := hI (chain HB2.out hb3);have HR3 := hI hr3;have hg3 : g < w3.heap.size := nT hg2 hb3.size;clear hb3 hr3;have c1 := HC1.out g w3 HR3.out;have c2 := HC2.out g w3 HR3.out
 go_wp2_with (go_at_call 10; (with_reducible refine (HM3.out _).mono ?_); rintro e w' ⟨rfl, rfl⟩)
 clear c1 c2;refine (HPT.out _ HB3.out).mono ?_;rintro e4 w4 ⟨c0, c1, c2, c3, c4, c5, c6, c7, c8, rfl, hb4, hl4⟩;have H0 := hI (TB.start w3);obtain ⟨Z4, rfl, rfl, rfl, rfl, rfl, rfl, rfl, rfl, rfl⟩ := fr9 hl4;have H4 := hI (H0.out.box hb4 hl4);clear hb4 hl4;go_wp2_with fail;generalize w4.alloc (.cells Z4.c 29) = W4 at H4 ⊢;generalize w4.heap.size = g4 at H4 ⊢;refine (HRT.out _).mono ?_;rintro e5 w5 ⟨c0, c1, c2, c3, c4, c5, c6, c7, c8, rfl, hb5, hl5⟩;obtain ⟨Z5, rfl, rfl, rfl, rfl, rfl, rfl, rfl, rfl, rfl⟩ := fr9 hl5;have H5 := hI (H4.out.box hb5 hl5);clear hb5 hl5;generalize hW5 : w5.alloc (.cells Z5.c 29) = W5 at H5;generalize hg5 : w5.heap.size = g5 at H5;have Z4.A := H5.out.b (g4, Z4.l, f) (by simp);have Z5.A := H5.out.b (g5, Z5.l, f) (by simp);have y0 := box9 Z4.A.1;obtain ⟨z0, z1, z2, z3, z4, z5, z6, z7, z8⟩ := box9 Z5.A.1;have HF0 := hI (filters_same f _ _ W5 Z4.A.2 Z5.A.2);clear Z4.A Z5.A;go_wp2_with fail;refine HF0.out.mono ?_;rintro e6 w6 ⟨rfl, hb6⟩;have H6 := hI (H5.out.next hb6);clear hb6 HF0 hW5 hg5 H5;go_wp2_with fail;refine (HAW.out _ (chain HB3.out H6.out.below)).mono ?_;rintro e7 w7 ⟨rfl, hb7⟩;have HB7 := hI (chain (chain HB3.out H6.out.below) hb7);clear hb7;go_wp2_with fail
 go_ret
 exact ⟨rfl, HB7.out⟩
theorem spoilt_1 (s : ByteArray) (z1 z2 z3 : Int) (w : World) (hE : ErrIn w) (hG : SgIn w) (hz : s.size ≤ 150) (us : List Fk) (hus : lexFP s.data.toList = ⟨some us, 0, 0⟩) (h2 : 2 ≤ us.length) (hw : ∀ W, Calls Tryz.prog 10 #[ι z3, ι 4] W fun e w' => e = .returned (ι 1) ∧ W = w') : Calls Tryz.prog 4 #[.string s, ι z1, ι z2, ι z3] w fun e w' => e = .returned (.bool true) ∧ Below w.heap.size w w' := by
 have HAW := hI (fun (W : World) (h : Below w.heap.size w W) => pawake_any W (hE.next h) (hG.next h));have hlx := (rflex_any s (by omega) w).mono fun e w' h => flex_open h hus (by omega)
 have HX := hI hlx;have HPX := hI (fun (t : ByteArray) (ht : t.size ≤ 281474976710656) (W : World) (h : Below w.heap.size w W) => fparse_any t ht W (hE.next h) (hG.next h));have HRX := hI (fun (t : ByteArray) (ht : t.size ≤ 281474976710656) (W : World) => rparse_same t ht W);have hlen := (lexFP_len hus).1;obtain ⟨M, hM⟩ : ∃ M, us.length = M + 1 := ⟨us.length - 1, by omega⟩
 have hsl : s.data.toList.length = s.size := by simp

 obtain ⟨d1, hd1, hm1⟩ := kmod_nat z1 M (by omega) (by omega);obtain ⟨d2, hd2, hm2⟩ := kmod_nat z2 M (by omega) (by omega);obtain ⟨t1, ht1⟩ : ∃ t, us[d1]? = some t := ⟨_, List.getElem?_eq_getElem (by omega)⟩
 obtain ⟨u1, hu1⟩ : ∃ t, us[d1 + 1]? = some t := ⟨_, List.getElem?_eq_getElem (by omega)⟩
 obtain ⟨t2, ht2⟩ : ∃ t, us[d2]? = some t := ⟨_, List.getElem?_eq_getElem (by omega)⟩
 obtain ⟨u2, hu2⟩ : ∃ t, us[d2 + 1]? = some t := ⟨_, List.getElem?_eq_getElem (by omega)⟩
 have ho1 := tok_two hus ht1 hu1;have ho2 := tok_two hus ht2 hu2;rw [hsl] at ho1 ho2;obtain ⟨D1, hD1⟩ : ∃ D, d1 + 1 = D := ⟨_, rfl⟩
 obtain ⟨D2, hD2⟩ : ∃ D, d2 + 1 = D := ⟨_, rfl⟩
 rw [hD1] at hu1;rw [hD2] at hu2;have qD1 : (d1 : Int) + 1 = (D1 : Int) := by omega
 have hT1 := hI (fun g c (W : World) hc => token_any (s := s) (g := g) (c := c) (W := W) ht1 hu1 qD1 ho1.1 ho1.2 hc (by omega));have hT2 := hI (fun g c (W : World) hc => token_any (s := s) (g := g) (c := c) (W := W) ht2 hu2 (by omega) ho2.1 ho2.2 hc (by omega));have HC1 := hI (fun g (W : World) hc => (tok_cells (g := g) (w := W) ht1 hc).2.1);have HC2 := hI (fun g (W : World) hc => (tok_cells (g := g) (w := W) hu1 hc).2.1);obtain ⟨p1, hp1⟩ : ∃ p, t1.o = p := ⟨_, rfl⟩
 obtain ⟨p2, hp2⟩ : ∃ p, u1.o = p := ⟨_, rfl⟩
 obtain ⟨p3, hp3⟩ : ∃ p, t2.o = p := ⟨_, rfl⟩
 obtain ⟨p4, hp4⟩ : ∃ p, u2.o = p := ⟨_, rfl⟩
 rw [hp1, hp2] at ho1 hT1;rw [hp3, hp4] at ho2 hT2;rw [hp1] at HC1;rw [hp2] at HC2;obtain ⟨N, hN⟩ : ∃ N, us.length = N := ⟨_, rfl⟩
 have HM1 : Hid (∀ W, Calls Tryz.prog 10 #[ι z1, ι M] W fun e w' => e = .returned (ι (d1 : Int)) ∧ W = w') := hI hm1;have HM2 : Hid (∀ W, Calls Tryz.prog 10 #[ι z2, ι M] W fun e w' => e = .returned (ι (d2 : Int)) ∧ W = w') := hI hm2;have HM3 := hI hw;have HROW : Hid (∀ (g : Nat) (W W' : World), Below W.heap.size W W' → g < W.heap.size → (∀ j u, (rowT us)[j]? = some u → W.cell? ⟨g, j, none⟩ = some u) → ∀ j u, (rowT us)[j]? = some u → W'.cell? ⟨g, j, none⟩ = some u) := hI (fun g W W' hb hg h => below_cells hb hg h);rw [hN] at hM h2 HX hT1 hT2;generalize rowT us = row at HX hT1 hT2 HC1 HC2 HROW;have qn : (N : Int) - 1 = (M : Int) := by omega
 have qN2 : ¬ (N : Int) < 2 := by omega
 have q150 : ¬ (150 : Int) < (s.size : Int) := by omega
 have m0 : 0 ≤ (M : Int) := by omega
 have m1 : (M : Int) ≤ 4096 := by omega
 have m2 : (N : Int) ≤ 4096 := by omega
 have m3 : (D1 : Int) ≤ 4096 := by omega
 have k1 : (d1 : Int) < (N : Int) := by omega
 have k2 : (D1 : Int) < (N : Int) := by omega
 have k3 : (0 : Int) ≤ (d1 : Int) := by omega
 have k4 : (0 : Int) ≤ (D1 : Int) := by omega
 have k5 : (p1 : Int) ≤ (s.size : Int) := by omega
 have k6 : (p2 : Int) ≤ (s.size : Int) := by omega
 have hsz : (s.extract 0 p1 ++ (s.extract p1 p2 ++ (⟨#[10]⟩ : ByteArray) ++ s.extract p1 p2 ++ (⟨#[10]⟩ : ByteArray)) ++ s.extract p2 s.size : ByteArray).size ≤ 281474976710656 := by
  have e1 : (⟨#[10]⟩ : ByteArray).size = 1 := rfl;simp only [ByteArray.size_append, ByteArray.size_extract, e1];omega
 have HPT := hI (fun W h => HPX.out (s.extract 0 p1 ++ (s.extract p1 p2 ++ (⟨#[10]⟩ : ByteArray) ++ s.extract p1 p2 ++ (⟨#[10]⟩ : ByteArray)) ++ s.extract p2 s.size) hsz W h);have HRT := hI (fun W => HRX.out (s.extract 0 p1 ++ (s.extract p1 p2 ++ (⟨#[10]⟩ : ByteArray) ++ s.extract p1 p2 ++ (⟨#[10]⟩ : ByteArray)) ++ s.extract p2 s.size) hsz W);generalize parseP (s.extract 0 p1 ++ (s.extract p1 p2 ++ (⟨#[10]⟩ : ByteArray) ++ s.extract p1 p2 ++ (⟨#[10]⟩ : ByteArray)) ++ s.extract p2 s.size).data.toList = r at HPT HRT;obtain ⟨f, a, e⟩ := r;clear HPX HRX hsz hE hG hus hlx hm1 hm2 hw ht1 hu1 ht2 hu2 hN hp1 hp2 hp3 hp4 hM h2 hlen hd1 hd2 hsl hz hD1 hD2 ho1 ho2
 go_enter Tryz.func4, Tryz.ntmps4
 go_wp2_with fail;refine HX.out.mono ?_;rintro e1 w1 ⟨hb1, g, c, rfl, -, hg, hc⟩;have HB1 := hI hb1;have HR1 := hI hc;clear hb1 hc
 go_wp2_with (go_at_call 10; (with_reducible first | refine (HM1.out _).mono ?_ | refine (HM2.out _).mono ?_); rintro e w' ⟨rfl, rfl⟩)
 refine (hT1.out _ _ _ HR1.out).mono ?_;rintro e2 w2 ⟨rfl, hb2, hr2⟩;have HB2 := hI (chain HB1.out hb2);have HR2 := hI hr2;have hg2 : g < w2.heap.size := nT hg hb2.size;clear hb2 hr2;go_wp2_with fail;refine (hT2.out _ _ _ HR2.out).mono ?_;rintro e3 w3 ⟨rfl, hb3, hr3⟩;have HB3 := hI (chain HB2.out hb3);have HR3 := hI hr3;have hg3 : g < w3.heap.size := nT hg2 hb3.size;clear hb3 hr3;have c1 := HC1.out g w3 HR3.out;have c2 := HC2.out g w3 HR3.out
 go_wp2_with (go_at_call 10; (with_reducible refine (HM3.out _).mono ?_); rintro e w' ⟨rfl, rfl⟩)
 clear c1 c2;refine (HPT.out _ HB3.out).mono ?_;rintro e4 w4 ⟨c0, c1, c2, c3, c4, c5, c6, c7, c8, rfl, hb4, hl4⟩;have H0 := hI (TB.start w3);obtain ⟨Z4, rfl, rfl, rfl, rfl, rfl, rfl, rfl, rfl, rfl⟩ := fr9 hl4;have H4 := hI (H0.out.box hb4 hl4);clear hb4 hl4;go_wp2_with fail;generalize w4.alloc (.cells Z4.c 29) = W4 at H4 ⊢;generalize w4.heap.size = g4 at H4 ⊢;refine (HRT.out _).mono ?_;rintro e5 w5 ⟨c0, c1, c2, c3, c4, c5, c6, c7, c8, rfl, hb5, hl5⟩;obtain ⟨Z5, rfl, rfl, rfl, rfl, rfl, rfl, rfl, rfl, rfl⟩ := fr9 hl5;have H5 := hI (H4.out.box hb5 hl5);clear hb5 hl5;generalize hW5 : w5.alloc (.cells Z5.c 29) = W5 at H5;generalize hg5 : w5.heap.size = g5 at H5;have Z4.A := H5.out.b (g4, Z4.l, f) (by simp);have Z5.A := H5.out.b (g5, Z5.l, f) (by simp);have y0 := box9 Z4.A.1;obtain ⟨z0, z1, z2, z3, z4, z5, z6, z7, z8⟩ := box9 Z5.A.1;have HF0 := hI (filters_same f _ _ W5 Z4.A.2 Z5.A.2);clear Z4.A Z5.A;go_wp2_with fail;refine HF0.out.mono ?_;rintro e6 w6 ⟨rfl, hb6⟩;have H6 := hI (H5.out.next hb6);clear hb6 HF0 hW5 hg5 H5;go_wp2_with fail;refine (HAW.out _ (chain HB3.out H6.out.below)).mono ?_;rintro e7 w7 ⟨rfl, hb7⟩;have HB7 := hI (chain (chain HB3.out H6.out.below) hb7);clear hb7;go_wp2_with fail
 go_ret
 exact ⟨rfl, HB7.out⟩
theorem spoilt_2 (s : ByteArray) (z1 z2 z3 : Int) (w : World) (hE : ErrIn w) (hG : SgIn w) (hz : s.size ≤ 150) (us : List Fk) (hus : lexFP s.data.toList = ⟨some us, 0, 0⟩) (h2 : 2 ≤ us.length) (hw : ∀ W, Calls Tryz.prog 10 #[ι z3, ι 4] W fun e w' => e = .returned (ι 2) ∧ W = w') : Calls Tryz.prog 4 #[.string s, ι z1, ι z2, ι z3] w fun e w' => e = .returned (.bool true) ∧ Below w.heap.size w w' := by
 have HAW := hI (fun (W : World) (h : Below w.heap.size w W) => pawake_any W (hE.next h) (hG.next h));have hlx := (rflex_any s (by omega) w).mono fun e w' h => flex_open h hus (by omega)
 have HX := hI hlx;have HPX := hI (fun (t : ByteArray) (ht : t.size ≤ 281474976710656) (W : World) (h : Below w.heap.size w W) => fparse_any t ht W (hE.next h) (hG.next h));have HRX := hI (fun (t : ByteArray) (ht : t.size ≤ 281474976710656) (W : World) => rparse_same t ht W);have hlen := (lexFP_len hus).1;obtain ⟨M, hM⟩ : ∃ M, us.length = M + 1 := ⟨us.length - 1, by omega⟩
 have hsl : s.data.toList.length = s.size := by simp

 obtain ⟨d1, hd1, hm1⟩ := kmod_nat z1 M (by omega) (by omega);obtain ⟨d2, hd2, hm2⟩ := kmod_nat z2 M (by omega) (by omega);obtain ⟨t1, ht1⟩ : ∃ t, us[d1]? = some t := ⟨_, List.getElem?_eq_getElem (by omega)⟩
 obtain ⟨u1, hu1⟩ : ∃ t, us[d1 + 1]? = some t := ⟨_, List.getElem?_eq_getElem (by omega)⟩
 obtain ⟨t2, ht2⟩ : ∃ t, us[d2]? = some t := ⟨_, List.getElem?_eq_getElem (by omega)⟩
 obtain ⟨u2, hu2⟩ : ∃ t, us[d2 + 1]? = some t := ⟨_, List.getElem?_eq_getElem (by omega)⟩
 have ho1 := tok_two hus ht1 hu1;have ho2 := tok_two hus ht2 hu2;rw [hsl] at ho1 ho2;obtain ⟨D1, hD1⟩ : ∃ D, d1 + 1 = D := ⟨_, rfl⟩
 obtain ⟨D2, hD2⟩ : ∃ D, d2 + 1 = D := ⟨_, rfl⟩
 rw [hD1] at hu1;rw [hD2] at hu2;have qD1 : (d1 : Int) + 1 = (D1 : Int) := by omega
 have hT1 := hI (fun g c (W : World) hc => token_any (s := s) (g := g) (c := c) (W := W) ht1 hu1 qD1 ho1.1 ho1.2 hc (by omega));have hT2 := hI (fun g c (W : World) hc => token_any (s := s) (g := g) (c := c) (W := W) ht2 hu2 (by omega) ho2.1 ho2.2 hc (by omega));have HC1 := hI (fun g (W : World) hc => (tok_cells (g := g) (w := W) ht1 hc).2.1);have HC2 := hI (fun g (W : World) hc => (tok_cells (g := g) (w := W) hu1 hc).2.1);obtain ⟨p1, hp1⟩ : ∃ p, t1.o = p := ⟨_, rfl⟩
 obtain ⟨p2, hp2⟩ : ∃ p, u1.o = p := ⟨_, rfl⟩
 obtain ⟨p3, hp3⟩ : ∃ p, t2.o = p := ⟨_, rfl⟩
 obtain ⟨p4, hp4⟩ : ∃ p, u2.o = p := ⟨_, rfl⟩
 rw [hp1, hp2] at ho1 hT1;rw [hp3, hp4] at ho2 hT2;rw [hp1] at HC1;rw [hp2] at HC2;obtain ⟨N, hN⟩ : ∃ N, us.length = N := ⟨_, rfl⟩
 have HM1 : Hid (∀ W, Calls Tryz.prog 10 #[ι z1, ι M] W fun e w' => e = .returned (ι (d1 : Int)) ∧ W = w') := hI hm1;have HM2 : Hid (∀ W, Calls Tryz.prog 10 #[ι z2, ι M] W fun e w' => e = .returned (ι (d2 : Int)) ∧ W = w') := hI hm2;have HM3 := hI hw;have HROW : Hid (∀ (g : Nat) (W W' : World), Below W.heap.size W W' → g < W.heap.size → (∀ j u, (rowT us)[j]? = some u → W.cell? ⟨g, j, none⟩ = some u) → ∀ j u, (rowT us)[j]? = some u → W'.cell? ⟨g, j, none⟩ = some u) := hI (fun g W W' hb hg h => below_cells hb hg h);rw [hN] at hM h2 HX hT1 hT2;generalize rowT us = row at HX hT1 hT2 HC1 HC2 HROW;have qn : (N : Int) - 1 = (M : Int) := by omega
 have qN2 : ¬ (N : Int) < 2 := by omega
 have q150 : ¬ (150 : Int) < (s.size : Int) := by omega
 have m0 : 0 ≤ (M : Int) := by omega
 have m1 : (M : Int) ≤ 4096 := by omega
 have m2 : (N : Int) ≤ 4096 := by omega
 have m3 : (D1 : Int) ≤ 4096 := by omega
 have k1 : (d1 : Int) < (N : Int) := by omega
 have k2 : (D1 : Int) < (N : Int) := by omega
 have k3 : (0 : Int) ≤ (d1 : Int) := by omega
 have k4 : (0 : Int) ≤ (D1 : Int) := by omega
 have k5 : (p1 : Int) ≤ (s.size : Int) := by omega
 have k6 : (p2 : Int) ≤ (s.size : Int) := by omega
 have hsz : (s.extract 0 p1 ++ (s.extract p3 p4 ++ (⟨#[10]⟩ : ByteArray)) ++ s.extract p2 s.size : ByteArray).size ≤ 281474976710656 := by
  have e1 : (⟨#[10]⟩ : ByteArray).size = 1 := rfl;simp only [ByteArray.size_append, ByteArray.size_extract, e1];omega
 have HPT := hI (fun W h => HPX.out (s.extract 0 p1 ++ (s.extract p3 p4 ++ (⟨#[10]⟩ : ByteArray)) ++ s.extract p2 s.size) hsz W h);have HRT := hI (fun W => HRX.out (s.extract 0 p1 ++ (s.extract p3 p4 ++ (⟨#[10]⟩ : ByteArray)) ++ s.extract p2 s.size) hsz W);generalize parseP (s.extract 0 p1 ++ (s.extract p3 p4 ++ (⟨#[10]⟩ : ByteArray)) ++ s.extract p2 s.size).data.toList = r at HPT HRT;obtain ⟨f, a, e⟩ := r;clear HPX HRX hsz hE hG hus hlx hm1 hm2 hw ht1 hu1 ht2 hu2 hN hp1 hp2 hp3 hp4 hM h2 hlen hd1 hd2 hsl hz hD1 hD2 ho1 ho2
 go_enter Tryz.func4, Tryz.ntmps4
 go_wp2_with fail;refine HX.out.mono ?_;rintro e1 w1 ⟨hb1, g, c, rfl, -, hg, hc⟩;have HB1 := hI hb1;have HR1 := hI hc;clear hb1 hc
 go_wp2_with (go_at_call 10; (with_reducible first | refine (HM1.out _).mono ?_ | refine (HM2.out _).mono ?_); rintro e w' ⟨rfl, rfl⟩)
 refine (hT1.out _ _ _ HR1.out).mono ?_;rintro e2 w2 ⟨rfl, hb2, hr2⟩;have HB2 := hI (chain HB1.out hb2);have HR2 := hI hr2;have hg2 : g < w2.heap.size := nT hg hb2.size;clear hb2 hr2;go_wp2_with fail;refine (hT2.out _ _ _ HR2.out).mono ?_;rintro e3 w3 ⟨rfl, hb3, hr3⟩;have HB3 := hI (chain HB2.out hb3);have HR3 := hI hr3;have hg3 : g < w3.heap.size := nT hg2 hb3.size;clear hb3 hr3;have c1 := HC1.out g w3 HR3.out;have c2 := HC2.out g w3 HR3.out
 go_wp2_with (go_at_call 10; (with_reducible refine (HM3.out _).mono ?_); rintro e w' ⟨rfl, rfl⟩)
 clear c1 c2;refine (HPT.out _ HB3.out).mono ?_;rintro e4 w4 ⟨c0, c1, c2, c3, c4, c5, c6, c7, c8, rfl, hb4, hl4⟩;have H0 := hI (TB.start w3);obtain ⟨Z4, rfl, rfl, rfl, rfl, rfl, rfl, rfl, rfl, rfl⟩ := fr9 hl4;have H4 := hI (H0.out.box hb4 hl4);clear hb4 hl4;go_wp2_with fail;generalize w4.alloc (.cells Z4.c 29) = W4 at H4 ⊢;generalize w4.heap.size = g4 at H4 ⊢;refine (HRT.out _).mono ?_;rintro e5 w5 ⟨c0, c1, c2, c3, c4, c5, c6, c7, c8, rfl, hb5, hl5⟩;obtain ⟨Z5, rfl, rfl, rfl, rfl, rfl, rfl, rfl, rfl, rfl⟩ := fr9 hl5;have H5 := hI (H4.out.box hb5 hl5);clear hb5 hl5;generalize hW5 : w5.alloc (.cells Z5.c 29) = W5 at H5;generalize hg5 : w5.heap.size = g5 at H5;have Z4.A := H5.out.b (g4, Z4.l, f) (by simp);have Z5.A := H5.out.b (g5, Z5.l, f) (by simp);have y0 := box9 Z4.A.1;obtain ⟨z0, z1, z2, z3, z4, z5, z6, z7, z8⟩ := box9 Z5.A.1;have HF0 := hI (filters_same f _ _ W5 Z4.A.2 Z5.A.2);clear Z4.A Z5.A;go_wp2_with fail;refine HF0.out.mono ?_;rintro e6 w6 ⟨rfl, hb6⟩;have H6 := hI (H5.out.next hb6);clear hb6 HF0 hW5 hg5 H5;go_wp2_with fail;refine (HAW.out _ (chain HB3.out H6.out.below)).mono ?_;rintro e7 w7 ⟨rfl, hb7⟩;have HB7 := hI (chain (chain HB3.out H6.out.below) hb7);clear hb7;go_wp2_with fail
 go_ret
 exact ⟨rfl, HB7.out⟩
theorem spoilt_3 (s : ByteArray) (z1 z2 z3 : Int) (w : World) (hE : ErrIn w) (hG : SgIn w) (hz : s.size ≤ 150) (us : List Fk) (hus : lexFP s.data.toList = ⟨some us, 0, 0⟩) (h2 : 2 ≤ us.length) (hw : ∀ W, Calls Tryz.prog 10 #[ι z3, ι 4] W fun e w' => e = .returned (ι 3) ∧ W = w') : Calls Tryz.prog 4 #[.string s, ι z1, ι z2, ι z3] w fun e w' => e = .returned (.bool true) ∧ Below w.heap.size w w' := by
 have HAW := hI (fun (W : World) (h : Below w.heap.size w W) => pawake_any W (hE.next h) (hG.next h));have hlx := (rflex_any s (by omega) w).mono fun e w' h => flex_open h hus (by omega)
 have HX := hI hlx;have HPX := hI (fun (t : ByteArray) (ht : t.size ≤ 281474976710656) (W : World) (h : Below w.heap.size w W) => fparse_any t ht W (hE.next h) (hG.next h));have HRX := hI (fun (t : ByteArray) (ht : t.size ≤ 281474976710656) (W : World) => rparse_same t ht W);have hlen := (lexFP_len hus).1;obtain ⟨M, hM⟩ : ∃ M, us.length = M + 1 := ⟨us.length - 1, by omega⟩
 have hsl : s.data.toList.length = s.size := by simp

 obtain ⟨d1, hd1, hm1⟩ := kmod_nat z1 M (by omega) (by omega);obtain ⟨d2, hd2, hm2⟩ := kmod_nat z2 M (by omega) (by omega);obtain ⟨t1, ht1⟩ : ∃ t, us[d1]? = some t := ⟨_, List.getElem?_eq_getElem (by omega)⟩
 obtain ⟨u1, hu1⟩ : ∃ t, us[d1 + 1]? = some t := ⟨_, List.getElem?_eq_getElem (by omega)⟩
 obtain ⟨t2, ht2⟩ : ∃ t, us[d2]? = some t := ⟨_, List.getElem?_eq_getElem (by omega)⟩
 obtain ⟨u2, hu2⟩ : ∃ t, us[d2 + 1]? = some t := ⟨_, List.getElem?_eq_getElem (by omega)⟩
 have ho1 := tok_two hus ht1 hu1;have ho2 := tok_two hus ht2 hu2;rw [hsl] at ho1 ho2;obtain ⟨D1, hD1⟩ : ∃ D, d1 + 1 = D := ⟨_, rfl⟩
 obtain ⟨D2, hD2⟩ : ∃ D, d2 + 1 = D := ⟨_, rfl⟩
 rw [hD1] at hu1;rw [hD2] at hu2;have qD1 : (d1 : Int) + 1 = (D1 : Int) := by omega
 have hT1 := hI (fun g c (W : World) hc => token_any (s := s) (g := g) (c := c) (W := W) ht1 hu1 qD1 ho1.1 ho1.2 hc (by omega));have hT2 := hI (fun g c (W : World) hc => token_any (s := s) (g := g) (c := c) (W := W) ht2 hu2 (by omega) ho2.1 ho2.2 hc (by omega));have HC1 := hI (fun g (W : World) hc => (tok_cells (g := g) (w := W) ht1 hc).2.1);have HC2 := hI (fun g (W : World) hc => (tok_cells (g := g) (w := W) hu1 hc).2.1);obtain ⟨p1, hp1⟩ : ∃ p, t1.o = p := ⟨_, rfl⟩
 obtain ⟨p2, hp2⟩ : ∃ p, u1.o = p := ⟨_, rfl⟩
 obtain ⟨p3, hp3⟩ : ∃ p, t2.o = p := ⟨_, rfl⟩
 obtain ⟨p4, hp4⟩ : ∃ p, u2.o = p := ⟨_, rfl⟩
 rw [hp1, hp2] at ho1 hT1;rw [hp3, hp4] at ho2 hT2;rw [hp1] at HC1;rw [hp2] at HC2;obtain ⟨N, hN⟩ : ∃ N, us.length = N := ⟨_, rfl⟩
 have HM1 : Hid (∀ W, Calls Tryz.prog 10 #[ι z1, ι M] W fun e w' => e = .returned (ι (d1 : Int)) ∧ W = w') := hI hm1;have HM2 : Hid (∀ W, Calls Tryz.prog 10 #[ι z2, ι M] W fun e w' => e = .returned (ι (d2 : Int)) ∧ W = w') := hI hm2;have HM3 := hI hw;have HROW : Hid (∀ (g : Nat) (W W' : World), Below W.heap.size W W' → g < W.heap.size → (∀ j u, (rowT us)[j]? = some u → W.cell? ⟨g, j, none⟩ = some u) → ∀ j u, (rowT us)[j]? = some u → W'.cell? ⟨g, j, none⟩ = some u) := hI (fun g W W' hb hg h => below_cells hb hg h);rw [hN] at hM h2 HX hT1 hT2;generalize rowT us = row at HX hT1 hT2 HC1 HC2 HROW;have qn : (N : Int) - 1 = (M : Int) := by omega
 have qN2 : ¬ (N : Int) < 2 := by omega
 have q150 : ¬ (150 : Int) < (s.size : Int) := by omega
 have m0 : 0 ≤ (M : Int) := by omega
 have m1 : (M : Int) ≤ 4096 := by omega
 have m2 : (N : Int) ≤ 4096 := by omega
 have m3 : (D1 : Int) ≤ 4096 := by omega
 have k1 : (d1 : Int) < (N : Int) := by omega
 have k2 : (D1 : Int) < (N : Int) := by omega
 have k3 : (0 : Int) ≤ (d1 : Int) := by omega
 have k4 : (0 : Int) ≤ (D1 : Int) := by omega
 have k5 : (p1 : Int) ≤ (s.size : Int) := by omega
 have k6 : (p2 : Int) ≤ (s.size : Int) := by omega
 have hsz : (s.extract 0 p1 ++ (s.extract p1 p2 ++ (⟨#[10]⟩ : ByteArray) ++ s.extract p3 p4 ++ (⟨#[10]⟩ : ByteArray)) ++ s.extract p2 s.size : ByteArray).size ≤ 281474976710656 := by
  have e1 : (⟨#[10]⟩ : ByteArray).size = 1 := rfl;simp only [ByteArray.size_append, ByteArray.size_extract, e1];omega
 have HPT := hI (fun W h => HPX.out (s.extract 0 p1 ++ (s.extract p1 p2 ++ (⟨#[10]⟩ : ByteArray) ++ s.extract p3 p4 ++ (⟨#[10]⟩ : ByteArray)) ++ s.extract p2 s.size) hsz W h);have HRT := hI (fun W => HRX.out (s.extract 0 p1 ++ (s.extract p1 p2 ++ (⟨#[10]⟩ : ByteArray) ++ s.extract p3 p4 ++ (⟨#[10]⟩ : ByteArray)) ++ s.extract p2 s.size) hsz W);generalize parseP (s.extract 0 p1 ++ (s.extract p1 p2 ++ (⟨#[10]⟩ : ByteArray) ++ s.extract p3 p4 ++ (⟨#[10]⟩ : ByteArray)) ++ s.extract p2 s.size).data.toList = r at HPT HRT;obtain ⟨f, a, e⟩ := r;clear HPX HRX hsz hE hG hus hlx hm1 hm2 hw ht1 hu1 ht2 hu2 hN hp1 hp2 hp3 hp4 hM h2 hlen hd1 hd2 hsl hz hD1 hD2 ho1 ho2
 go_enter Tryz.func4, Tryz.ntmps4
 go_wp2_with fail;refine HX.out.mono ?_;rintro e1 w1 ⟨hb1, g, c, rfl, -, hg, hc⟩;have HB1 := hI hb1;have HR1 := hI hc;clear hb1 hc
 go_wp2_with (go_at_call 10; (with_reducible first | refine (HM1.out _).mono ?_ | refine (HM2.out _).mono ?_); rintro e w' ⟨rfl, rfl⟩)
 refine (hT1.out _ _ _ HR1.out).mono ?_;rintro e2 w2 ⟨rfl, hb2, hr2⟩;have HB2 := hI (chain HB1.out hb2);have HR2 := hI hr2;have hg2 : g < w2.heap.size := nT hg hb2.size;clear hb2 hr2;go_wp2_with fail;refine (hT2.out _ _ _ HR2.out).mono ?_;rintro e3 w3 ⟨rfl, hb3, hr3⟩;have HB3 := hI (chain HB2.out hb3);have HR3 := hI hr3;have hg3 : g < w3.heap.size := nT hg2 hb3.size;clear hb3 hr3;have c1 := HC1.out g w3 HR3.out;have c2 := HC2.out g w3 HR3.out
 go_wp2_with (go_at_call 10; (with_reducible refine (HM3.out _).mono ?_); rintro e w' ⟨rfl, rfl⟩)
 clear c1 c2;refine (HPT.out _ HB3.out).mono ?_;rintro e4 w4 ⟨c0, c1, c2, c3, c4, c5, c6, c7, c8, rfl, hb4, hl4⟩;have H0 := hI (TB.start w3);obtain ⟨Z4, rfl, rfl, rfl, rfl, rfl, rfl, rfl, rfl, rfl⟩ := fr9 hl4;have H4 := hI (H0.out.box hb4 hl4);clear hb4 hl4;go_wp2_with fail;generalize w4.alloc (.cells Z4.c 29) = W4 at H4 ⊢;generalize w4.heap.size = g4 at H4 ⊢;refine (HRT.out _).mono ?_;rintro e5 w5 ⟨c0, c1, c2, c3, c4, c5, c6, c7, c8, rfl, hb5, hl5⟩;obtain ⟨Z5, rfl, rfl, rfl, rfl, rfl, rfl, rfl, rfl, rfl⟩ := fr9 hl5;have H5 := hI (H4.out.box hb5 hl5);clear hb5 hl5;generalize hW5 : w5.alloc (.cells Z5.c 29) = W5 at H5;generalize hg5 : w5.heap.size = g5 at H5;have Z4.A := H5.out.b (g4, Z4.l, f) (by simp);have Z5.A := H5.out.b (g5, Z5.l, f) (by simp);have y0 := box9 Z4.A.1;obtain ⟨z0, z1, z2, z3, z4, z5, z6, z7, z8⟩ := box9 Z5.A.1;have HF0 := hI (filters_same f _ _ W5 Z4.A.2 Z5.A.2);clear Z4.A Z5.A;go_wp2_with fail;refine HF0.out.mono ?_;rintro e6 w6 ⟨rfl, hb6⟩;have H6 := hI (H5.out.next hb6);clear hb6 HF0 hW5 hg5 H5;go_wp2_with fail;refine (HAW.out _ (chain HB3.out H6.out.below)).mono ?_;rintro e7 w7 ⟨rfl, hb7⟩;have HB7 := hI (chain (chain HB3.out H6.out.below) hb7);clear hb7;go_wp2_with fail
 go_ret
 exact ⟨rfl, HB7.out⟩
theorem spoilt_walk (s : ByteArray) (z1 z2 z3 : Int) (w : World) (hE : ErrIn w) (hG : SgIn w) (hz : s.size ≤ 140737488355328) : Calls Tryz.prog 4 #[.string s, ι z1, ι z2, ι z3] w fun e w' => e = .returned (.bool true) ∧ Below w.heap.size w w' := by
 by_cases h150 : 150 < s.size
 · exact spoilt_sad s z1 z2 z3 w hE hG hz (.inl h150)
 by_cases he : (lexFP s.data.toList).e = 0
 · obtain ⟨us, hus⟩ := lexFP_some he
   by_cases h2 : us.length < 2
   · exact spoilt_sad s z1 z2 z3 w hE hG hz (.inr (.inr ⟨us, hus, h2⟩))
   obtain ⟨d, hd, hm⟩ := kmod_nat z3 4 (by decide) (by decide)
   match d, hd, hm with
   | 0, _, hm => exact spoilt_0 s z1 z2 z3 w hE hG (by omega) us hus (by omega) hm
   | 1, _, hm => exact spoilt_1 s z1 z2 z3 w hE hG (by omega) us hus (by omega) hm
   | 2, _, hm => exact spoilt_2 s z1 z2 z3 w hE hG (by omega) us hus (by omega) hm
   | 3, _, hm => exact spoilt_3 s z1 z2 z3 w hE hG (by omega) us hus (by omega) hm
 · exact spoilt_sad s z1 z2 z3 w hE hG hz (.inr (.inl he))
