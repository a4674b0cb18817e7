import Derived.Test.YtoleoimmpggldaaGreatDoorYz
set_option linter.unusedVariables false
set_option linter.unusedSectionVars false
set_option linter.unusedSimpArgs false
set_option maxHeartbeats 10000000
set_option maxRecDepth 100000
namespace Go.Proofs.YtoleoimmpggldaaGreatDoor
open Go.RowKit
theorem ppoint_any {L : List Fk} (hL : TokL L) {gt C g : Nat} (W : World) (σ τ : PS) (t : Ft) (hP : PAt L gt C g W σ) (hm : pointM L σ = some (t, τ)) :
 Calls Tryz.prog 184 #[.pointer (some ⟨g, 0, none⟩)] W (RetF L gt C g W t τ) := by
 have H0 := hI (St.begin hP);have HK := hI (fun W (h : PAt L gt C g W σ) => peek_any h);have HR := hI (fun W (h : PAt L gt C g W σ) => read_any hL h);have HSZ := hI (hL.size σ.k);unfold pointM at hm;clear hP
 by_cases h6 : (tk L σ.k).k = 6
 · rw [if_pos h6] at hm;injection hm with hm
   injection hm with h3 h4
   subst h3; subst h4;have q6 : (((tk L σ.k).k : Int) == 6) = true := by rw [beq_iff_eq]; omega
   generalize tk L σ.k = t at HK HR HSZ q6 h6 ⊢;generalize readP L σ = τ at HR ⊢;have hf0 := field_kind t;have hf2 := field_text t;have HFD := hI (fun (U : Nat → Prop) W hU hl => field_any (S := U) (f := identF) (c0 := ι 1) (c1 := eS) (c2 := ι 0) (c3 := ι 0) (c4 := eS) (c5 := nL) (c6 := nL) (c7 := nL) (c8 := nL) t.s (by have := HSZ.out; omega) W hU hl);clear h6
   go_enter Tryz.func184, Tryz.ntmps184
   go_wp2_with fail;refine (HK.out _ H0.out.r.p).mono ?_;rintro e w1 ⟨rfl, hb1⟩;have H1 := hI (H0.out.low hb1);clear hb1;go_wp2_with fail;refine (ident_any _).mono ?_;rintro e w2 ⟨rfl, hb2⟩;have H2 := hI ((H1.out.low hb2).leaf 1 ⟨#[]⟩ 0 0 ⟨#[]⟩ (by decide) (by decide));clear hb2;go_wp2_with fail;refine (HR.out _ H2.out.r.p).mono ?_;rintro e w3 ⟨rfl, hg3, hp3⟩;have H3 := hI (H2.out.next hg3 hp3);clear hg3 hp3;go_wp2_with fail;refine (HFD.out (Own noS W w3 []) _ (Own.lt H3.out) (H3.out.t (identF, [ι 1, eS, ι 0, ι 0, eS, nL, nL, nL, nL]) mC)).mono ?_;rintro e w4 ⟨c10, c11, c12, c13, c14, c15, c16, c17, c18, rfl, hb4, hl4⟩;obtain ⟨Z1, rfl, rfl, rfl, rfl, rfl, rfl, rfl, rfl, rfl⟩ := fr9 hl4;have H4 := hI (H3.out.maker hb4 hl4);clear hb4 hl4;obtain ⟨⟨x0, Z1.d, x2, x3, x4, x5, x6, x7, x8⟩, z0, z1, z2, z3, z4, z5, z6, z7, z8⟩ := H4.out.r.cells;go_wp2_with fail;refine post9 Tryz.results184 rfl rfl (H4.out.r.r.put9z _ _ _ _ _ _ _ _ _) ?_;exact retF_of (H4.out.close (by first | exact mC | simp))
 · rw [if_neg h6] at hm;injection hm with hm
   injection hm with h3 h4
   subst h3; subst h4;have q6 : (((tk L σ.k).k : Int) == 6) = false := bF.2 (by omega);generalize tk L σ.k = t at HK q6 h6 ⊢;have hf0 := field_kind t;clear h6 HR
   go_enter Tryz.func184, Tryz.ntmps184
   go_wp2_with fail;refine (HK.out _ H0.out.r.p).mono ?_;rintro e w1 ⟨rfl, hb1⟩;have H1 := hI (H0.out.low hb1);clear hb1;go_wp2_with fail;refine (ident_any _).mono ?_;rintro e w2 ⟨rfl, hb2⟩;have H2 := hI ((H1.out.low hb2).leaf 1 ⟨#[]⟩ 0 0 ⟨#[]⟩ (by decide) (by decide));clear hb2;obtain ⟨⟨x0, Z1.d, x2, x3, x4, x5, x6, x7, x8⟩, z0, z1, z2, z3, z4, z5, z6, z7, z8⟩ := H2.out.r.cells;go_wp2_with fail;refine post9 Tryz.results184 rfl rfl (H2.out.r.r.put9z _ _ _ _ _ _ _ _ _) ?_;exact retF_of (H2.out.close (by first | exact mC | simp))
theorem scope_any {L : List Fk} (hL : TokL L) {gt C g : Nat} {call : Ru → PM} (hA : OkA L gt C g call) {S : Nat → Prop} (op : Int) (ss : List Ft) (A : Option Addr) (n : Nat) (xs : List Value) (hn : ss.length = n) (hn1 : n ≤ 1) (W : World) (σ τ : PS) (t : Ft) (hP : PAt L gt C g W σ) (hS : ∀ b, S b → b < W.heap.size ∧ b ≠ g)
 (hA0 : A = none → n = 0) (hRs : Rs W S A xs) (hLs : LiesFL W S ss xs) (h1c : ∀ u ∈ xs, u.oneCell' = true) (hm : scopeM L call op ss σ = some (t, τ)) :
 Calls Tryz.prog 154 #[.pointer (some ⟨g, 0, none⟩), ι op, .slice A n n] W (RetU S L gt C g W t τ) := by
 obtain ⟨f, σ1, h1, h2⟩ := bnd_some hm;injection h2 with h2
 injection h2 with h3 h4
 subst h3; subst h4;obtain ⟨i0, hi, hz0, hz1, hz2⟩ := infoF inf_fi;have H0 := hI (St.start hP hS);have HC := hI (fun W h => hA .filter W _ f σ1 h h1);have HK := hI (fun W (h : PAt L gt C g W σ) => kind_any hL 3 h);have HN := hI (fun W (h : PAt L gt C g W (kindS L 3 σ)) => need_any hL (⟨#[124]⟩ : ByteArray) h);have HNO := hI (fun A n c W => node_any op A n c W);have HSZ := hI (hL.size σ.k);have HRW := hI (And.intro hRs hLs);have HXL := hI (show xs.length = n * 9 by rw [hLs.len, hn]);have HA0 := hI hA0;have HSS := hI hn;have H1C := hI h1c;generalize (tk L σ.k).s = S3 at HK HSZ ⊢;clear hP hA hm h1 hRs hLs hA0 hn h1c
 go_enter Tryz.func154, Tryz.ntmps154
 go_wp2_with fail;refine (HK.out _ H0.out.r.p).mono ?_;rintro e w1 ⟨rfl, hg1, hp1⟩;have H1 := hI (H0.out.next hg1 hp1);clear hg1 hp1;go_wp2_with fail;refine (HN.out _ H1.out.r.p).mono ?_;rintro e w2 ⟨rfl, hg2, hp2⟩;have H2 := hI (H1.out.next hg2 hp2);clear hg2 hp2;go_wp2_with fail;refine (HC.out _ H2.out.r.p).mono ?_;rintro e w3 hZ;obtain ⟨Z1, rfl, hg3, hp3, hl3⟩ := fr3 hZ;have H3 := hI (H2.out.call hg3 hp3 hl3);clear hg3 hp3 hl3;have HO3 := hI (Own.lt H3.out);have HRW3 : Hid (Rs w3 (Own S W w3 []) A xs ∧ LiesFL w3 (Own S W w3 []) ss xs) := hI ⟨HRW.out.1.move fun b hb => ⟨.inl hb, H3.out.r.gr.block (hS b hb).1 (hS b hb).2⟩, HRW.out.2.move fun b hb => ⟨.inl hb, H3.out.r.gr.block (hS b hb).1 (hS b hb).2⟩⟩;have hap : ∀ b, A = some b → ∀ j u, xs[j]? = some u → (w3.alloc (.cells Z1.c 29)).cell? (b.add j) = some u := by
  intro b hb j u hj;obtain ⟨b', o, e, hS', hc⟩ := HRW3.out.1 j u hj;subst hb;injection e with e
  subst e;have h5 : (⟨b', o, none⟩ : Addr).add j = ⟨b', o + j, none⟩ := by unfold Addr.add; by_cases h : j = 0 <;> simp [h]
  rw [h5, World.cell?_alloc_lt _ _ _ (HO3.out b' hS')];exact hc
 have HAP := hI hap;clear hap
 go_wp2_with (at_builtin; refine wpList_append_grows _ rfl _ _ 27 rfl 29 i0 (.agg #[ι 0, eS, ι 0, ι 0, eS, nL, nL, nL, nL]) 9 152 Tryz.underlying27 hi hz0 hz1 hz2 rfl (by decide) A n n xs rfl (fun e => ⟨HA0.out e, HA0.out e⟩) HXL.out HAP.out ⟨w3.heap.size, 0, none⟩ 1 1 Z1.l rfl rfl (new9 _ _ Z1.c rfl) (one9 _ _ _ _ _ _ _ _ _ _ _ _ _ _ _ _ _) (by omega) (by unfold maxLen; omega) (by omega) ?_; intro v4 w4 hown4 hgr4)
 obtain ⟨A4, c4, rfl, a1, a2, a3, a4, a5, a6⟩ := own_open hown4;have HB4 : Hid (Below w3.heap.size w3 w4) := hI (((Below.refl _ _).alloc (Nat.le_refl _) (.cells Z1.c 29)).trans (((Below.refl _ _).grown hgr4 (Nat.le_refl _) (fun k hk => by simp at hk)).mono (by simp)));have HF4 := hI (H3.out.t (f, Z1.l) (by simp));have H4 := hI ((H3.out.low HB4.out).own_node op S3 (by have := HSZ.out; omega) (fs := ss ++ [f]) (n := n + 1) (by rw [List.length_append, HSS.out]; rfl) (by omega) a3 a1 a2 (a6.move fun b hb => ⟨.inr ⟨by have h5 := hb.1; have := H3.out.lt; simp at h5; omega, hb.2, fun q hq => by simp at hq⟩, rfl⟩) (LiesFL.append (HRW3.out.2.move (Own.gr H3.out (Gr.below HB4.out))) (LiesFL.one (LiesF.move HF4.out (Own.gr H3.out (Gr.below HB4.out))))));clear hown4 hgr4 a1 a2 a3 a4 a5 a6;go_wp2_with fail;refine (HNO.out _ _ _ _).mono ?_;rintro e w5 ⟨rfl, hb5⟩;have H5 := hI (H4.out.low hb5);clear hb5;obtain ⟨⟨x0, Z1.d, x2, x3, x4, x5, x6, x7, x8⟩, z0, z1, z2, z3, z4, z5, z6, z7, z8⟩ := H5.out.r.cells;have hlt5 := H5.out.lt;go_wp2_with fail;refine post9 Tryz.results154 rfl rfl ((H5.out.r.r.put9z _ _ _ _ _ _ _ _ _).alloc _) ?_;exact (H5.out.close (by first | exact mC | simp)).alloc (fun b hb => by rw [size9]; have := (hS b hb).1; have := H5.out.lt; omega) _
theorem param_any {L : List Fk} (hL : TokL L) {gt C g : Nat} (W : World) (σ τ : PS) (s : ByteArray) (hP : PAt L gt C g W σ) (hm : paramM L σ = some (s, τ)) :
 Calls Tryz.prog 163 #[.pointer (some ⟨g, 0, none⟩)] W (KindPost L gt C g W s τ) := by
 have HP := hI hP;have HR := hI (fun W (h : PAt L gt C g W σ) => read_any hL h);have HF := hI (fun t W (h : PAt L gt C g W (readP L σ)) => pfail_any hL t h);have HSZ := hI (hL.size σ.k);unfold paramM at hm;clear hP
 by_cases hk : (tk L σ.k).k = 1
 · rw [if_pos hk] at hm;injection hm with hm
   injection hm with h3 h4
   subst h3; subst h4;generalize tk L σ.k = t at HR HSZ hk ⊢;generalize readP L σ = τ at HR HF ⊢;obtain ⟨k, o, s, i⟩ := t;dsimp only at hk HSZ ⊢;subst hk
   go_enter Tryz.func163, Tryz.ntmps163
   go_wp2_with fail;refine (HR.out _ HP.out).mono ?_;rintro e w1 ⟨rfl, hg1, hp1⟩;have H1 := hI (And.intro (hg1.alloc (.cells #[ι (1 : Nat), ι o, .string s, ι i] 41)) (hp1.alloc (.cells #[ι (1 : Nat), ι o, .string s, ι i] 41)));clear hg1 hp1;go_wp2_with fail
   go_ret
   exact ⟨rfl, H1.out.1, H1.out.2⟩
 rw [if_neg hk] at hm
 by_cases hk3 : (tk L σ.k).k = 3
 · rw [if_pos hk3] at hm;injection hm with hm
   injection hm with h3 h4
   subst h3; subst h4;clear hk;have hk := hk3;clear hk3;generalize tk L σ.k = t at HR HSZ hk ⊢;generalize readP L σ = τ at HR HF ⊢;obtain ⟨k, o, s, i⟩ := t;dsimp only at hk HSZ ⊢;subst hk;have qa : ¬ (1 + s.size > 9223372036854775807) := by have := HSZ.out; omega
   go_enter Tryz.func163, Tryz.ntmps163
   go_wp2_with fail;refine (HR.out _ HP.out).mono ?_;rintro e w1 ⟨rfl, hg1, hp1⟩;have H1 := hI (And.intro (hg1.alloc (.cells #[ι (3 : Nat), ι o, .string s, ι i] 41)) (hp1.alloc (.cells #[ι (3 : Nat), ι o, .string s, ι i] 41)));clear hg1 hp1;go_wp2_with fail
   go_ret
   exact ⟨rfl, H1.out.1, H1.out.2⟩
 · rw [if_neg hk3] at hm;injection hm with hm
   injection hm with h3 h4
   subst h3; subst h4;have hk : ¬ (tk L σ.k).k = 1 ∧ ¬ (tk L σ.k).k = 3 := ⟨by assumption, hk3⟩
   clear hk3;generalize tk L σ.k = t at HR HSZ hk ⊢;generalize readP L σ = τ at HR HF ⊢;obtain ⟨k, o, s, i⟩ := t;dsimp only at hk HSZ ⊢;have q1 : ((k : Int) == 1) = false := bF.2 (by omega);have q3 : ((k : Int) == 3) = false := bF.2 (by omega);clear hk
   go_enter Tryz.func163, Tryz.ntmps163
   go_wp2_with fail;refine (HR.out _ HP.out).mono ?_;rintro e w1 ⟨rfl, hg1, hp1⟩;have H1 := hI (And.intro (hg1.alloc (.cells #[ι k, ι o, .string s, ι i] 41)) (hp1.alloc (.cells #[ι k, ι o, .string s, ι i] 41)));clear hg1 hp1;go_wp2_with fail;refine (HF.out ⟨k, o, s, i⟩ _ H1.out.2).mono ?_;rintro e w2 ⟨rfl, hg2, hp2⟩;have H2 := hI (And.intro (H1.out.1.trans hg2) hp2);clear hg2 hp2;go_wp2_with fail
   go_ret
   exact ⟨rfl, H2.out.1, H2.out.2⟩
def SrcPost (L : List Fk) (gt C g : Nat) (w : World) (t : Ft) (s : ByteArray) (τ : PS) (e : Ending) (w' : World) : Prop := ∃ c0 c1 c2 c3 c4 c5 c6 c7 c8, e = .returned (.tuple #[.agg #[c0, c1, c2, c3, c4, c5, c6, c7, c8], .string s]) ∧ Gr g w w' ∧ PAt L gt C g w' τ ∧ LiesF w' (Nw w.heap.size w'.heap.size) t [c0, c1, c2, c3, c4, c5, c6, c7, c8]
theorem srcPost_of {L : List Fk} {gt C g : Nat} {w w' : World} {t : Ft} {τ : PS} {c0 c1 c2 c3 c4 c5 c6 c7 c8 : Value} (s : ByteArray) (h : RetU noS L gt C g w t τ (.returned (.agg #[c0, c1, c2, c3, c4, c5, c6, c7, c8])) w') : SrcPost L gt C g w t s τ (.returned (.tuple #[.agg #[c0, c1, c2, c3, c4, c5, c6, c7, c8], .string s])) w' := by
 obtain ⟨d0, d1, d2, d3, d4, d5, d6, d7, d8, h1, h2, h3, h4⟩ := retF_of h;injection h1 with h1
 injection h1 with h1
 simp only [Array.mk.injEq, List.cons.injEq, and_true] at h1;obtain ⟨rfl, rfl, rfl, rfl, rfl, rfl, rfl, rfl, rfl⟩ := h1;exact ⟨_, _, _, _, _, _, _, _, _, rfl, h2, h3, h4⟩
theorem post9s {w : World} {r : Nat} {T : TypeId} {fn : Func} {a : Act} {R : Ending → World → Prop} {slot slot2 : Nat} {s : ByteArray} {c0 c1 c2 c3 c4 c5 c6 c7 c8 : Value} (hres : fn.results = #[ResultVar.cell slot 29, ResultVar.tmp slot2]) (ht : a.tmps.getD slot undef = .pointer (some ⟨r, 0, none⟩)) (ht3 : a.tmps.getD slot2 undef = .string s) (hd : a.defers = [])
 (hB : Box w r T #[c0, c1, c2, c3, c4, c5, c6, c7, c8]) (h : R (.returned (.tuple #[.agg #[c0, c1, c2, c3, c4, c5, c6, c7, c8], .string s])) w) : bodyPost Tryz.prog fn R Exit.ret a w := by
 obtain ⟨y0, y1, y2, y3, y4, y5, y6, y7, y8⟩ := box9 hB;have ht2 : a.tmps[slot]?.getD undef = .pointer (some ⟨r, 0, none⟩) := by simpa using ht
 have ht4 : a.tmps[slot2]?.getD undef = .string s := by simpa using ht3
 exact bodyPost_ret (v := .tuple #[.agg #[c0, c1, c2, c3, c4, c5, c6, c7, c8], .string s]) (by simp [results, hres, ht2, ht4, go_sem, y0, y1, y2, y3, y4, y5, y6, y7, y8]) hd h
theorem source_any {L : List Fk} (hL : TokL L) {gt C g : Nat} {call : Ru → PM} (hA : OkA L gt C g call) (W : World) (σ τ : PS) (t : Ft) (s : ByteArray) (hP : PAt L gt C g W σ) (hm : sourceM L call σ = some ((t, s), τ)) :
 Calls Tryz.prog 198 #[.pointer (some ⟨g, 0, none⟩)] W (SrcPost L gt C g W t s τ) := by
 obtain ⟨f, σ1, h1, h2⟩ := bnd_some hm;injection h2 with h2
 injection h2 with h3 h4
 injection h3 with h5 h6
 subst h4; subst h5; subst h6;have H0 := hI (St.begin hP);have HC := hI (fun W h => hA .post W _ f σ1 h h1);have HN := hI (fun W (h : PAt L gt C g W σ1) => need_any hL (⟨#[97, 115]⟩ : ByteArray) h);generalize needP L (⟨#[97, 115]⟩ : ByteArray) σ1 = σ2 at HN ⊢;have HK := hI (fun W (h : PAt L gt C g W σ2) => kind_any hL 3 h);have HN2 := hI (fun W (h : PAt L gt C g W (kindS L 3 σ2)) => need_any hL (⟨#[40]⟩ : ByteArray) h);generalize (tk L σ2.k).s = S3 at HK ⊢;clear hP hA hm h1
 go_enter Tryz.func198, Tryz.ntmps198
 go_wp2_with fail;refine (HC.out _ H0.out.r.p).mono ?_;rintro e w1 hZ;obtain ⟨Z1, rfl, hg1, hp1, hl1⟩ := fr3 hZ;have H1 := hI ((H0.out.call hg1 hp1 hl1).box Z1.c);clear hg1 hp1 hl1;go_wp2_with fail;refine (HN.out _ H1.out.r.p).mono ?_;rintro e w2 ⟨rfl, hg2, hp2⟩;have H2 := hI (H1.out.next hg2 hp2);clear hg2 hp2;go_wp2_with fail;refine (HK.out _ H2.out.r.p).mono ?_;rintro e w3 ⟨rfl, hg3, hp3⟩;have H3 := hI (H2.out.next hg3 hp3);clear hg3 hp3;go_wp2_with fail;refine (HN2.out _ H3.out.r.p).mono ?_;rintro e w4 ⟨rfl, hg4, hp4⟩;have H4 := hI (H3.out.next hg4 hp4);clear hg4 hp4;obtain ⟨y0, Z1.x, y2, y3, y4, y5, y6, y7, y8⟩ := box9 (H4.out.bx (q := w1.heap.size) (c := Z1.c) (by simp));obtain ⟨⟨x0, Z1.d, x2, x3, x4, x5, x6, x7, x8⟩, z0, z1, z2, z3, z4, z5, z6, z7, z8⟩ := H4.out.r.cells;go_wp2_with fail;refine post9s Tryz.results198 rfl rfl rfl (H4.out.r.r.put9z _ _ _ _ _ _ _ _ _) ?_;exact srcPost_of _ (H4.out.close (by first | exact mC | simp))
