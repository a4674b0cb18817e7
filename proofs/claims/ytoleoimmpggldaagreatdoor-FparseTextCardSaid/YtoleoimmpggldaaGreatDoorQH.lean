import Derived.Test.YtoleoimmpggldaaGreatDoorQG
import Derived.Test.YtoleoimmpggldaaGreatDoorRnN
import Derived.Test.YtoleoimmpggldaaGreatDoorHG
import Derived.Test.YtoleoimmpggldaaGreatDoorHJ
import Derived.Test.YtoleoimmpggldaaGreatDoorHF
import Derived.Test.YtoleoimmpggldaaGreatDoorQC
set_option linter.unusedVariables false
set_option linter.unusedSectionVars false
set_option linter.unusedSimpArgs false
set_option maxHeartbeats 10000000
set_option maxRecDepth 100000
namespace Go.Proofs.YtoleoimmpggldaaGreatDoor
open Go.RowKit
theorem atB_at {p : UInt8 → Bool} {l : List UInt8} {j : Nat} {b : UInt8} (h : l[j]? = some b) : atB p l j = p b := by unfold atB; rw [h]
theorem rnext_any (s : ByteArray) (k : Int) (hs : s.size ≤ 1048576) (w : World) : Calls Tryz.prog 38 #[.string s, ι k] w (LexPost (lexP s.data.toList k) w) := by
 have hl : s.data.toList.length = s.size := by simp
 have HL := hI hl;have hsm : s.size ≤ maxLen := by unfold maxLen; omega
 have HSM := hI hsm;clear hl hsm;obtain ⟨W1, hW1⟩ : ∃ X, X = w.alloc (.cells #[ι 0, ι 0, ι 0, .int .u8 0, ι 0, eS] 67) := ⟨_, rfl⟩
 have HBX : Hid (Box W1 w.heap.size 67 #[ι 0, ι 0, ι 0, .int .u8 0, ι 0, eS]) := hI (by rw [hW1]; exact Box.laid w _ _);have HBL : Hid (Below w.heap.size w W1) := hI (by rw [hW1]; exact (Below.refl _ _).alloc (Nat.le_refl _) _);have HW1 := hI hW1;clear hW1
 by_cases hout : k < 0 ∨ (s.size : Int) < k
 · have HW : Hid (lexP s.data.toList k = noX 0 3) := hI (by unfold lexP; rw [HL.out, if_pos hout]);rw [HW.out];obtain ⟨t0, t1, t2, t3, t4, t5⟩ := box6 HBX.out;obtain ⟨f0, f1, f2, f3, f4, f5⟩ := free6 HBX.out;rcases hout with h | h
   all_goals
    go_enter Tryz.func38, Tryz.ntmps38
    go_upto_region 1 with fail;rw [← HW1.out];go_wp2_with fail;exact lex_ret Tryz.results38 rfl rfl rfl rfl (put6 HBX.out _ _ _ _ _ _) (below_six (Nat.le_refl _) HBL.out _ _ _ _ _ _)
 · obtain ⟨n, rfl⟩ : ∃ n : Nat, k = (n : Int) := ⟨k.toNat, by omega⟩
   have hn : n ≤ s.size := by omega
   obtain ⟨f, hf⟩ : ∃ f, span blankB s.data.toList n = f := ⟨_, rfl⟩
   have hfs : f ≤ s.size := by
    have h := span_le (p := blankB) (l := s.data.toList) (k := n) (by rw [HL.out]; exact hn);rw [HL.out, hf] at h;exact h
   have HW0 : Hid (lexP s.data.toList (n : Int) = lexN s.data.toList f) := hI (by
    unfold lexP;rw [HL.out, if_neg hout, Int.toNat_natCast, hf])
   have hsk := fun W => rskip_any s n HSM.out hn W
   rw [hf] at hsk;have HSK := hI hsk;clear hout hsk hf;have hq1 : decide ((n : Int) < 0) = false := by simp
   have hq2 : decide ((s.size : Int) < (n : Int)) = false := by simp; omega
   have hq3 : decide (s.size < n) = false := by simp; omega
   rw [HW0.out]
   by_cases hend : f = s.size
   · have HW : Hid (lexN s.data.toList f = okX 0 f f 0 0 ⟨#[]⟩) := hI (lexN_end (by rw [HL.out]; exact hend));rw [HW.out];have hqe : ((f : Int) == (s.size : Int)) = true := by rw [beq_iff_eq]; omega
     clear hend;obtain ⟨t0, t1, t2, t3, t4, t5⟩ := box6 HBX.out;obtain ⟨f0, f1, f2, f3, f4, f5⟩ := free6 HBX.out
     go_enter Tryz.func38, Tryz.ntmps38
     go_upto_region 1 with fail;rw [← HW1.out]
     go_wp2_with (go_at_call 32; refine (HSK.out _).mono ?_; rintro e w' ⟨rfl, rfl⟩)
     exact lex_ret Tryz.results38 rfl rfl rfl rfl (put6 HBX.out _ _ _ _ _ _) (below_six (Nat.le_refl _) HBL.out _ _ _ _ _ _)
   · have hqe : ((f : Int) == (s.size : Int)) = false := bF.2 (fun h => hend (by omega));have hflt : f < s.size := by omega
     obtain ⟨b, hb⟩ : ∃ b, s[f] = b := ⟨_, rfl⟩
     have HB := hI (at_list hflt hb);have HAT := hI (lexN_at HB.out);have hb255 := UInt8.toNat_lt b;clear hend;have hlt0 := fun W => rletter_any s f HSM.out W
     rw [atB_at HB.out] at hlt0;have hdg0 := fun W => rdigit_any s f HSM.out W
     rw [atB_at HB.out] at hdg0;have HLT := hI hlt0;have HDG := hI hdg0;clear hlt0 hdg0;obtain ⟨sb, hsb⟩ : ∃ sb, sb = signB b := ⟨_, rfl⟩
     have HSB := hI hsb;rw [← hsb] at HAT;clear hsb
     go_enter Tryz.func38, Tryz.ntmps38
     go_upto_region 1 with fail;rw [← HW1.out];go_upto_region 7 with (go_at_call 32; refine (HSK.out _).mono ?_; rintro e w' ⟨rfl, rfl⟩)
     go_cut [31] (fun t31 wx => wx = W1 ∧ t31 = .bool sb)
     case first => as_aux_lemma =>
      by_cases d0 : b.toNat = 91
      · have m0 : ((b.toNat : Int) == 91) = true := by rw [beq_iff_eq]; omega
        have hz := HSB.out;have hsb : signB b = true := by unfold signB; rw [decide_eq_true_iff]; omega
        rw [hsb] at hz;have HZ := hI hz;clear hz hsb d0;go_wp2_with fail
        go_meet
        exact ⟨rfl, by rw [HZ.out]⟩
      · have m0 : ((b.toNat : Int) == 91) = false := bF.2 (fun h => d0 (by omega))
        by_cases d1 : b.toNat = 93
        · have m1 : ((b.toNat : Int) == 93) = true := by rw [beq_iff_eq]; omega
          have hz := HSB.out;have hsb : signB b = true := by unfold signB; rw [decide_eq_true_iff]; omega
          rw [hsb] at hz;have HZ := hI hz;clear hz hsb d0 d1;go_wp2_with fail
          go_meet
          exact ⟨rfl, by rw [HZ.out]⟩
        · have m1 : ((b.toNat : Int) == 93) = false := bF.2 (fun h => d1 (by omega))
          by_cases d2 : b.toNat = 123
          · have m2 : ((b.toNat : Int) == 123) = true := by rw [beq_iff_eq]; omega
            have hz := HSB.out;have hsb : signB b = true := by unfold signB; rw [decide_eq_true_iff]; omega
            rw [hsb] at hz;have HZ := hI hz;clear hz hsb d0 d1 d2;go_wp2_with fail
            go_meet
            exact ⟨rfl, by rw [HZ.out]⟩
          · have m2 : ((b.toNat : Int) == 123) = false := bF.2 (fun h => d2 (by omega))
            by_cases d3 : b.toNat = 125
            · have m3 : ((b.toNat : Int) == 125) = true := by rw [beq_iff_eq]; omega
              have hz := HSB.out;have hsb : signB b = true := by unfold signB; rw [decide_eq_true_iff]; omega
              rw [hsb] at hz;have HZ := hI hz;clear hz hsb d0 d1 d2 d3;go_wp2_with fail
              go_meet
              exact ⟨rfl, by rw [HZ.out]⟩
            · have m3 : ((b.toNat : Int) == 125) = false := bF.2 (fun h => d3 (by omega))
              by_cases d4 : b.toNat = 44
              · have m4 : ((b.toNat : Int) == 44) = true := by rw [beq_iff_eq]; omega
                have hz := HSB.out;have hsb : signB b = true := by unfold signB; rw [decide_eq_true_iff]; omega
                rw [hsb] at hz;have HZ := hI hz;clear hz hsb d0 d1 d2 d3 d4;go_wp2_with fail
                go_meet
                exact ⟨rfl, by rw [HZ.out]⟩
              · have m4 : ((b.toNat : Int) == 44) = false := bF.2 (fun h => d4 (by omega))
                by_cases d5 : b.toNat = 58
                · have m5 : ((b.toNat : Int) == 58) = true := by rw [beq_iff_eq]; omega
                  have hz := HSB.out;have hsb : signB b = true := by unfold signB; rw [decide_eq_true_iff]; omega
                  rw [hsb] at hz;have HZ := hI hz;clear hz hsb d0 d1 d2 d3 d4 d5;go_wp2_with fail
                  go_meet
                  exact ⟨rfl, by rw [HZ.out]⟩
                · have m5 : ((b.toNat : Int) == 58) = false := bF.2 (fun h => d5 (by omega));have hz := HSB.out;have hsb : signB b = false := by unfold signB; rw [decide_eq_false_iff_not]; omega
                  rw [hsb] at hz;have HZ := hI hz;clear hz hsb d0 d1 d2 d3 d4 d5;go_wp2_with fail
                  go_meet
                  exact ⟨rfl, by rw [HZ.out]⟩
     case rest =>
      obtain ⟨hweq, rfl⟩ := hcut;have hweq := hweq.symm;subst hweq
      cases sb with
      | true => as_aux_lemma =>
       have HW := hI (HAT.out.trans (if_pos rfl));obtain ⟨t0, t1, t2, t3, t4, t5⟩ := box6 HBX.out;obtain ⟨f0, f1, f2, f3, f4, f5⟩ := free6 HBX.out;go_wp2_with fail;rw [HW.out];exact lex_ret Tryz.results38 rfl rfl rfl rfl (put6 HBX.out _ _ _ _ _ _) (below_six (Nat.le_refl _) HBL.out _ _ _ _ _ _)
      | false =>
       cases c2 : letB b with
       | true => as_aux_lemma =>
        rw [c2] at HLT HAT;have HX := hI (lex_as (rword_any s f HSM.out hflt W1) (x := wordP s.data.toList f) (y := lexN s.data.toList f) (by rw [HAT.out, if_neg Bool.false_ne_true, if_pos rfl]));obtain ⟨x, hx⟩ : ∃ x, lexN s.data.toList f = x := ⟨_, rfl⟩
        rw [hx] at HX;have HXE := hI hx;clear hx;clear c2
        go_wp2_with (first
         | (go_at_call 59; refine (HLT.out _).mono ?_; rintro e w' ⟨rfl, rfl⟩)
         | (go_at_call 60; refine (lex_open HX.out).mono ?_; rintro e w' ⟨rfl, hb'⟩; have bx := HBX.out.below hb' HBX.out.lt; obtain ⟨t0, t1, t2, t3, t4, t5⟩ := box6 bx; obtain ⟨f0, f1, f2, f3, f4, f5⟩ := free6 bx))
        rw [HXE.out];exact lex_ret Tryz.results38 rfl rfl rfl rfl (put6 bx _ _ _ _ _ _) (below_six (Nat.le_refl _) (HBL.out.trans (hb'.mono HBL.out.size)) _ _ _ _ _ _)
       | false =>
        rw [c2] at HLT HAT;clear c2
        by_cases c3 : b.toNat = 45 ∨ digB b = true
        · have HX := hI (lex_as (rnumber_any s f hs hflt W1) (x := numP s.data.toList f) (y := lexN s.data.toList f) (by rw [HAT.out, if_neg Bool.false_ne_true, if_neg Bool.false_ne_true, if_pos c3]));obtain ⟨x, hx⟩ : ∃ x, lexN s.data.toList f = x := ⟨_, rfl⟩
          rw [hx] at HX;have HXE := hI hx;clear hx
          by_cases c4 : b.toNat = 45
          · have q1 : ((b.toNat : Int) == 45) = true := by rw [beq_iff_eq]; omega
            clear c3 c4
            go_wp2_with (first
             | (go_at_call 59; refine (HLT.out _).mono ?_; rintro e w' ⟨rfl, rfl⟩)
             | (go_at_call 62; refine (lex_open HX.out).mono ?_; rintro e w' ⟨rfl, hb'⟩; have bx := HBX.out.below hb' HBX.out.lt; obtain ⟨t0, t1, t2, t3, t4, t5⟩ := box6 bx; obtain ⟨f0, f1, f2, f3, f4, f5⟩ := free6 bx))
            rw [HXE.out];exact lex_ret Tryz.results38 rfl rfl rfl rfl (put6 bx _ _ _ _ _ _) (below_six (Nat.le_refl _) (HBL.out.trans (hb'.mono HBL.out.size)) _ _ _ _ _ _)
          · have q1 : ((b.toNat : Int) == 45) = false := bF.2 (fun h => c4 (by omega));have c5 : digB b = true := c3.resolve_left c4;rw [c5] at HDG;clear c3 c4 c5
            go_wp2_with (first
             | (go_at_call 59; refine (HLT.out _).mono ?_; rintro e w' ⟨rfl, rfl⟩)
             | (go_at_call 61; refine (HDG.out _).mono ?_; rintro e w' ⟨rfl, rfl⟩)
             | (go_at_call 62; refine (lex_open HX.out).mono ?_; rintro e w' ⟨rfl, hb'⟩; have bx := HBX.out.below hb' HBX.out.lt; obtain ⟨t0, t1, t2, t3, t4, t5⟩ := box6 bx; obtain ⟨f0, f1, f2, f3, f4, f5⟩ := free6 bx))
            rw [HXE.out];exact lex_ret Tryz.results38 rfl rfl rfl rfl (put6 bx _ _ _ _ _ _) (below_six (Nat.le_refl _) (HBL.out.trans (hb'.mono HBL.out.size)) _ _ _ _ _ _)
        · have q1 : ((b.toNat : Int) == 45) = false := bF.2 (fun h => c3 (.inl (by omega)));have c5 : digB b = false := by cases h : digB b with | false => rfl | true => exact absurd (.inr h) c3
          have HAT2 := hI (by have h := HAT.out; rw [if_neg Bool.false_ne_true, if_neg Bool.false_ne_true, if_neg c3] at h; exact h);rw [c5] at HDG;clear c3 c5
          by_cases c6 : b.toNat = 34
          · have HX := hI (lex_as (rtext_any s f hs hflt W1) (x := strP s.data.toList f) (y := lexN s.data.toList f) (by rw [HAT2.out, if_pos c6]));obtain ⟨x, hx⟩ : ∃ x, lexN s.data.toList f = x := ⟨_, rfl⟩
            rw [hx] at HX;have HXE := hI hx;clear hx;have q2 : ((b.toNat : Int) == 34) = true := by rw [beq_iff_eq]; omega
            clear c6
            go_wp2_with (first
             | (go_at_call 59; refine (HLT.out _).mono ?_; rintro e w' ⟨rfl, rfl⟩)
             | (go_at_call 61; refine (HDG.out _).mono ?_; rintro e w' ⟨rfl, rfl⟩)
             | (go_at_call 63; refine (lex_open HX.out).mono ?_; rintro e w' ⟨rfl, hb'⟩; have bx := HBX.out.below hb' HBX.out.lt; obtain ⟨t0, t1, t2, t3, t4, t5⟩ := box6 bx; obtain ⟨f0, f1, f2, f3, f4, f5⟩ := free6 bx))
            rw [HXE.out];exact lex_ret Tryz.results38 rfl rfl rfl rfl (put6 bx _ _ _ _ _ _) (below_six (Nat.le_refl _) (HBL.out.trans (hb'.mono HBL.out.size)) _ _ _ _ _ _)
          · have HW := hI (HAT2.out.trans (if_neg c6));have q2 : ((b.toNat : Int) == 34) = false := bF.2 (fun h => c6 (by omega));clear c6;obtain ⟨t0, t1, t2, t3, t4, t5⟩ := box6 HBX.out;obtain ⟨f0, f1, f2, f3, f4, f5⟩ := free6 HBX.out
            go_wp2_with (first
             | (go_at_call 59; refine (HLT.out _).mono ?_; rintro e w' ⟨rfl, rfl⟩)
             | (go_at_call 61; refine (HDG.out _).mono ?_; rintro e w' ⟨rfl, rfl⟩))
            rw [HW.out];exact lex_ret Tryz.results38 rfl rfl rfl rfl (put6 HBX.out _ _ _ _ _ _) (below_six (Nat.le_refl _) HBL.out _ _ _ _ _ _)
end Go.Proofs.YtoleoimmpggldaaGreatDoor
namespace Go.Proofs.YtoleoimmpggldaaGreatDoor
open Go.RowKit
theorem rname_any (b : UInt8) (w : World) : Calls Tryz.prog 33 #[.int .u8 b.toNat] w fun e w' => e = .returned (.bool (nameB b)) ∧ w = w' := by
 have hb := UInt8.toNat_lt b;unfold nameB;generalize b.toNat = n at *
 go_enter Tryz.func33, Tryz.ntmps33
 go_wp2
 all_goals go_ret
 all_goals exact ⟨ret_bool (by (try simp only [beq_iff_eq, bF, decide_eq_true_eq, decide_eq_false_iff_not, ne_eq] at *); rw [Bool.eq_iff_iff]; first | (simp; omega) | (simp; done) | omega), rfl⟩
theorem rdig_any (b : UInt8) (w : World) : Calls Tryz.prog 36 #[.int .u8 b.toNat] w fun e w' => e = .returned (.bool (digB b)) ∧ w = w' := by
 have hb := UInt8.toNat_lt b;unfold digB;generalize b.toNat = n at *
 go_enter Tryz.func36, Tryz.ntmps36
 go_wp2
 all_goals go_ret
 all_goals exact ⟨ret_bool (by (try simp only [beq_iff_eq, bF, decide_eq_true_eq, decide_eq_false_iff_not, ne_eq] at *); rw [Bool.eq_iff_iff]; first | (simp; omega) | (simp; done) | omega), rfl⟩
theorem rkw_any (s : ByteArray) (w : World) : Calls Tryz.prog 57 #[.string s] w fun e w' => e = .returned (.bool (kwB s.data.toList)) ∧ w = w' := by
 rw [← Lib.toList_data];obtain ⟨X, hX⟩ : ∃ X, s.toList = X := ⟨_, rfl⟩
 rw [hX];unfold kwB
 go_enter Tryz.func57, Tryz.ntmps57
 go_wp2
 all_goals go_ret
 all_goals exact ⟨ret_bool (by simp_all), rfl⟩
def wordE (l : List UInt8) (k : Nat) : Nat := if atF nameB l k = true then span nmdB l k else k
theorem rwordE_any (s : ByteArray) (k : Nat) (hs : s.size ≤ maxLen) (hk : k ≤ s.size) (w : World) : Calls Tryz.prog 35 #[.string s, ι k] w fun e w' => e = .returned (ι (wordE s.data.toList k : Nat)) ∧ w = w' := by
 unfold maxLen at hs;have hl : s.data.toList.length = s.size := by simp
 have HL := hI hl;clear hl
 by_cases hin : k < s.size
 · obtain ⟨b0, hb0⟩ : ∃ b, s[k] = b := ⟨_, rfl⟩
   have HB0 := hI (at_list hin hb0);have HA0 := hI (fun W => rname_any b0 W)
   cases h0 : nameB b0 with
   | false =>
    have HW : Hid (wordE s.data.toList k = k) := hI (by unfold wordE; rw [atF_at HB0.out, h0]; rfl);rw [h0] at HA0;rw [HW.out]
    go_enter Tryz.func35, Tryz.ntmps35
    go_wp2_with (go_at_call 33; refine (HA0.out _).mono ?_; rintro e w' ⟨rfl, rfl⟩)
    all_goals go_ret
    all_goals exact ⟨rfl, rfl⟩
   | true =>
    have HW : Hid (wordE s.data.toList k = span nmdB s.data.toList k) := hI (by unfold wordE; rw [atF_at HB0.out, h0]; rfl);rw [h0] at HA0;rw [HW.out];have hq3 : decide (s.size ≤ k) = false := by rw [decide_eq_false_iff_not]; omega
    have hq4 : decide ((s.size : Int) ≤ (k : Int)) = false := by rw [decide_eq_false_iff_not]; omega
    clear h0
    go_enter Tryz.func35, Tryz.ntmps35
    go_wp2_with (go_at_call 33; refine (HA0.out _).mono ?_; rintro e w' ⟨rfl, rfl⟩)
    go_loop [1] (fun t => ∃ j : Nat, j ≤ s.size ∧ t = ι j ∧ span nmdB s.data.toList k = span nmdB s.data.toList j) (fun t => s.size - (intOf t).toNat)
    case atStart => exact ⟨k, hk, rfl, rfl⟩
    case round =>
     obtain ⟨j, hj, rfl, hsp⟩ := hrel;have HS := hI hsp;clear hsp
     by_cases hlt : j < s.size
     · obtain ⟨b, hb⟩ : ∃ b, s[j] = b := ⟨_, rfl⟩
       have H3 := hI (at_list hlt hb);have HA := hI (fun W => rname_any b W);have HB := hI (fun W => rdig_any b W)
       cases h1 : nameB b with
       | true =>
        have HN := hI (span_inq H3.out (show nmdB b = true by rw [nmd_split, h1]; rfl));rw [h1] at HA;clear h1
        go_wp2_with (go_at_call 33; refine (HA.out _).mono ?_; rintro e w' ⟨rfl, rfl⟩)
        go_round
        case rel => exact ⟨j + 1, by omega, by go_num, HS.out.trans HN.out⟩
        case measure => simp [intOf]; omega
       | false =>
        rw [h1] at HA
        cases h2 : digB b with
        | true =>
         have HN := hI (span_inq H3.out (show nmdB b = true by rw [nmd_split, h1, h2]; rfl));rw [h2] at HB;clear h1 h2
         go_wp2_with (first
          | (go_at_call 33; refine (HA.out _).mono ?_; rintro e w' ⟨rfl, rfl⟩)
          | (go_at_call 36; refine (HB.out _).mono ?_; rintro e w' ⟨rfl, rfl⟩))
         go_round
         case rel => exact ⟨j + 1, by omega, by go_num, HS.out.trans HN.out⟩
         case measure => simp [intOf]; omega
        | false =>
         have HN := hI (span_noq H3.out (show nmdB b = false by rw [nmd_split, h1, h2]; rfl));rw [h2] at HB;clear h1 h2
         go_wp2_with (first
          | (go_at_call 33; refine (HA.out _).mono ?_; rintro e w' ⟨rfl, rfl⟩)
          | (go_at_call 36; refine (HB.out _).mono ?_; rintro e w' ⟨rfl, rfl⟩))
         go_ret
         exact ⟨ret_int (by rw [HS.out, HN.out]), rfl⟩
     · have HN := hI (span_end (p := nmdB) (l := s.data.toList) (k := j) (by rw [HL.out]; omega));have hje : j = s.size := by omega
       go_wp2
       all_goals go_ret
       all_goals exact ⟨ret_int (by rw [HS.out, HN.out]; (try omega)), rfl⟩
 · have HW : Hid (wordE s.data.toList k = k) := hI (by unfold wordE; rw [atF_end (by rw [HL.out]; omega)]; rfl);rw [HW.out]
   go_enter Tryz.func35, Tryz.ntmps35
   go_wp2
   all_goals go_ret
   all_goals exact ⟨rfl, rfl⟩
end Go.Proofs.YtoleoimmpggldaaGreatDoor
namespace Go.Proofs.YtoleoimmpggldaaGreatDoor
open Go.RowKit
theorem rgap_any (s : ByteArray) (k : Nat) (hs : s.size ≤ maxLen) (hk : k ≤ s.size) (w : World) : Calls Tryz.prog 20 #[.string s, ι k] w fun e w' => e = .returned (ι (gapP s.data.toList k : Nat)) ∧ w = w' := by
 have HSK := hI (fun j (hj : j ≤ s.size) W => rskip_any s j hs hj W);unfold maxLen at hs;have HL := hI (show s.data.toList.length = s.size by simp)
 go_enter Tryz.func20, Tryz.ntmps20
 go_wp2
 go_loop [1] (fun t => ∃ j : Nat, j ≤ s.size ∧ t = ι j ∧ Hid (gapP s.data.toList k = gapP s.data.toList j)) (fun t => s.size - (intOf t).toNat)
 case atStart => exact ⟨k, hk, rfl, hI rfl⟩
 case round =>
  obtain ⟨j, hj, rfl, HG⟩ := hrel;have hm0 := GapAt.start (l := s.data.toList) (k := j) (by rw [HL.out]; exact hj);have hjm := span_ge blankB s.data.toList j;have hms : span blankB s.data.toList j ≤ s.size := by rw [← HL.out]; exact span_le (by rw [HL.out]; exact hj)
  have HS := hI (HSK.out j hj);generalize span blankB s.data.toList j = m at hm0 hjm hms HS;have HM := hI hm0;clear hm0
  by_cases hlt : m < s.size
  · obtain ⟨b, hb⟩ : ∃ b, s[m] = b := ⟨_, rfl⟩
    have HB := hI (at_list hlt hb);have qm : ((m : Int) == (s.size : Int)) = false := bF.2 (fun h => by omega)
    by_cases h35 : b.toNat = 35
    · have q35 : ((b.toNat : Int) != 35) = false := by rw [bne_eq_false_iff_eq]; omega
      have hg1 := gap_line HB.out h35;have hp1 : m + 1 ≤ span nolfB s.data.toList m := by
       rw [span_inq HB.out (by unfold nolfB; simp; omega)];exact span_ge _ _ _
      have hps : span nolfB s.data.toList m ≤ s.size := by rw [← HL.out]; exact span_le (by rw [HL.out]; exact hms)
      obtain ⟨p, hp⟩ : ∃ p, span nolfB s.data.toList m = p := ⟨_, rfl⟩
      have HP := hI hp;rw [hp] at hg1 hp1 hps;have HGP := hI (HG.out.trans (HM.out.1.trans hg1));clear h35 hg1 hp
      go_wp2_with (go_at_call 32; refine (HS.out _).mono ?_; rintro e w' ⟨rfl, rfl⟩)
      go_loop [1] (fun t => ∃ i : Nat, m ≤ i ∧ i ≤ s.size ∧ t = ι i ∧ Hid (span nolfB s.data.toList m = span nolfB s.data.toList i)) (fun t => s.size - (intOf t).toNat)
      case atStart => exact ⟨m, Nat.le_refl _, hms, rfl, hI rfl⟩
      case round =>
       obtain ⟨i, hmi, hi, rfl, HSI⟩ := hrel
       by_cases hil : i < s.size
       · obtain ⟨c, hc⟩ : ∃ c, s[i] = c := ⟨_, rfl⟩
         have HC := hI (at_list hil hc)
         by_cases h10 : c.toNat = 10
         · have q10 : ((c.toNat : Int) != 10) = false := by rw [bne_eq_false_iff_eq]; omega
           have HN := hI (span_noq HC.out (p := nolfB) (by unfold nolfB; simp; omega));clear h10;go_wp2_with fail
           go_round
           case rel => exact ⟨i, hi, rfl, hI (by rw [HGP.out, ← HP.out, HSI.out, HN.out])⟩
           case measure => have := HP.out; have := HSI.out; have := HN.out; simp [intOf]; omega
         · have q10 : ((c.toNat : Int) != 10) = true := by rw [bne_iff_ne]; omega
           have HN := hI (span_inq HC.out (p := nolfB) (by unfold nolfB; simp; omega));clear h10;go_wp2_with fail
           go_round
           case rel => exact ⟨i + 1, by omega, by omega, by go_num, hI (HSI.out.trans HN.out)⟩
           case measure => simp [intOf]; omega
       · have HN := hI (span_end (p := nolfB) (l := s.data.toList) (k := i) (by rw [HL.out]; omega));go_wp2_with fail
         go_round
         case rel => exact ⟨i, hi, rfl, hI (by rw [HGP.out, ← HP.out, HSI.out, HN.out])⟩
         case measure => have := HP.out; have := HSI.out; have := HN.out; simp [intOf]; omega
    · have q35 : ((b.toNat : Int) != 35) = true := by rw [bne_iff_ne]; omega
      have HE := hI (HG.out.trans (HM.out.stop HB.out h35));clear h35
      go_wp2_with (go_at_call 32; refine (HS.out _).mono ?_; rintro e w' ⟨rfl, rfl⟩)
      go_ret
      exact ⟨ret_int (by rw [HE.out]), rfl⟩
  · have hme : m = s.size := by omega
    have HE := hI (HG.out.trans (HM.out.end_ (by rw [HL.out]; exact hme)));have qm : ((m : Int) == (s.size : Int)) = true := by rw [beq_iff_eq]; omega
    clear hme
    go_wp2_with (go_at_call 32; refine (HS.out _).mono ?_; rintro e w' ⟨rfl, rfl⟩)
    go_ret
    exact ⟨ret_int (by rw [HE.out]), rfl⟩
end Go.Proofs.YtoleoimmpggldaaGreatDoor
namespace Go.Proofs.YtoleoimmpggldaaGreatDoor
open Go.RowKit
def RxPost (x : Fx) (w : World) (e : Ending) (w' : World) : Prop := e = .returned x.rval ∧ Below w.heap.size w w'
theorem rx_ok {x : Fx} {w w' : World} {f : FuncId} {args : Array Value} (hx : x.e = 0) (h : Calls Tryz.prog f args w (RxPost x w)) : Calls Tryz.prog f args w fun e w' => e = .returned (.tuple #[.agg #[ι x.t.k, ι x.t.o, .string x.t.s, ι x.t.i], ι x.p, ι 0, ι 0]) ∧ Below w.heap.size w w' := by
 refine h.mono fun e w' he => ⟨he.1.trans ?_, he.2⟩
 unfold Fx.rval Fk.cs;rw [hx, if_pos rfl, if_pos rfl]
 rfl
theorem rx_no {x : Fx} {w w' : World} {f : FuncId} {args : Array Value} (hx : ¬ x.e = 0) (h : Calls Tryz.prog f args w (RxPost x w)) : Calls Tryz.prog f args w fun e w' => e = .returned (.tuple #[.agg #[ι x.t.k, ι x.t.o, .string x.t.s, ι x.t.i], ι 0, ι x.p, ι x.e]) ∧ Below w.heap.size w w' := by
 refine h.mono fun e w' he => ⟨he.1.trans ?_, he.2⟩
 unfold Fx.rval Fk.cs;rw [if_neg hx, if_neg hx]
 rfl
theorem rx_ret {F : Func} {a b c d : Nat} {x : Fx} {w : World} {A : Act} {X : World} {g : Nat} {p q e : Nat} (hr : F.results = #[.cell a 41, .tmp b, .tmp c, .tmp d])
 (ha : A.tmps[a]?.getD undef = .pointer (some ⟨g, 0, none⟩)) (hb : A.tmps[b]?.getD undef = ι p) (hc : A.tmps[c]?.getD undef = ι q) (hd2 : A.tmps[d]?.getD undef = ι e) (hd : A.defers = [])
 (hp : (if x.e = 0 then x.p else 0) = p) (hq : (if x.e = 0 then 0 else x.p) = q) (he : x.e = e)
 (bx : Box X g 41 #[ι x.t.k, ι x.t.o, .string x.t.s, ι x.t.i])
 (h : Below w.heap.size w X) : bodyPost Tryz.prog F (RxPost x w) Exit.ret A X := by
 obtain ⟨t0, t1, t2, t3⟩ := box4 bx;refine bodyPost_ret (v := .tuple #[.agg #[ι x.t.k, ι x.t.o, .string x.t.s, ι x.t.i], ι p, ι q, ι e]) ?_ hd ⟨?_, h⟩
 · simp [results, hr, go_sem, ha, hb, hc, hd2, t0, t1, t2, t3]
 · unfold Fx.rval Fk.cs;rw [hp, hq, he]
def kindK (l : List UInt8) (k f : Nat) : Nat := if k = 1 ∧ kwB (sub l f (span nmdB l f)) = true then 2 else k
theorem rnamed_any (s : ByteArray) (k o f : Nat) (hs : s.size ≤ 1048576) (hf : f ≤ s.size) (hn : atF nameB s.data.toList f = true) (w : World) : Calls Tryz.prog 34 #[.string s, ι k, ι o, ι f] w (RxPost (namedP s.data.toList (kindK s.data.toList k f) o f) w) := by
 have hsm : s.size ≤ maxLen := by unfold maxLen; omega
 have he := fun W => rwordE_any s f hsm hf W
 have hw : wordE s.data.toList f = span nmdB s.data.toList f := by unfold wordE; rw [if_pos hn]
 rw [hw] at he;have HE := hI he;have hl : s.data.toList.length = s.size := by simp
 have hts : span nmdB s.data.toList f ≤ s.size := by rw [← hl]; exact span_le (by omega)
 have hft := span_ge nmdB s.data.toList f;have HX := hI (bs_ext s f (span nmdB s.data.toList f));have hk := fun W => rkw_any (s.extract f (span nmdB s.data.toList f)) W
 rw [ext_subd] at hk;obtain ⟨W1, hW1⟩ : ∃ X, X = w.alloc (.cells #[ι 0, ι 0, eS, ι 0] 41) := ⟨_, rfl⟩
 have HW1 := hI hW1;have HBX : Hid (Box W1 w.heap.size 41 #[ι 0, ι 0, eS, ι 0]) := hI (by rw [hW1]; exact Box.laid w _ _);have HBL : Hid (Below w.heap.size w W1) := hI (by rw [hW1]; exact (Below.refl _ _).alloc (Nat.le_refl _) _);obtain ⟨t0, t1, t2, t3⟩ := box4 HBX.out;obtain ⟨f0, f1, f2, f3⟩ := free4 HBX.out;unfold namedP kindK;rw [← HX.out];clear hW1 hl HX hsm hw he hn;generalize kwB (sub s.data.toList f (span nmdB s.data.toList f)) = b at *
 have HK := hI hk;clear hk;generalize span nmdB s.data.toList f = t at *
 by_cases h : 32 < t - f
 · rw [if_pos h]
   go_enter Tryz.func34, Tryz.ntmps34
   go_upto_region 1 with fail;rw [← HW1.out];have q : (32 : Int) < (t : Int) - (f : Int) := by omega
   go_wp2_with (go_at_call 35; refine (HE.out _).mono ?_; rintro e w' ⟨rfl, rfl⟩)
   exact rx_ret Tryz.results34 rfl rfl rfl rfl rfl rfl rfl rfl (put4 HBX.out _ _ _ _) (below_four (Nat.le_refl _) HBL.out _ _ _ _)
 · rw [if_neg h]
   by_cases hk1 : k = 1
   · subst hk1
     cases b
     all_goals
      go_enter Tryz.func34, Tryz.ntmps34
      go_upto_region 1 with fail;rw [← HW1.out];have q : ¬ (32 : Int) < (t : Int) - (f : Int) := by omega
      go_wp2_with (first
       | (go_at_call 35; refine (HE.out _).mono ?_; rintro e w' ⟨rfl, rfl⟩)
       | (go_at_call 57; refine (HK.out _).mono ?_; rintro e w' ⟨rfl, rfl⟩))
      exact rx_ret Tryz.results34 rfl rfl rfl rfl rfl rfl rfl rfl (put4 HBX.out _ _ _ _) (below_four (Nat.le_refl _) HBL.out _ _ _ _)
   · rw [if_neg (fun h => hk1 h.1)];have qk : ((k : Int) == 1) = false := bF.2 (fun h => hk1 (by omega))
     go_enter Tryz.func34, Tryz.ntmps34
     go_upto_region 1 with fail;rw [← HW1.out];have q : ¬ (32 : Int) < (t : Int) - (f : Int) := by omega
     go_wp2_with (first
      | (go_at_call 35; refine (HE.out _).mono ?_; rintro e w' ⟨rfl, rfl⟩)
      | (go_at_call 57; refine (HK.out _).mono ?_; rintro e w' ⟨rfl, rfl⟩))
     exact rx_ret Tryz.results34 rfl rfl rfl rfl rfl rfl rfl rfl (put4 HBX.out _ _ _ _) (below_four (Nat.le_refl _) HBL.out _ _ _ _)
