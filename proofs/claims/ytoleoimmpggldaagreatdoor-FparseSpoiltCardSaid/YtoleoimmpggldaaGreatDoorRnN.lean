import Derived.Test.YtoleoimmpggldaaGreatDoorJl4
import Derived.Test.YtoleoimmpggldaaGreatDoorQG
set_option linter.unusedVariables false
set_option linter.unusedSectionVars false
set_option linter.unusedSimpArgs false
set_option maxHeartbeats 10000000
set_option maxRecDepth 100000
namespace Go.Proofs.YtoleoimmpggldaaGreatDoor
open Go.RowKit
theorem int_none {f : FuncId} {args : Array Value} {w : World} {o : Option Int} (h : Calls Tryz.prog f args w (IntPost o w)) (ho : o = none) : Calls Tryz.prog f args w fun e w' => ∃ x : Int, e = .returned (.tuple #[ι x, .bool false]) ∧ w = w' := by
 subst ho;exact h.mono fun e w' h => by obtain ⟨⟨x, h1, -⟩, h2⟩ := h; exact ⟨x, h1, h2⟩
theorem int_some {f : FuncId} {args : Array Value} {w : World} {o : Option Int} {v : Int} (h : Calls Tryz.prog f args w (IntPost o w)) (ho : o = some v) : Calls Tryz.prog f args w fun e w' => e = .returned (.tuple #[ι v, .bool true]) ∧ w = w' := by
 subst ho;refine h.mono fun e w' h => ?_
 obtain ⟨⟨x, h1, h3⟩, h2⟩ := h;rw [h3 v rfl] at h1;exact ⟨h1, h2⟩
theorem atB_ne {p : UInt8 → Bool} {l : List UInt8} {j : Nat} (h : atB p l j = true) : span p l j ≠ j ∧ j < l.length := by
 obtain ⟨h1, h2⟩ := atB_in h;rw [h1];have := span_ge p l (j + 1);exact ⟨by omega, h2⟩
theorem rnumber_any (s : ByteArray) (k : Nat) (hs : s.size ≤ 1048576) (hk : k < s.size) (w : World) : Calls Tryz.prog 62 #[.string s, ι k] w (LexPost (numP s.data.toList k) w) := by
 have hsm : s.size ≤ maxLen := by unfold maxLen; omega
 have HDG := hI (fun j W => rdigit_any s j hsm W);clear hsm;have hl : s.data.toList.length = s.size := by simp
 have HL := hI hl;clear hl;obtain ⟨b0, hb0⟩ : ∃ b0, s[k] = b0 := ⟨_, rfl⟩
 have HB0 := hI (at_list hk hb0);obtain ⟨f, hf⟩ : ∃ f, firstP s.data.toList k = f := ⟨_, rfl⟩
 have HF := hI hf;have hfc : (b0.toNat = 45 ∧ f = k + 1) ∨ (b0.toNat ≠ 45 ∧ f = k) := by
  have h := firstP_cases (l := s.data.toList) (k := k);rw [bytq (at_list hk hb0), hf] at h;exact h
 have HFC := hI hfc;clear hf hfc;obtain ⟨W1, hW1⟩ : ∃ X, X = w.alloc (.cells #[ι 0, ι 0, ι 0, .int .u8 0, ι 0, eS] 67) := ⟨_, rfl⟩
 have HW1 := hI hW1;clear hW1;have HBX : Hid (Box W1 w.heap.size 67 #[ι 0, ι 0, ι 0, .int .u8 0, ι 0, eS]) := hI (by rw [HW1.out]; exact Box.laid w _ _);have HBL : Hid (Below w.heap.size w W1) := hI (by rw [HW1.out]; exact (Below.refl _ _).alloc (Nat.le_refl _) _);obtain ⟨t0, t1, t2, t3, t4, t5⟩ := box6 HBX.out;obtain ⟨f0, f1, f2, f3, f4, f5⟩ := free6 HBX.out
 go_enter Tryz.func62, Tryz.ntmps62
 go_upto_if 15 with (fail)
 rw [← HW1.out]
 go_cut [7] (fun t7 wx => wx = W1 ∧ t7 = ι (f : Nat))
 case first => as_aux_lemma =>
  rcases HFC.out with ⟨h1, h2⟩ | ⟨h1, h2⟩
  · have hq : ((b0.toNat : Int) == 45) = true := by rw [beq_iff_eq]; omega
    have H2 := hI h2;clear h1 h2;go_wp2_with fail
    go_meet
    refine ⟨rfl, ?_⟩;rw [H2.out]
    go_num
  · have hq : ((b0.toNat : Int) == 45) = false := bF.2 (fun h => h1 (by omega));have H2 := hI h2;clear h1 h2;go_wp2_with fail
    go_meet
    exact ⟨rfl, by rw [H2.out]⟩
 case rest =>
  obtain ⟨hweq, rfl⟩ := hcut;have hweq := hweq.symm;subst hweq;have hfl : f ≤ s.size ∧ k ≤ f ∧ f ≤ k + 1 := by have := HFC.out; omega
  obtain ⟨hf1, hf2, hf3⟩ := hfl;clear hb0;have hd0 := HDG.out f
  cases hc0 : atB digB s.data.toList f with
  | false =>
   rw [hc0] at hd0;have HC0 := hI hd0;have HW := hI (numP_a HF.out (atB_out hc0) rfl);clear hd0 hc0
   go_wp2_with (go_at_call 61; refine (HC0.out _).mono ?_; rintro e w' ⟨rfl, rfl⟩)
   rw [HW.out];exact lex_ret Tryz.results62 rfl rfl rfl rfl (put6 HBX.out _ _ _ _ _ _) (below_six (Nat.le_refl _) HBL.out _ _ _ _ _ _)
  | true =>
   rw [hc0] at hd0;have HC0 := hI hd0;obtain ⟨hne, hff⟩ := atB_ne hc0;rw [HL.out] at hff;obtain ⟨j, hjs⟩ : ∃ j, span digB s.data.toList f = j := ⟨_, rfl⟩
   rw [hjs] at hne;have HE := hI hjs;have HNE := hI hne;have hfj : f ≤ j := by rw [← hjs]; exact span_ge _ _ _
   have hj : j ≤ s.size := by
    have h := span_le (p := digB) (l := s.data.toList) (k := f) (by rw [HL.out]; exact hf1);rw [HL.out, hjs] at h;exact h
   clear hjs hd0 hc0 hne
   go_upto_block 0 with (go_at_call 61; refine (HC0.out _).mono ?_; rintro e w' ⟨rfl, rfl⟩)
   go_cut [7] (fun t7 wx => wx = W1 ∧ t7 = ι (j : Nat))
   case first => as_aux_lemma =>
    clear t0 t1 t2 t3 t4 t5 f0 f1 f2 f3 f4 f5
    go_wp2
    go_loop [7] (fun t => ∃ i : Nat, f ≤ i ∧ i ≤ s.size ∧ t = ι i ∧ span digB s.data.toList f = span digB s.data.toList i) (fun t => s.size - (intOf t).toNat)
    case atStart => exact ⟨f, Nat.le_refl _, hf1, rfl, rfl⟩
    case round =>
     obtain ⟨i, hfi, hi, rfl, hsp⟩ := hrel;have HS := hI hsp;have hc1 := HDG.out i;clear hsp
     cases hc : atB digB s.data.toList i with
     | true =>
      rw [hc] at hc1;obtain ⟨hn, hlt⟩ := atB_in hc;rw [HL.out] at hlt;have HN := hI hn;have HC := hI hc1;clear hn hc hc1
      go_wp2_with (go_at_call 61; refine (HC.out _).mono ?_; rintro e w' ⟨rfl, rfl⟩)
      go_round
      case rel => exact ⟨i + 1, by omega, by omega, by go_num, HS.out.trans HN.out⟩
      case measure => simp [intOf]; omega
     | false =>
      rw [hc] at hc1;have HN := hI (atB_out hc);have HC := hI hc1;clear hc hc1
      go_wp2_with (go_at_call 61; refine (HC.out _).mono ?_; rintro e w' ⟨rfl, rfl⟩)
      go_meet
      exact ⟨rfl, by rw [← HN.out, ← HS.out, HE.out]⟩
   case rest =>
    obtain ⟨hweq, rfl⟩ := hcut;have hweq := hweq.symm;subst hweq;obtain ⟨b1, hb1⟩ : ∃ b1, s[f] = b1 := ⟨_, rfl⟩
    have HB1 := hI (bytq (at_list hff hb1));obtain ⟨zb, hzb⟩ : ∃ zb : Bool, zb = decide (byt s.data.toList f = 48 ∧ f + 1 < j) := ⟨_, rfl⟩
    have HZB := hI hzb;clear hzb;go_upto_region 9 with fail
    go_cut [39] (fun t39 wx => wx = W1 ∧ t39 = .bool zb)
    case first => as_aux_lemma =>
     have hz := HZB.out;rw [HB1.out] at hz
     by_cases z1 : b1.toNat = 48
     · have hq1 : ((b1.toNat : Int) == 48) = true := by rw [beq_iff_eq]; omega
       by_cases z2 : f + 1 < j
       · rw [decide_eq_true ⟨z1, z2⟩] at hz;have HZ := hI hz;clear hz z1;go_wp2_with fail
         go_meet
         refine ⟨rfl, ?_⟩;rw [HZ.out]
         first | rfl | (simp; omega)
       · rw [decide_eq_false (fun h => z2 h.2)] at hz;have HZ := hI hz;clear hz z1;go_wp2_with fail
         go_meet
         refine ⟨rfl, ?_⟩;rw [HZ.out]
         first | rfl | (simp; omega)
     · have hq1 : ((b1.toNat : Int) == 48) = false := bF.2 (fun h => z1 (by omega));rw [decide_eq_false (fun h => z1 h.1)] at hz;have HZ := hI hz;clear hz z1;go_wp2_with fail
       go_meet
       refine ⟨rfl, ?_⟩;rw [HZ.out]
    case rest =>
     obtain ⟨hweq, rfl⟩ := hcut;have hweq := hweq.symm;subst hweq
     cases zb with
     | true => as_aux_lemma =>
      have HW := hI (numP_b HF.out HE.out HNE.out (of_decide_eq_true HZB.out.symm));go_wp2_with fail;rw [HW.out];exact lex_ret Tryz.results62 rfl rfl rfl rfl (put6 HBX.out _ _ _ _ _ _) (below_six (Nat.le_refl _) HBL.out _ _ _ _ _ _)
     | false =>
      have HZN := hI (of_decide_eq_false HZB.out.symm);obtain ⟨x, hx⟩ : ∃ x, s.extract f j = x := ⟨_, rfl⟩
      have hxl : x.data.toList = sub s.data.toList f j := by rw [← hx, ← Lib.toList_data, ext_sub]
      have hxs : x.size ≤ 1048576 := by rw [← hx]; simp; omega
      obtain ⟨nb, hnb⟩ : ∃ nb : Bool, nb = decide (byt s.data.toList k = 45) := ⟨_, rfl⟩
      obtain ⟨o, ho⟩ : ∃ o, fitP (decide (byt s.data.toList k = 45)) (natF 0 (sub s.data.toList f j)) = o := ⟨_, rfl⟩
      have hio := fun W => integer_any x nb hxs (by
       rw [hxl, ← HE.out];exact sub_digits _ _) W
      rw [hxl, hnb, ho, ← hnb] at hio;have HIO := hI hio;have HO := hI ho;have hkf : decide ((k : Int) < (f : Int)) = nb := by
       rw [hnb];rcases firstP_cases (l := s.data.toList) (k := k) with ⟨h1, h2⟩ | ⟨h1, h2⟩
       · rw [HF.out] at h2;rw [decide_eq_true h1, decide_eq_true_iff]; omega
       · rw [HF.out] at h2;rw [decide_eq_false h1, decide_eq_false_iff_not]; omega
      have hkf2 : decide (k < f) = nb := by rw [← hkf]; simp
      obtain ⟨mb, hmb⟩ : ∃ mb : Bool, mb = moreB s.data.toList j := ⟨_, rfl⟩
      have HMB := hI hmb;clear hmb hxl hxs hio ho hnb
      cases o with
      | none => as_aux_lemma =>
       have HQ := hI (fun W => int_none (HIO.out W) rfl);have HW : Hid (numP s.data.toList k = noX k 7) := hI (by
        cases mb with
        | true => exact numP_c HF.out HE.out HNE.out HZN.out HMB.out.symm
        | false => exact numP_e HF.out HE.out HNE.out HZN.out HMB.out.symm HO.out)
       go_wp2_with (go_at_call 58; refine (HQ.out _).mono ?_; rintro e w' ⟨nn, rfl, rfl⟩)
       rw [HW.out];exact lex_ret Tryz.results62 rfl rfl rfl rfl (put6 HBX.out _ _ _ _ _ _) (below_six (Nat.le_refl _) HBL.out _ _ _ _ _ _)
      | some v =>
       have HQ := hI (fun W => int_some (HIO.out W) rfl);go_upto_region 12 with (go_at_call 58; refine (HQ.out _).mono ?_; rintro e w' ⟨rfl, rfl⟩)
       go_cut [79] (fun t79 wx => wx = W1 ∧ t79 = .bool mb)
       case first => as_aux_lemma =>
        by_cases hjl : j < s.size
        ·
         obtain ⟨b2, hb2⟩ : ∃ b2, s[j] = b2 := ⟨_, rfl⟩
         have hm := HMB.out;unfold moreB at hm;rw [bytq (at_list hjl hb2)] at hm
         by_cases m1 : b2.toNat = 46
         · have q1 : ((b2.toNat : Int) == 46) = true := by rw [beq_iff_eq]; omega
           rw [decide_eq_true (.inl m1)] at hm;have HM := hI hm;clear hm m1;go_wp2_with fail
           go_meet
           exact ⟨rfl, by rw [HM.out]⟩
         · have q1 : ((b2.toNat : Int) == 46) = false := bF.2 (fun h => m1 (by omega))
           by_cases m2 : b2.toNat = 101
           · have q2 : ((b2.toNat : Int) == 101) = true := by rw [beq_iff_eq]; omega
             rw [decide_eq_true (.inr (.inl m2))] at hm;have HM := hI hm;clear hm m1 m2;go_wp2_with fail
             go_meet
             exact ⟨rfl, by rw [HM.out]⟩
           · have q2 : ((b2.toNat : Int) == 101) = false := bF.2 (fun h => m2 (by omega))
             by_cases m3 : b2.toNat = 69
             · have q3 : ((b2.toNat : Int) == 69) = true := by rw [beq_iff_eq]; omega
               rw [decide_eq_true (.inr (.inr m3))] at hm;have HM := hI hm;clear hm m1 m2 m3;go_wp2_with fail
               go_meet
               exact ⟨rfl, by rw [HM.out]⟩
             · have q3 : ((b2.toNat : Int) == 69) = false := bF.2 (fun h => m3 (by omega));rw [decide_eq_false (by omega)] at hm;have HM := hI hm;clear hm m1 m2 m3;go_wp2_with fail
               go_meet
               exact ⟨rfl, by rw [HM.out]⟩
        ·
         have hm := HMB.out;unfold moreB at hm;rw [byt_no (by rw [HL.out]; omega), decide_eq_false (by omega)] at hm;have HM := hI hm;clear hm;go_wp2_with fail
         go_meet
         exact ⟨rfl, by rw [HM.out]⟩
       case rest => as_aux_lemma =>
        obtain ⟨hweq, rfl⟩ := hcut;have hweq := hweq.symm;subst hweq
        cases mb with
        | true =>
         have HW := hI (numP_c HF.out HE.out HNE.out HZN.out HMB.out.symm);go_wp2_with fail;rw [HW.out];exact lex_ret Tryz.results62 rfl rfl rfl rfl (put6 HBX.out _ _ _ _ _ _) (below_six (Nat.le_refl _) HBL.out _ _ _ _ _ _)
        | false =>
         have HW := hI (numP_d HF.out HE.out HNE.out HZN.out HMB.out.symm HO.out);go_wp2_with fail;rw [HW.out];exact lex_ret Tryz.results62 rfl rfl rfl rfl (put6 HBX.out _ _ _ _ _ _) (below_six (Nat.le_refl _) HBL.out _ _ _ _ _ _)
