import Derived.Test.YtoleoimmpggldaaGreatDoorHL
import Derived.Test.YtoleoimmpggldaaGreatDoorJl4
import Derived.Test.YtoleoimmpggldaaGreatDoorHF
import Derived.Test.YtoleoimmpggldaaGreatDoorFs
import Derived.Laws.AppendOwn
set_option linter.unusedVariables false
set_option linter.unusedSectionVars false
set_option linter.unusedSimpArgs false
set_option maxHeartbeats 10000000
set_option maxRecDepth 100000
namespace Go.Proofs.YtoleoimmpggldaaGreatDoor
open Go.RowKit
theorem lex_as {f : FuncId} {args : Array Value} {w : World} {x y : Lx} (h : Calls Tryz.prog f args w (LexPost x w)) (hx : y = x) : Calls Tryz.prog f args w (LexPost y w) := by
 subst hx; exact h
theorem getd_at {l : List UInt8} {k : Nat} {b : UInt8} (h : l[k]? = some b) : l[k]?.getD 0 = b := by rw [h]; rfl
theorem lexN_end {l : List UInt8} {k : Nat} (h : k = l.length) : lexN l k = okX 0 k k 0 0 ⟨#[]⟩ := by unfold lexN; rw [if_pos h]
theorem lexN_at {l : List UInt8} {k : Nat} {b : UInt8} (h : l[k]? = some b) : lexN l k = if signB b = true then okX 1 k (k + 1) b.toNat 0 ⟨#[]⟩ else if letB b = true then wordP l k else if b.toNat = 45 ∨ digB b = true then numP l k else if b.toNat = 34 then strP l k else noX k 4 := by
 have hk := (gE.1 h).1;unfold lexN;rw [if_neg (by omega), getd_at h, bytq h]
theorem next_any (s : ByteArray) (k : Int) (hs : s.size ≤ 1048576) (w : World) (hE : ErrIn w) : Calls Tryz.prog 73 #[.string s, ι k] w (LexPost (lexP s.data.toList k) w) := by
 have hl : s.data.toList.length = s.size := by simp
 have HL := hI hl;have hsm : s.size ≤ maxLen := by unfold maxLen; omega
 have HSM := hI hsm;have HERR := hI hE;clear hl hE hsm;obtain ⟨W1, hW1⟩ : ∃ X, X = w.alloc (.cells #[ι 0, ι 0, ι 0, .int .u8 0, ι 0, eS] 67) := ⟨_, rfl⟩
 have HBX : Hid (Box W1 w.heap.size 67 #[ι 0, ι 0, ι 0, .int .u8 0, ι 0, eS]) := hI (by rw [hW1]; exact Box.laid w _ _);have HBL : Hid (Below w.heap.size w W1) := hI (by rw [hW1]; exact (Below.refl _ _).alloc (Nat.le_refl _) _);have HW1 := hI hW1;clear hW1
 by_cases hout : k < 0 ∨ (s.size : Int) < k
 · have HW : Hid (lexP s.data.toList k = noX 0 3) := hI (by unfold lexP; rw [HL.out, if_pos hout]);rw [HW.out];rcases hout with h | h
   all_goals
    go_enter Tryz.func73, Tryz.ntmps73
    go_upto_region 1 with fail;rw [← HW1.out]
    go_wp2_with (go_at_call 88; refine (fail_any _ _ _).mono ?_; rintro e w' ⟨rfl, hb'⟩; have bx := HBX.out.below hb' HBX.out.lt; obtain ⟨t0, t1, t2, t3, t4, t5⟩ := box6 bx; obtain ⟨f0, f1, f2, f3, f4, f5⟩ := free6 bx)
    exact lex_ret Tryz.results73 rfl rfl rfl rfl (put6 bx _ _ _ _ _ _) (below_six (Nat.le_refl _) (HBL.out.trans (hb'.mono HBL.out.size)) _ _ _ _ _ _)
 · obtain ⟨n, rfl⟩ : ∃ n : Nat, k = (n : Int) := ⟨k.toNat, by omega⟩
   have hn : n ≤ s.size := by omega
   obtain ⟨f, hf⟩ : ∃ f, span blankB s.data.toList n = f := ⟨_, rfl⟩
   have hfs : f ≤ s.size := by
    have h := span_le (p := blankB) (l := s.data.toList) (k := n) (by rw [HL.out]; exact hn);rw [HL.out, hf] at h;exact h
   have HW0 : Hid (lexP s.data.toList (n : Int) = lexN s.data.toList f) := hI (by
    unfold lexP;rw [HL.out, if_neg hout, Int.toNat_natCast, hf])
   have hsk := fun W => skip_any s n HSM.out hn W
   rw [hf] at hsk;have HSK := hI hsk;clear hout hsk hf;have hq1 : decide ((n : Int) < 0) = false := by simp
   have hq2 : decide ((s.size : Int) < (n : Int)) = false := by simp; omega
   have hq3 : decide (s.size < n) = false := by simp; omega
   rw [HW0.out]
   by_cases hend : f = s.size
   · have HW : Hid (lexN s.data.toList f = okX 0 f f 0 0 ⟨#[]⟩) := hI (lexN_end (by rw [HL.out]; exact hend));rw [HW.out];have hqe : ((f : Int) == (s.size : Int)) = true := by rw [beq_iff_eq]; omega
     clear hend
     go_enter Tryz.func73, Tryz.ntmps73
     go_upto_region 1 with fail;rw [← HW1.out]
     go_wp2_with (first
      | (go_at_call 40; refine (HSK.out _).mono ?_; rintro e w' ⟨rfl, rfl⟩)
      | (go_at_call 89; refine (found_any _ _ _ _ _ _ _).mono ?_; rintro e w' ⟨rfl, hb'⟩; have bx := HBX.out.below hb' HBX.out.lt; obtain ⟨t0, t1, t2, t3, t4, t5⟩ := box6 bx; obtain ⟨f0, f1, f2, f3, f4, f5⟩ := free6 bx))
     exact lex_ret Tryz.results73 rfl rfl rfl rfl (put6 bx _ _ _ _ _ _) (below_six (Nat.le_refl _) (HBL.out.trans (hb'.mono HBL.out.size)) _ _ _ _ _ _)
   · have hqe : ((f : Int) == (s.size : Int)) = false := bF.2 (fun h => hend (by omega));have hflt : f < s.size := by omega
     obtain ⟨b, hb⟩ : ∃ b, s[f] = b := ⟨_, rfl⟩
     have HB := hI (at_list hflt hb);have HAT := hI (lexN_at HB.out);clear hend;have HSG := hI (fun W => sign_any b W);have HLT := hI (fun W => letter_any b W);have HDG := hI (fun W => digit_any b W)
     cases c1 : signB b with
     | true =>
      rw [c1] at HSG HAT;rw [HAT.out, if_pos rfl];clear c1
      go_enter Tryz.func73, Tryz.ntmps73
      go_upto_region 1 with fail;rw [← HW1.out]
      go_wp2_with (first
       | (go_at_call 40; refine (HSK.out _).mono ?_; rintro e w' ⟨rfl, rfl⟩)
       | (go_at_call 90; refine (HSG.out _).mono ?_; rintro e w' ⟨rfl, rfl⟩)
       | (go_at_call 89; refine (found_any _ _ _ _ _ _ _).mono ?_; rintro e w' ⟨rfl, hb'⟩; have bx := HBX.out.below hb' HBX.out.lt; obtain ⟨t0, t1, t2, t3, t4, t5⟩ := box6 bx; obtain ⟨f0, f1, f2, f3, f4, f5⟩ := free6 bx))
      exact lex_ret Tryz.results73 rfl rfl rfl rfl (put6 bx _ _ _ _ _ _) (below_six (Nat.le_refl _) (HBL.out.trans (hb'.mono HBL.out.size)) _ _ _ _ _ _)
     | false =>
      rw [c1] at HSG HAT;clear c1
      cases c2 : letB b with
      | true =>
       rw [c2] at HLT HAT;have HX := hI (lex_as (word_any s f HSM.out hflt W1) (x := wordP s.data.toList f) (y := lexN s.data.toList f) (by rw [HAT.out, if_neg Bool.false_ne_true, if_pos rfl]));generalize lexN s.data.toList f = x at HX ⊢;clear c2
       go_enter Tryz.func73, Tryz.ntmps73
       go_upto_region 1 with fail;rw [← HW1.out]
       go_wp2_with (first
        | (go_at_call 40; refine (HSK.out _).mono ?_; rintro e w' ⟨rfl, rfl⟩)
        | (go_at_call 90; refine (HSG.out _).mono ?_; rintro e w' ⟨rfl, rfl⟩)
        | (go_at_call 91; refine (HLT.out _).mono ?_; rintro e w' ⟨rfl, rfl⟩)
        | (go_at_call 92; refine (lex_open HX.out).mono ?_; rintro e w' ⟨rfl, hb'⟩; have bx := HBX.out.below hb' HBX.out.lt; obtain ⟨t0, t1, t2, t3, t4, t5⟩ := box6 bx; obtain ⟨f0, f1, f2, f3, f4, f5⟩ := free6 bx))
       exact lex_ret Tryz.results73 rfl rfl rfl rfl (put6 bx _ _ _ _ _ _) (below_six (Nat.le_refl _) (HBL.out.trans (hb'.mono HBL.out.size)) _ _ _ _ _ _)
      | false =>
       rw [c2] at HLT HAT;clear c2
       by_cases c3 : b.toNat = 45 ∨ digB b = true
       · have HX := hI (lex_as (number_any s f hs hflt W1 (HERR.out.next HBL.out)) (x := numP s.data.toList f) (y := lexN s.data.toList f) (by rw [HAT.out, if_neg Bool.false_ne_true, if_neg Bool.false_ne_true, if_pos c3]));generalize lexN s.data.toList f = x at HX ⊢
         by_cases c4 : b.toNat = 45
         · have q1 : ((b.toNat : Int) == 45) = true := by rw [beq_iff_eq]; omega
           clear c3 c4
           go_enter Tryz.func73, Tryz.ntmps73
           go_upto_region 1 with fail;rw [← HW1.out]
           go_wp2_with (first
            | (go_at_call 40; refine (HSK.out _).mono ?_; rintro e w' ⟨rfl, rfl⟩)
            | (go_at_call 90; refine (HSG.out _).mono ?_; rintro e w' ⟨rfl, rfl⟩)
            | (go_at_call 91; refine (HLT.out _).mono ?_; rintro e w' ⟨rfl, rfl⟩)
            | (go_at_call 94; refine (lex_open HX.out).mono ?_; rintro e w' ⟨rfl, hb'⟩; have bx := HBX.out.below hb' HBX.out.lt; obtain ⟨t0, t1, t2, t3, t4, t5⟩ := box6 bx; obtain ⟨f0, f1, f2, f3, f4, f5⟩ := free6 bx))
           exact lex_ret Tryz.results73 rfl rfl rfl rfl (put6 bx _ _ _ _ _ _) (below_six (Nat.le_refl _) (HBL.out.trans (hb'.mono HBL.out.size)) _ _ _ _ _ _)
         · have q1 : ((b.toNat : Int) == 45) = false := bF.2 (fun h => c4 (by omega));have c5 : digB b = true := c3.resolve_left c4;rw [c5] at HDG;clear c3 c4 c5
           go_enter Tryz.func73, Tryz.ntmps73
           go_upto_region 1 with fail;rw [← HW1.out]
           go_wp2_with (first
            | (go_at_call 40; refine (HSK.out _).mono ?_; rintro e w' ⟨rfl, rfl⟩)
            | (go_at_call 90; refine (HSG.out _).mono ?_; rintro e w' ⟨rfl, rfl⟩)
            | (go_at_call 91; refine (HLT.out _).mono ?_; rintro e w' ⟨rfl, rfl⟩)
            | (go_at_call 93; refine (HDG.out _).mono ?_; rintro e w' ⟨rfl, rfl⟩)
            | (go_at_call 94; refine (lex_open HX.out).mono ?_; rintro e w' ⟨rfl, hb'⟩; have bx := HBX.out.below hb' HBX.out.lt; obtain ⟨t0, t1, t2, t3, t4, t5⟩ := box6 bx; obtain ⟨f0, f1, f2, f3, f4, f5⟩ := free6 bx))
           exact lex_ret Tryz.results73 rfl rfl rfl rfl (put6 bx _ _ _ _ _ _) (below_six (Nat.le_refl _) (HBL.out.trans (hb'.mono HBL.out.size)) _ _ _ _ _ _)
       · have q1 : ((b.toNat : Int) == 45) = false := bF.2 (fun h => c3 (.inl (by omega)));have c5 : digB b = false := by cases h : digB b with | false => rfl | true => exact absurd (.inr h) c3
         have HAT2 := hI (by have h := HAT.out; rw [if_neg Bool.false_ne_true, if_neg Bool.false_ne_true, if_neg c3] at h; exact h);rw [c5] at HDG;clear c3 c5
         by_cases c6 : b.toNat = 34
         · have HX := hI (lex_as (string_any s f hs hflt W1) (x := strP s.data.toList f) (y := lexN s.data.toList f) (by rw [HAT2.out, if_pos c6]));generalize lexN s.data.toList f = x at HX ⊢;have q2 : ((b.toNat : Int) == 34) = true := by rw [beq_iff_eq]; omega
           clear c6
           go_enter Tryz.func73, Tryz.ntmps73
           go_upto_region 1 with fail;rw [← HW1.out]
           go_wp2_with (first
            | (go_at_call 40; refine (HSK.out _).mono ?_; rintro e w' ⟨rfl, rfl⟩)
            | (go_at_call 90; refine (HSG.out _).mono ?_; rintro e w' ⟨rfl, rfl⟩)
            | (go_at_call 91; refine (HLT.out _).mono ?_; rintro e w' ⟨rfl, rfl⟩)
            | (go_at_call 93; refine (HDG.out _).mono ?_; rintro e w' ⟨rfl, rfl⟩)
            | (go_at_call 95; refine (lex_open HX.out).mono ?_; rintro e w' ⟨rfl, hb'⟩; have bx := HBX.out.below hb' HBX.out.lt; obtain ⟨t0, t1, t2, t3, t4, t5⟩ := box6 bx; obtain ⟨f0, f1, f2, f3, f4, f5⟩ := free6 bx))
           exact lex_ret Tryz.results73 rfl rfl rfl rfl (put6 bx _ _ _ _ _ _) (below_six (Nat.le_refl _) (HBL.out.trans (hb'.mono HBL.out.size)) _ _ _ _ _ _)
         · rw [HAT2.out, if_neg c6];have q2 : ((b.toNat : Int) == 34) = false := bF.2 (fun h => c6 (by omega));clear c6
           go_enter Tryz.func73, Tryz.ntmps73
           go_upto_region 1 with fail;rw [← HW1.out]
           go_wp2_with (first
            | (go_at_call 40; refine (HSK.out _).mono ?_; rintro e w' ⟨rfl, rfl⟩)
            | (go_at_call 90; refine (HSG.out _).mono ?_; rintro e w' ⟨rfl, rfl⟩)
            | (go_at_call 91; refine (HLT.out _).mono ?_; rintro e w' ⟨rfl, rfl⟩)
            | (go_at_call 93; refine (HDG.out _).mono ?_; rintro e w' ⟨rfl, rfl⟩)
            | (go_at_call 88; refine (fail_any _ _ _).mono ?_; rintro e w' ⟨rfl, hb'⟩; have bx := HBX.out.below hb' HBX.out.lt; obtain ⟨t0, t1, t2, t3, t4, t5⟩ := box6 bx; obtain ⟨f0, f1, f2, f3, f4, f5⟩ := free6 bx))
           exact lex_ret Tryz.results73 rfl rfl rfl rfl (put6 bx _ _ _ _ _ _) (below_six (Nat.le_refl _) (HBL.out.trans (hb'.mono HBL.out.size)) _ _ _ _ _ _)
end Go.Proofs.YtoleoimmpggldaaGreatDoor
namespace Go.Proofs.YtoleoimmpggldaaGreatDoor
open Go.RowKit
theorem atoi_dig {l : List UInt8} {a t : Nat} (ha : a < l.length) (ht : span digB l a = t) (hat : a < t) : Lib.atoiAll (sub l a t) = endP (fitP false (natF 0 (sub l a t))) := by
 refine atoi_digits (fun e => ?_) (by rw [← ht]; exact sub_digits l a);have h := congrArg List.length e;rw [sub_len (by rw [← ht]; exact span_le (Nat.le_of_lt ha))] at h;simp at h;omega
theorem numFP_a {l : List UInt8} {a t : Nat} (ht : span digB l a = t) (h : byt l a = 48 ∧ a + 1 < t) : numFP l a = noF a 4 := by
 unfold numFP; rw [ht, if_pos h]
theorem numFP_b {l : List UInt8} {a t : Nat} (ht : span digB l a = t) (h : ¬ (byt l a = 48 ∧ a + 1 < t)) (h2 : (atF nameB l t || fracB l t) = true) : numFP l a = noF a 7 := by
 unfold numFP; rw [ht, if_neg h, if_pos h2]
theorem numFP_c {l : List UInt8} {a t : Nat} (ht : span digB l a = t) (h : ¬ (byt l a = 48 ∧ a + 1 < t)) (h2 : (atF nameB l t || fracB l t) = false) (ho : fitP false (natF 0 (sub l a t)) = none) : numFP l a = noF a 7 := by
 unfold numFP; rw [ht, if_neg h, if_neg (by rw [h2]; exact Bool.false_ne_true), ho]
theorem numFP_d {l : List UInt8} {a t : Nat} {v : Int} (ht : span digB l a = t) (h : ¬ (byt l a = 48 ∧ a + 1 < t)) (h2 : (atF nameB l t || fracB l t) = false) (ho : fitP false (natF 0 (sub l a t)) = some v) : numFP l a = okF 5 a ⟨#[]⟩ v t := by
 unfold numFP; rw [ht, if_neg h, if_neg (by rw [h2]; exact Bool.false_ne_true), ho]
theorem fnumber_any (s : ByteArray) (a : Nat) (hs : s.size ≤ 1048576) (ha : a < s.size) (hd : atF digB s.data.toList a = true) (w : World) (hE : ErrIn w) : Calls Tryz.prog 46 #[.string s, ι a] w (FxPost (numFP s.data.toList a) w) := by
 have hsm : s.size ≤ maxLen := by unfold maxLen; omega
 have hl : s.data.toList.length = s.size := by simp
 have HL := hI hl;have HSM := hI hsm;obtain ⟨t, hts⟩ : ∃ t, span digB s.data.toList a = t := ⟨_, rfl⟩
 have hat : a < t := by have := (dig_step hd).2; omega
 have htl : t ≤ s.size := by rw [← hl, ← hts]; exact span_le (by omega)
 have HE := hI hts;obtain ⟨b0, hb0⟩ : ∃ b0, s[a] = b0 := ⟨_, rfl⟩
 have HB0 := hI (at_list ha hb0);have HERR := hI hE;have HP := hI (fun (W : World) (h : ErrIn W) => parse_any (s.extract a t) (fitP false (natF 0 (sub s.data.toList a t))) (by have e := ext_sub s a t; rw [Lib.toList_data] at e; rw [e]; exact atoi_dig (by omega) hts hat) (ext_size s a t hs) W h);have HFR := hI (fun W => frac_any s t hs htl W);have HNM := hI (fun W => fbegins_any s t hsm W);obtain ⟨W1, hW1⟩ : ∃ X, X = w.alloc (.cells #[ι 0, ι 0, eS, ι 0] 41) := ⟨_, rfl⟩
 have HW1 := hI hW1;have HBX : Hid (Box W1 w.heap.size 41 #[ι 0, ι 0, eS, ι 0]) := hI (by rw [hW1]; exact Box.laid w _ _);have HBL : Hid (Below w.heap.size w W1) := hI (by rw [hW1]; exact (Below.refl _ _).alloc (Nat.le_refl _) _);clear hW1 hts hd hE hsm hl
 go_enter Tryz.func46, Tryz.ntmps46
 go_upto_region 1 with fail;rw [← HW1.out]
 go_upto_block 0 with fail
 go_cut [7] (fun t7 wx => wx = W1 ∧ t7 = ι (t : Nat))
 case first => as_aux_lemma =>
  go_wp2
  go_loop [7] (fun t7 => ∃ i : Nat, a ≤ i ∧ i ≤ s.size ∧ t7 = ι i ∧ span digB s.data.toList a = span digB s.data.toList i) (fun t7 => s.size - (intOf t7).toNat)
  case atStart => exact ⟨a, Nat.le_refl _, by omega, rfl, rfl⟩
  case round =>
   obtain ⟨i, hfi, hi, rfl, hsp⟩ := hrel;have HS := hI hsp;clear hsp
   by_cases hlt : i < s.size
   · obtain ⟨b, hb⟩ : ∃ b, s[i] = b := ⟨_, rfl⟩
     have H3 := hI (at_list hlt hb)
     cases hc : digB b with
     | true =>
      have HN := hI (span_inq H3.out hc)
      go_wp2_with (go_at_call 45; refine (fdig_any _ _).mono ?_; rw [hc]; rintro e w' ⟨rfl, rfl⟩)
      go_round
      case rel => exact ⟨i + 1, by omega, by omega, by go_num, HS.out.trans HN.out⟩
      case measure => simp [intOf]; omega
     | false =>
      have HN := hI (span_noq H3.out hc)
      go_wp2_with (go_at_call 45; refine (fdig_any _ _).mono ?_; rw [hc]; rintro e w' ⟨rfl, rfl⟩)
      go_meet
      exact ⟨rfl, by rw [← HE.out, HS.out, HN.out]⟩
   · have HN := hI (span_end (p := digB) (l := s.data.toList) (k := i) (by rw [HL.out]; omega))
     go_wp2
     all_goals go_meet
     all_goals exact ⟨rfl, by rw [← HE.out, HS.out, HN.out]⟩
 case rest =>
  obtain ⟨hweq, rfl⟩ := hcut;have hweq := hweq.symm;subst hweq
  by_cases h1 : b0.toNat = 48 ∧ a + 1 < t
  · have HW := hI (numFP_a HE.out (l := s.data.toList) (by rw [bytq HB0.out]; exact h1));have q1 : ((b0.toNat : Int) == 48) = true := by rw [beq_iff_eq]; omega
    have q2 : a + 1 < t := h1.2;clear h1
    go_wp2_with (go_at_call 69; refine (ffail_any _ _ _).mono ?_; rintro e w' ⟨rfl, hb'⟩; have bx := HBX.out.below hb' HBX.out.lt; obtain ⟨t0, t1, t2, t3⟩ := box4 bx; obtain ⟨f0, f1, f2, f3⟩ := free4 bx)
    all_goals first | (exfalso; omega) | (rw [HW.out]; exact fx_ret Tryz.results46 rfl rfl rfl rfl (put4 bx _ _ _ _) (below_four (Nat.le_refl _) (HBL.out.trans (hb'.mono HBL.out.size)) _ _ _ _))
  · have HN1 : Hid (¬ (byt s.data.toList a = 48 ∧ a + 1 < t)) := hI (by rw [bytq HB0.out]; exact h1);obtain ⟨z, hz⟩ : ∃ z : Bool, (decide (b0.toNat = 48) && decide (a + 1 < t)) = z := ⟨_, rfl⟩
    have hzf : z = false := by rw [← hz]; simp; intro h; have := h1; omega
    have HA := HNM;have HF := HFR;obtain ⟨x1, hx1⟩ : ∃ x, atF nameB s.data.toList t = x := ⟨_, rfl⟩
    obtain ⟨x2, hx2⟩ : ∃ x, fracB s.data.toList t = x := ⟨_, rfl⟩
    rw [hx1] at HA;rw [hx2] at HF;have HX1 := hI hx1;have HX2 := hI hx2;obtain ⟨q, hq⟩ : ∃ q : Bool, ((b0.toNat : Int) == 48) = q := ⟨_, rfl⟩
    have hor : q = false ∨ (q = true ∧ ¬ a + 1 < t) := by
     cases q with
     | false => exact .inl rfl
     | true =>
      rw [beq_iff_eq] at hq;exact .inr ⟨rfl, fun h => h1 ⟨by omega, h⟩⟩
    clear h1 hz hzf hx1 hx2 HNM HFR
    by_cases hb : (x1 || x2) = true
    · have HW := hI (numFP_b HE.out HN1.out (by rw [HX1.out, HX2.out]; exact hb));have hc : x1 = true ∨ (x1 = false ∧ x2 = true) := by cases x1 <;> simp_all
      clear hb;rcases hor with rfl | ⟨rfl, q2⟩
      all_goals
       rcases hc with rfl | ⟨rfl, rfl⟩
       all_goals
        go_wp2_with (first
         | (go_at_call 42; refine (HA.out _).mono ?_; rintro e w' ⟨rfl, rfl⟩)
         | (go_at_call 71; refine (HF.out _).mono ?_; rintro e w' ⟨rfl, rfl⟩)
         | (go_at_call 69; refine (ffail_any _ _ _).mono ?_; rintro e w' ⟨rfl, hb'⟩; have bx := HBX.out.below hb' HBX.out.lt; obtain ⟨t0, t1, t2, t3⟩ := box4 bx; obtain ⟨f0, f1, f2, f3⟩ := free4 bx))
        all_goals first | (exfalso; omega) | (rw [HW.out]; exact fx_ret Tryz.results46 rfl rfl rfl rfl (put4 bx _ _ _ _) (below_four (Nat.le_refl _) (HBL.out.trans (hb'.mono HBL.out.size)) _ _ _ _))
    · have hbf : (x1 || x2) = false := by simpa using hb
      have hc : x1 = false ∧ x2 = false := by cases x1 <;> cases x2 <;> simp_all
      obtain ⟨rfl, rfl⟩ := hc;clear hb hbf
      cases ho : fitP false (natF 0 (sub s.data.toList a t)) with
      | none =>
       have HW := hI (numFP_c HE.out HN1.out (by rw [HX1.out, HX2.out]; rfl) ho);have HPN := hI (fun (W : World) (h : ErrIn W) => parse_none (HP.out W h) ho);clear ho HP;have HER1 := hI (HERR.out.next HBL.out);rcases hor with rfl | ⟨rfl, q2⟩
       all_goals
        go_wp2_with (first
         | (go_at_call 42; refine (HA.out _).mono ?_; rintro e w' ⟨rfl, rfl⟩)
         | (go_at_call 71; refine (HF.out _).mono ?_; rintro e w' ⟨rfl, rfl⟩)
         | (go_at_call 72; refine (HPN.out _ HER1.out).mono ?_; rintro e w' ⟨n0, te, pe, rfl, hb1⟩)
         | (go_at_call 69; refine (ffail_any _ _ _).mono ?_; rintro e w' ⟨rfl, hb'⟩; have bx := (HBX.out.below hb1 HBX.out.lt).below hb' (nT HBX.out.lt hb1.size); obtain ⟨t0, t1, t2, t3⟩ := box4 bx; obtain ⟨f0, f1, f2, f3⟩ := free4 bx))
        all_goals first | (exfalso; omega) | (rw [HW.out]; exact fx_ret Tryz.results46 rfl rfl rfl rfl (put4 bx _ _ _ _) (below_four (Nat.le_refl _) (chain (chain HBL.out hb1) hb') _ _ _ _))
      | some v =>
       have HW := hI (numFP_d HE.out HN1.out (by rw [HX1.out, HX2.out]; rfl) ho);have HPS := hI (fun (W : World) (h : ErrIn W) => parse_some (HP.out W h) ho);clear ho HP;have HER1 := hI (HERR.out.next HBL.out);rcases hor with rfl | ⟨rfl, q2⟩
       all_goals
        go_wp2_with (first
         | (go_at_call 42; refine (HA.out _).mono ?_; rintro e w' ⟨rfl, rfl⟩)
         | (go_at_call 71; refine (HF.out _).mono ?_; rintro e w' ⟨rfl, rfl⟩)
         | (go_at_call 72; refine (HPS.out _ HER1.out).mono ?_; rintro e w' ⟨rfl, hb1⟩; have bx := HBX.out.below hb1 HBX.out.lt; obtain ⟨t0, t1, t2, t3⟩ := box4 bx; obtain ⟨f0, f1, f2, f3⟩ := free4 bx))
        all_goals first | (exfalso; omega) | (rw [HW.out]; exact fx_ret Tryz.results46 rfl rfl rfl rfl (put4 bx _ _ _ _) (below_four (Nat.le_refl _) (chain HBL.out hb1) _ _ _ _))
theorem quoted_any (s : ByteArray) (a : Nat) (hs : s.size ≤ 1048576) (w : World) (hE : ErrIn w) : Calls Tryz.prog 47 #[.string s, ι a] w (FxPost (strFP s.data.toList a) w) := by
 have HN := hI (fun (W : World) (h : ErrIn W) => lex_open (next_any s a hs W h));have HERR := hI hE;unfold strFP;generalize lexP s.data.toList (a : Int) = x at HN ⊢;obtain ⟨K, F, T, B, I, S, P, E⟩ := x;simp only at HN ⊢;obtain ⟨W1, hW1⟩ : ∃ X, X = w.alloc (.cells #[ι 0, ι 0, eS, ι 0] 41) := ⟨_, rfl⟩
 have HW1 := hI hW1;have HBX : Hid (Box W1 w.heap.size 41 #[ι 0, ι 0, eS, ι 0]) := hI (by rw [hW1]; exact Box.laid w _ _);have HBL : Hid (Below w.heap.size w W1) := hI (by rw [hW1]; exact (Below.refl _ _).alloc (Nat.le_refl _) _);have HER1 := hI (HERR.out.next HBL.out);clear hW1 hE
 go_enter Tryz.func47, Tryz.ntmps47
 go_upto_region 1 with fail;rw [← HW1.out];go_upto_region 2 with (go_at_call 73; refine (HN.out _ HER1.out).mono ?_; rintro e w1 ⟨rfl, hb1⟩)
 obtain ⟨W2, hW2⟩ : ∃ X, X = w1.alloc (.cells #[ι K, ι F, ι T, .int .u8 B, ι I, .string S] 67) := ⟨_, rfl⟩
 rw [← hW2];have HBY := hI (show Box W2 w1.heap.size 67 #[ι K, ι F, ι T, .int .u8 B, ι I, .string S] by rw [hW2]; exact Box.laid w1 _ _);have HBX2 := hI (show Box W2 w.heap.size 41 #[ι 0, ι 0, eS, ι 0] by rw [hW2]; exact (HBX.out.below hb1 HBX.out.lt).alloc _);have HBW := hI (show Below w.heap.size w W2 by rw [hW2]; exact chain HBL.out (hb1.alloc hb1.size _));obtain ⟨y0, y1, y2, y3, y4, y5⟩ := box6 HBY.out;clear hW2 hb1;generalize w1.heap.size = g at *
 by_cases hE0 : E = 0
 · subst hE0;rw [if_pos rfl];obtain ⟨t0, t1, t2, t3⟩ := box4 HBX2.out;obtain ⟨f0, f1, f2, f3⟩ := free4 HBX2.out;go_wp2_with fail;exact fx_ret Tryz.results47 rfl rfl rfl rfl (put4 HBX2.out _ _ _ _) (below_four (Nat.le_refl _) HBW.out _ _ _ _)
 · rw [if_neg hE0];have qe : ((E : Int) != 0) = true := by rw [bne_iff_ne]; omega
   go_wp2_with (go_at_call 69; refine (ffail_any _ _ _).mono ?_; rintro e w' ⟨rfl, hb'⟩; have bx := HBX2.out.below hb' HBX2.out.lt; obtain ⟨t0, t1, t2, t3⟩ := box4 bx; obtain ⟨f0, f1, f2, f3⟩ := free4 bx)
   exact fx_ret Tryz.results47 rfl rfl rfl rfl (put4 bx _ _ _ _) (below_four (Nat.le_refl _) (chain HBW.out hb') _ _ _ _)
end Go.Proofs.YtoleoimmpggldaaGreatDoor
namespace Go.Proofs.YtoleoimmpggldaaGreatDoor
open Go.RowKit
theorem has_pre (l p : List UInt8) : Lib.hasPrefix l p = p.isPrefixOf l := by
 rw [← Lib.hasPrefix_of_take];rw [Bool.eq_iff_iff, List.isPrefixOf_iff_prefix];simp only [Bool.and_eq_true, decide_eq_true_eq, beq_iff_eq]
 constructor
 · rintro ⟨_, h⟩;rw [← h];exact List.take_prefix _ _
 · intro h;exact ⟨h.length_le, (List.prefix_iff_eq_take.1 h).symm⟩
def NoSign (l : List UInt8) (a j : Nat) : Prop := signsL.find? (fun t => t.isPrefixOf (l.drop a)) = (signsL.drop j).find? (fun t => t.isPrefixOf (l.drop a))
theorem NoSign.start (l : List UInt8) (a : Nat) : NoSign l a 0 := rfl
theorem NoSign.next {l : List UInt8} {a j : Nat} {t : List UInt8} (h : NoSign l a j) (hj : signsL[j]? = some t) (hp : t.isPrefixOf (l.drop a) = false) : NoSign l a (j + 1) := by
 obtain ⟨h1, h2⟩ := gE.1 hj;unfold NoSign at h ⊢;rw [h, List.drop_eq_getElem_cons h1, h2, List.find?_cons, hp]
theorem NoSign.hit {l : List UInt8} {a j : Nat} {t : List UInt8} (h : NoSign l a j) (hj : signsL[j]? = some t) (hp : t.isPrefixOf (l.drop a) = true) : signFP l a = okF 7 a (bsF t) 0 (a + t.length) := by
 obtain ⟨h1, h2⟩ := gE.1 hj;unfold NoSign at h;unfold signFP;rw [h, List.drop_eq_getElem_cons h1, h2, List.find?_cons, hp]
theorem NoSign.end_ {l : List UInt8} {a : Nat} (h : NoSign l a 32) : signFP l a = noF a 4 := by
 unfold NoSign at h;unfold signFP;rw [h]
 rfl
theorem sign_len {j : Nat} {t : List UInt8} (h : signsL[j]? = some t) : t.length ≤ 2 := by
 have := signs_short t (List.mem_of_getElem? h);omega
theorem fsign_any (s : ByteArray) (a : Nat) (hs : s.size ≤ 1048576) (ha : a < s.size) (w : World) (hG : SgIn w) : Calls Tryz.prog 48 #[.string s, ι a] w (FxPost (signFP s.data.toList a) w) := by
 have HPR := hI (fun (t : List UInt8) W => pre_lib (s.extract a s.size) (bsF t) W);have HSG := hI hG;have HIX := hI (fun (j : Nat) (t : List UInt8) (h : signsL[j]? = some t) W => index_sign h W);obtain ⟨W1, hW1⟩ : ∃ X, X = w.alloc (.cells #[ι 0, ι 0, eS, ι 0] 41) := ⟨_, rfl⟩
 have HW1 := hI hW1;have HBX : Hid (Box W1 w.heap.size 41 #[ι 0, ι 0, eS, ι 0]) := hI (by rw [hW1]; exact Box.laid w _ _);have HBL : Hid (Below w.heap.size w W1) := hI (by rw [hW1]; exact (Below.refl _ _).alloc (Nat.le_refl _) _);have HN0 := hI (NoSign.start s.data.toList a);obtain ⟨x, hx⟩ : ∃ x, signFP s.data.toList a = x := ⟨_, rfl⟩
 have HX := hI hx;rw [hx];clear hW1 hG hx;obtain ⟨sg, hsg⟩ : ∃ sg, sgV = sg := ⟨_, rfl⟩
 have HS1 : Hid (∃ t fr, W1.heap[0]? = some (.cells sg t fr)) := hI (by rw [← hsg]; exact HSG.out.next HBL.out);rw [hsg] at HIX;have HSZ : Hid (sg.size = 32) := hI (by rw [← hsg]; exact sgV_size);clear hsg
 go_enter Tryz.func48, Tryz.ntmps48
 go_upto_region 1 with fail;rw [← HW1.out];obtain ⟨ts, fr, hheap⟩ := HS1.out
 go_wp2_with (refine wpList_load_row rfl 86 _ rfl 0 rfl ts sg fr _ hheap Tryz.underlying86 rfl (by rw [HSZ.out]; kernel_rfl) ?_)
 go_loop [8, 10] (fun t8 t10 => ∃ j : Nat, j ≤ 32 ∧ t10 = ι j ∧ Hid (NoSign s.data.toList a j)) (fun t8 t10 => 32 - (intOf t10).toNat)
 case atStart => exact ⟨0, by omega, rfl, HN0⟩
 case round =>
  obtain ⟨j, hj, rfl, HNS⟩ := hrel
  by_cases hlt : j < 32
  · obtain ⟨t, ht⟩ : ∃ t, signsL[j]? = some t := ⟨_, List.getElem?_eq_getElem (show j < signsL.length from hlt)⟩
    have HT := hI ht;have hi := HIX.out j t ht;have hp := fun W => HPR.out t W
    rw [Lib.extract_to_end, has_pre, bsF_list] at hp;have htl := sign_len ht;have hbl : (bsF t).size = t.length := bsF_size t;obtain ⟨ti, hti⟩ : ∃ ti, bsF t = ti := ⟨_, rfl⟩
    rw [hti] at hi hp hbl;clear ht
    cases hq : t.isPrefixOf (s.data.toList.drop a) with
    | true =>
     have HH := hI (HNS.out.hit HT.out hq);rw [hti] at HH;rw [hq] at hp;have HP := hI hp;have HC := hI (fun W => clone_lib ti W (by omega));have HBS := hI hbl;clear hp hq hti hbl
     go_wp2_with (first
      | (go_at_call 74; refine (HP.out _).mono ?_; rintro e w' ⟨rfl, rfl⟩)
      | (go_at_call 70; refine (HC.out _).mono ?_; rintro e w' ⟨rfl, hb'⟩; have bx := HBX.out.below hb' HBX.out.lt; obtain ⟨t0, t1, t2, t3⟩ := box4 bx; obtain ⟨f0, f1, f2, f3⟩ := free4 bx))
     have hp2 : wrap64 ((a : Int) + (ti.size : Int)) = ((a + t.length : Nat) : Int) := by
      rw [HBS.out];unfold wrap64;omega
     rw [hp2, ← HX.out, HH.out];exact fx_ret Tryz.results48 rfl rfl rfl rfl (put4 bx _ _ _ _) (below_four (Nat.le_refl _) (HBL.out.trans (hb'.mono HBL.out.size)) _ _ _ _)
    | false =>
     have HN2 := hI (HNS.out.next HT.out hq);rw [hq] at hp;have HP := hI hp;clear hp hq hti hbl
     go_wp2_with (go_at_call 74; refine (HP.out _).mono ?_; rintro e w' ⟨rfl, rfl⟩)
     go_round
     case rel => exact ⟨j + 1, by omega, by go_num, HN2⟩
     case measure => simp [intOf]; omega
  · have hj32 : j = 32 := by omega
    subst hj32;have HH := hI HNS.out.end_
    go_wp2_with (go_at_call 69; refine (ffail_any _ _ _).mono ?_; rintro e w' ⟨rfl, hb'⟩; have bx := HBX.out.below hb' HBX.out.lt; obtain ⟨t0, t1, t2, t3⟩ := box4 bx; obtain ⟨f0, f1, f2, f3⟩ := free4 bx)
    rw [← HX.out, HH.out];exact fx_ret Tryz.results48 rfl rfl rfl rfl (put4 bx _ _ _ _) (below_four (Nat.le_refl _) (HBL.out.trans (hb'.mono HBL.out.size)) _ _ _ _)
end Go.Proofs.YtoleoimmpggldaaGreatDoor
namespace Go.Proofs.YtoleoimmpggldaaGreatDoor
open Go.RowKit
theorem fnext_any (s : ByteArray) (a : Nat) (hs : s.size ≤ 1048576) (ha : a < s.size) (w : World) (hE : ErrIn w) (hG : SgIn w) : Calls Tryz.prog 23 #[.string s, ι a] w (FxPost (tokP s.data.toList a) w) := by
 have hsm : s.size ≤ maxLen := by unfold maxLen; omega
 have HL := hI (show s.data.toList.length = s.size by simp);obtain ⟨W1, hW1⟩ : ∃ X, X = w.alloc (.cells #[ι 0, ι 0, eS, ι 0] 41) := ⟨_, rfl⟩
 have HW1 := hI hW1;have HBX : Hid (Box W1 w.heap.size 41 #[ι 0, ι 0, eS, ι 0]) := hI (by rw [hW1]; exact Box.laid w _ _);have HBL : Hid (Below w.heap.size w W1) := hI (by rw [hW1]; exact (Below.refl _ _).alloc (Nat.le_refl _) _);have HE1 := hI (hE.next HBL.out);have HG1 := hI (hG.next HBL.out);clear hW1 hE hG;obtain ⟨b, hb⟩ : ∃ b, s[a] = b := ⟨_, rfl⟩
 have HAT := hI (at_list ha hb);have HB0 := hI (fun W => fbegins_any s a hsm W);have hb1 := fun W => fbegins_any s (a + 1) hsm W
 rw [show ((a + 1 : Nat) : Int) = (a : Int) + 1 by omega] at hb1;have HB1 := hI hb1;clear hb1;have HDG := hI (fun W => fdig_any b W);have HWD := hI (fun W => fx_open (fword_any s a hs (by omega) W));obtain ⟨x, hx⟩ : ∃ x, tokP s.data.toList a = x := ⟨_, rfl⟩
 rw [hx];unfold tokP at hx;rw [bytq HAT.out, atF_at (p := digB) HAT.out] at hx;have h1n : ∀ x0, atF nameB s.data.toList a = x0 → nameB b = x0 := fun x0 h => by rw [← h, atF_at HAT.out]
 clear hsm
 cases c0 : atF nameB s.data.toList a with
 | true =>
  rw [c0] at HB0;rw [c0, if_pos rfl] at hx;rw [hx] at HWD;clear c0 hx h1n
  go_enter Tryz.func23, Tryz.ntmps23
  go_upto_region 1 with fail;rw [← HW1.out]
  go_wp2_with (first
   | (go_at_call 42; (with_reducible refine (HB0.out _).mono ?_); rintro e w' ⟨rfl, rfl⟩)
   | (go_at_call 43; refine (HWD.out _).mono ?_; rintro e w' ⟨rfl, hb'⟩; have bx := HBX.out.below hb' HBX.out.lt; obtain ⟨t0, t1, t2, t3⟩ := box4 bx; obtain ⟨f0, f1, f2, f3⟩ := free4 bx))
  exact fx_ret Tryz.results23 rfl rfl rfl rfl (put4 bx _ _ _ _) (below_four (Nat.le_refl _) (HBL.out.trans (hb'.mono HBL.out.size)) _ _ _ _)
 | false =>
  rw [c0] at HB0;rw [c0, if_neg Bool.false_ne_true] at hx;clear HWD h1n c0;obtain ⟨x1, hx1⟩ : ∃ x1, atF nameB s.data.toList (a + 1) = x1 := ⟨_, rfl⟩
  rw [hx1] at HB1 hx;have ha1 : x1 = true → a + 1 ≤ s.size := fun h => by
   rw [h] at hx1;have := (name_step hx1).1;omega
  have HA1 := hI ha1;clear hx1 ha1
  by_cases c36 : b.toNat = 36 ∧ x1 = true
  · rw [if_pos c36] at hx;have hnm := fun W => fx_open (named_any 3 s a (a + 1) hs (HA1.out c36.2) W)
    rw [hx, show ((a + 1 : Nat) : Int) = (a : Int) + 1 by omega, show ((3 : Nat) : Int) = 3 from rfl] at hnm;have HNM := hI hnm;clear hnm;obtain ⟨h36, rfl⟩ := c36;have q1 : ((b.toNat : Int) == 36) = true := by rw [beq_iff_eq]; omega
    clear hx h36
    go_enter Tryz.func23, Tryz.ntmps23
    go_upto_region 1 with fail;rw [← HW1.out]
    go_wp2_with (first
     | (go_at_call 42; (with_reducible refine (HB0.out _).mono ?_); rintro e w' ⟨rfl, rfl⟩)
     | (go_at_call 42; (with_reducible refine (HB1.out _).mono ?_); rintro e w' ⟨rfl, rfl⟩)
     | (go_at_call 44; refine (HNM.out _).mono ?_; rintro e w' ⟨rfl, hb'⟩; have bx := HBX.out.below hb' HBX.out.lt; obtain ⟨t0, t1, t2, t3⟩ := box4 bx; obtain ⟨f0, f1, f2, f3⟩ := free4 bx))
    exact fx_ret Tryz.results23 rfl rfl rfl rfl (put4 bx _ _ _ _) (below_four (Nat.le_refl _) (HBL.out.trans (hb'.mono HBL.out.size)) _ _ _ _)
  · rw [if_neg c36] at hx
    by_cases c46 : b.toNat = 46 ∧ x1 = true
    · rw [if_pos c46] at hx;have hnm := fun W => fx_open (named_any 4 s a (a + 1) hs (HA1.out c46.2) W)
      rw [hx, show ((a + 1 : Nat) : Int) = (a : Int) + 1 by omega, show ((4 : Nat) : Int) = 4 from rfl] at hnm;have HNM := hI hnm;clear hnm;obtain ⟨h46, rfl⟩ := c46;have q1 : ((b.toNat : Int) == 36) = false := bF.2 (fun h => by omega);have q2 : ((b.toNat : Int) == 46) = true := by rw [beq_iff_eq]; omega
      clear hx h46 c36
      go_enter Tryz.func23, Tryz.ntmps23
      go_upto_region 1 with fail;rw [← HW1.out]
      go_wp2_with (first
       | (go_at_call 42; (with_reducible refine (HB0.out _).mono ?_); rintro e w' ⟨rfl, rfl⟩)
       | (go_at_call 42; (with_reducible refine (HB1.out _).mono ?_); rintro e w' ⟨rfl, rfl⟩)
       | (go_at_call 44; refine (HNM.out _).mono ?_; rintro e w' ⟨rfl, hb'⟩; have bx := HBX.out.below hb' HBX.out.lt; obtain ⟨t0, t1, t2, t3⟩ := box4 bx; obtain ⟨f0, f1, f2, f3⟩ := free4 bx))
      exact fx_ret Tryz.results23 rfl rfl rfl rfl (put4 bx _ _ _ _) (below_four (Nat.le_refl _) (HBL.out.trans (hb'.mono HBL.out.size)) _ _ _ _)
    · rw [if_neg c46] at hx;obtain ⟨q, hq⟩ : ∃ q : Bool, ((b.toNat : Int) == 36) = q := ⟨_, rfl⟩
      obtain ⟨r, hr⟩ : ∃ r : Bool, ((b.toNat : Int) == 46) = r := ⟨_, rfl⟩
      have hqr : x1 = false ∨ (x1 = true ∧ q = false ∧ r = false) := by
       cases x1 with
       | false => exact .inl rfl
       | true =>
        refine .inr ⟨rfl, ?_, ?_⟩
        · rw [← hq]; exact bF.2 (fun h => c36 ⟨by omega, rfl⟩)
        · rw [← hr]; exact bF.2 (fun h => c46 ⟨by omega, rfl⟩)
      clear c36 c46
      cases cd : digB b with
      | true =>
       rw [cd] at HDG;rw [cd, if_pos rfl] at hx;have HNU := hI (fun (W : World) (h : ErrIn W) => fx_open (fnumber_any s a hs ha (by rw [atF_at HAT.out]; exact cd) W h));rw [hx] at HNU;clear hx cd;rcases hqr with rfl | ⟨rfl, rfl, rfl⟩
       · cases q
         all_goals
          cases r
          all_goals
           go_enter Tryz.func23, Tryz.ntmps23
           go_upto_region 1 with fail;rw [← HW1.out]
           go_wp2_with (first
            | (go_at_call 42; (with_reducible refine (HB0.out _).mono ?_); rintro e w' ⟨rfl, rfl⟩)
            | (go_at_call 42; (with_reducible refine (HB1.out _).mono ?_); rintro e w' ⟨rfl, rfl⟩)
            | (go_at_call 45; refine (HDG.out _).mono ?_; rintro e w' ⟨rfl, rfl⟩)
            | (go_at_call 46; refine (HNU.out _ HE1.out).mono ?_; rintro e w' ⟨rfl, hb'⟩; have bx := HBX.out.below hb' HBX.out.lt; obtain ⟨t0, t1, t2, t3⟩ := box4 bx; obtain ⟨f0, f1, f2, f3⟩ := free4 bx))
           exact fx_ret Tryz.results23 rfl rfl rfl rfl (put4 bx _ _ _ _) (below_four (Nat.le_refl _) (HBL.out.trans (hb'.mono HBL.out.size)) _ _ _ _)
       · go_enter Tryz.func23, Tryz.ntmps23
         go_upto_region 1 with fail;rw [← HW1.out]
         go_wp2_with (first
          | (go_at_call 42; (with_reducible refine (HB0.out _).mono ?_); rintro e w' ⟨rfl, rfl⟩)
          | (go_at_call 42; (with_reducible refine (HB1.out _).mono ?_); rintro e w' ⟨rfl, rfl⟩)
          | (go_at_call 45; refine (HDG.out _).mono ?_; rintro e w' ⟨rfl, rfl⟩)
          | (go_at_call 46; refine (HNU.out _ HE1.out).mono ?_; rintro e w' ⟨rfl, hb'⟩; have bx := HBX.out.below hb' HBX.out.lt; obtain ⟨t0, t1, t2, t3⟩ := box4 bx; obtain ⟨f0, f1, f2, f3⟩ := free4 bx))
         exact fx_ret Tryz.results23 rfl rfl rfl rfl (put4 bx _ _ _ _) (below_four (Nat.le_refl _) (HBL.out.trans (hb'.mono HBL.out.size)) _ _ _ _)
      | false =>
       rw [cd] at HDG;rw [cd, if_neg Bool.false_ne_true] at hx;clear cd;have HQU := hI (fun (W : World) (h : ErrIn W) => fx_open (quoted_any s a hs W h));have HSI := hI (fun (W : World) (h : SgIn W) => fx_open (fsign_any s a hs ha W h))
       by_cases c34 : b.toNat = 34
       · rw [if_pos c34] at hx;rw [hx] at HQU;have q34 : ((b.toNat : Int) == 34) = true := by rw [beq_iff_eq]; omega
         have hq0 : q = false := by rw [← hq]; exact bF.2 (fun h => by omega)
         have hr0 : r = false := by rw [← hr]; exact bF.2 (fun h => by omega)
         subst hq0 hr0;clear hx c34 hqr
         go_enter Tryz.func23, Tryz.ntmps23
         go_upto_region 1 with fail;rw [← HW1.out]
         go_wp2_with (first
          | (go_at_call 42; (with_reducible refine (HB0.out _).mono ?_); rintro e w' ⟨rfl, rfl⟩)
          | (go_at_call 45; refine (HDG.out _).mono ?_; rintro e w' ⟨rfl, rfl⟩)
          | (go_at_call 47; refine (HQU.out _ HE1.out).mono ?_; rintro e w' ⟨rfl, hb'⟩; have bx := HBX.out.below hb' HBX.out.lt; obtain ⟨t0, t1, t2, t3⟩ := box4 bx; obtain ⟨f0, f1, f2, f3⟩ := free4 bx))
         exact fx_ret Tryz.results23 rfl rfl rfl rfl (put4 bx _ _ _ _) (below_four (Nat.le_refl _) (HBL.out.trans (hb'.mono HBL.out.size)) _ _ _ _)
       · rw [if_neg c34] at hx;rw [hx] at HSI;have q34 : ((b.toNat : Int) == 34) = false := bF.2 (fun h => c34 (by omega));clear hx c34;rcases hqr with rfl | ⟨rfl, rfl, rfl⟩
         · cases q
           all_goals
            cases r
            all_goals
             go_enter Tryz.func23, Tryz.ntmps23
             go_upto_region 1 with fail;rw [← HW1.out]
             go_wp2_with (first
              | (go_at_call 42; (with_reducible refine (HB0.out _).mono ?_); rintro e w' ⟨rfl, rfl⟩)
              | (go_at_call 42; (with_reducible refine (HB1.out _).mono ?_); rintro e w' ⟨rfl, rfl⟩)
              | (go_at_call 45; refine (HDG.out _).mono ?_; rintro e w' ⟨rfl, rfl⟩)
              | (go_at_call 48; refine (HSI.out _ HG1.out).mono ?_; rintro e w' ⟨rfl, hb'⟩; have bx := HBX.out.below hb' HBX.out.lt; obtain ⟨t0, t1, t2, t3⟩ := box4 bx; obtain ⟨f0, f1, f2, f3⟩ := free4 bx))
             exact fx_ret Tryz.results23 rfl rfl rfl rfl (put4 bx _ _ _ _) (below_four (Nat.le_refl _) (HBL.out.trans (hb'.mono HBL.out.size)) _ _ _ _)
         · go_enter Tryz.func23, Tryz.ntmps23
           go_upto_region 1 with fail;rw [← HW1.out]
           go_wp2_with (first
            | (go_at_call 42; (with_reducible refine (HB0.out _).mono ?_); rintro e w' ⟨rfl, rfl⟩)
            | (go_at_call 42; (with_reducible refine (HB1.out _).mono ?_); rintro e w' ⟨rfl, rfl⟩)
            | (go_at_call 45; refine (HDG.out _).mono ?_; rintro e w' ⟨rfl, rfl⟩)
            | (go_at_call 48; refine (HSI.out _ HG1.out).mono ?_; rintro e w' ⟨rfl, hb'⟩; have bx := HBX.out.below hb' HBX.out.lt; obtain ⟨t0, t1, t2, t3⟩ := box4 bx; obtain ⟨f0, f1, f2, f3⟩ := free4 bx))
           exact fx_ret Tryz.results23 rfl rfl rfl rfl (put4 bx _ _ _ _) (below_four (Nat.le_refl _) (HBL.out.trans (hb'.mono HBL.out.size)) _ _ _ _)
end Go.Proofs.YtoleoimmpggldaaGreatDoor
namespace Go.Proofs.YtoleoimmpggldaaGreatDoor
open Go.RowKit
def rowT (ts : List Fk) : List Value := ts.flatMap Fk.cs
theorem rowT_append (a b : List Fk) : rowT (a ++ b) = rowT a ++ rowT b := by simp [rowT]
theorem rowT_one (t : Fk) : rowT [t] = t.cs := by simp [rowT]
theorem cs_one (t : Fk) : ∀ u ∈ t.cs, u.oneCell' = true := by
 intro u hu;simp only [Fk.cs, List.mem_cons, List.not_mem_nil, or_false] at hu;rcases hu with rfl | rfl | rfl | rfl <;> rfl
theorem inf_ft : (Tryz.prog.info? 41).map (fun i => (i.zero, i.size, i.bytes)) = some (some (.agg #[ι 0, ι 0, eS, ι 0]), 4, 40) := by kernel_rfl
theorem four_new (w : World) (x0 x1 x2 x3 : Value) (t : TypeId) (g : Nat) (hg : w.heap.size = g) : ∀ j u, [x0, x1, x2, x3][j]? = some u → (w.alloc (.cells #[x0, x1, x2, x3] t)).cell? ((⟨g, 0, none⟩ : Addr).add j) = some u := by
 subst hg;intro j u hj
 match j, hj with
 | 0, hj => simp at hj; subst hj; simp [Addr.add]
 | 1, hj => simp at hj; subst hj; simp [Addr.add]
 | 2, hj => simp at hj; subst hj; simp [Addr.add]
 | 3, hj => simp at hj; subst hj; simp [Addr.add]
theorem own_keepB {w w' : World} {base : Nat} {e : TypeId} {size n : Nat} {v : Value} {xs : List Value} (h : w.ownsRow base e size v n xs) (hb : Below w.heap.size w w') : w'.ownsRow base e size v n xs :=
 h.kept (below_grown hb none) (by cases h2 : v.ownBlock with | none => exact .inl rfl | some g => exact .inr (by simp))
theorem own_form {w : World} {base : Nat} {e : TypeId} {size n : Nat} {v : Value} {xs : List Value} (h : w.ownsRow base e size v n xs) : ∃ A c, v = .slice A n c := by
 rcases h.2 with ⟨rfl, rfl⟩ | ⟨g, cap, cur, rfl, -⟩
 · exact ⟨none, 0, rfl⟩
 · exact ⟨_, _, rfl⟩
def FlexPost (r : Fr) (w : World) (e : Ending) (w' : World) : Prop := Below w.heap.size w w' ∧ ∃ (A : Option Addr) (n c : Nat), e = .returned (.tuple #[.slice A n c, ι r.p, ι r.e]) ∧ match r.ts with
 | none => A = none ∧ n = 0 ∧ c = 0
 | some ts => n = ts.length ∧ w'.ownsRow w.heap.size 41 4 (.slice A n c) n (rowT ts)
theorem flex_none {w w' : World} {r : Fr} {p e : Nat} (h : r = ⟨none, p, e⟩) (hb : Below w.heap.size w w') : FlexPost r w (.returned (.tuple #[nL, ι p, ι e])) w' := by
 subst h;exact ⟨hb, none, 0, 0, rfl, rfl, rfl, rfl⟩
theorem flex_any (s : ByteArray) (hs0 : s.size ≤ 281474976710656) (w : World) (hE : ErrIn w) (hG : SgIn w) : Calls Tryz.prog 12 #[.string s] w (FlexPost (lexFP s.data.toList) w) := by
 have HL := hI (show s.data.toList.length = s.size by simp)
 by_cases h8 : 8192 < s.size
 · have HR : Hid (lexFP s.data.toList = ⟨none, 0, 2⟩) := hI (by unfold lexFP; rw [HL.out, if_pos h8]);rw [HR.out];have q8 : (8192 : Int) < (s.size : Int) := by omega
   go_enter Tryz.func12, Tryz.ntmps12
   go_wp2_with fail;refine bodyPost_ret (v := .tuple #[nL, ι 0, ι 2]) (by simp [results, Tryz.results12, go_sem]) rfl ?_;exact flex_none rfl (Below.refl _ _)
 · have hs : s.size ≤ 1048576 := by omega
   have hsm : s.size ≤ maxLen := by unfold maxLen; omega
   obtain ⟨i0, hi, hz0, hz1, hz2⟩ := info_parts inf_ft;have HSK := hI (fun (k : Nat) (h : k ≤ s.size) W => fskip_any s k hsm h W);have HNX := hI (fun (k : Nat) (h : k < s.size) (W : World) (hb : Below w.heap.size w W) => fx_open (fnext_any s k hs h W (hE.next hb) (hG.next hb)));have HST := hI (FAt.start (l := s.data.toList) (by rw [HL.out]; exact h8));have hg0 : gapP s.data.toList 0 ≤ s.size := by rw [← HL.out]; exact gap_le _ _
   have HS0 := hI (HSK.out 0 (Nat.zero_le _));generalize gapP s.data.toList 0 = g0 at HST hg0 HS0;obtain ⟨R, hR⟩ : ∃ R, lexFP s.data.toList = R := ⟨_, rfl⟩
   have HR := hI hR;rw [hR];clear hE hG hs0 hsm hR
   go_enter Tryz.func12, Tryz.ntmps12
   go_wp2_with (go_at_call 22; refine (HS0.out _).mono ?_; rintro e w' ⟨rfl, rfl⟩)
   go_loopw [5, 6] (fun tv ti wr => ∃ (A : Option Addr) (c a : Nat) (ts : List Fk), a ≤ s.size ∧ ts.length ≤ 2048 ∧ tv = .slice A ts.length c ∧ ti = ι a ∧ Hid (wr.ownsRow w.heap.size 41 4 (.slice A ts.length c) ts.length (rowT ts)) ∧ Hid (Below w.heap.size w wr) ∧ Hid (FAt s.data.toList a ts)) (fun _ ti _ => s.size - (intOf ti).toNat)
   case atStart => exact ⟨none, 0, g0, [], hg0, Nat.zero_le _, rfl, rfl, hI (World.ownsRow_nil _ _ _ _), hI (Below.refl _ _), HST⟩
   case round =>
    clear HST HS0;obtain ⟨A, c, a, ts, ha, htl, rfl, rfl, HO, HBE, HF⟩ := hrel
    by_cases hlt : a < s.size
    · by_cases hfull : ts.length = 2048
      · have HX := hI (HF.out.full (by rw [HL.out]; exact hlt) hfull);have qf : ((ts.length : Int) == 2048) = true := by rw [beq_iff_eq]; omega
        clear hfull;go_wp2_with fail;refine bodyPost_ret (v := .tuple #[nL, ι a, ι 2]) (by simp [results, Tryz.results12, go_sem]) rfl ?_;exact flex_none (HR.out.symm.trans HX.out) HBE.out
      · have qf : ((ts.length : Int) == 2048) = false := bF.2 (fun h => hfull (by omega));have hnx := HNX.out a hlt wr HBE.out;have hbad := HF.out.bad (by rw [HL.out]; exact hlt) hfull;have hgood := HF.out.next (by rw [HL.out]; exact hlt) hfull
        have htok := tok_ok (l := s.data.toList) (a := a) (by rw [HL.out]; exact hlt);generalize tokP s.data.toList a = x at hnx hbad hgood htok;obtain ⟨⟨K, O, S, I⟩, P, E⟩ := x;simp only at hnx hbad hgood htok;have HN := hI hnx;clear hnx hfull
        by_cases hE0 : E = 0
        · subst hE0;obtain ⟨g1, g2⟩ := hgood rfl;obtain ⟨g3, g4⟩ := htok rfl;rw [HL.out] at g4;have HFN := hI g1;have hgl : gapP s.data.toList P ≤ s.size := by rw [← HL.out]; exact gap_le _ _
          have HSP := hI (HSK.out P g4);generalize gapP s.data.toList P = a2 at HFN hgl HSP g2;have htl2 : ts.length + 1 ≤ 2048 := by
           have h := HFN.out.2.1
           simpa using h
          clear hbad hgood htok g1;go_upto_region 9 with (go_at_call 23; refine HN.out.mono ?_; rintro e w1 ⟨rfl, hb1⟩)
          obtain ⟨W2, hW2⟩ : ∃ X, X = w1.alloc (.cells #[ι K, ι O, .string S, ι I] 41) := ⟨_, rfl⟩
          rw [← hW2];have HBX := hI (show Box W2 w1.heap.size 41 #[ι K, ι O, .string S, ι I] by rw [hW2]; exact Box.laid w1 _ _);have HBW := hI (show Below wr.heap.size wr W2 by rw [hW2]; exact hb1.alloc hb1.size _);have HO2 := hI (own_keepB HO.out HBW.out);obtain ⟨t0, t1, t2, t3⟩ := box4 HBX.out;clear hW2 hb1;generalize w1.heap.size = gx at *
          have hszW : w.heap.size ≤ W2.heap.size := Nat.le_trans HBE.out.size HBW.out.size
          go_wp2_with (first
           | (at_builtin; refine wpList_append_own _ rfl _ _ 35 rfl w.heap.size 41 i0 (.agg #[ι 0, ι 0, eS, ι 0]) 4 40 Tryz.underlying35 hi hz0 hz1 hz2 rfl (by decide) (.slice A ts.length c) ts.length (rowT ts) rfl (HO2.out.alloc _) ⟨W2.heap.size, 0, none⟩ 1 1 [ι K, ι O, .string S, ι I] rfl rfl (four_new _ _ _ _ _ _ _ rfl) (cs_one ⟨K, O, S, I⟩) (by unfold maxLen; omega) (by omega) (by simp; omega) ?_; intro v3 w3 hown3 hgrow3 _)
           | (go_at_call 22; refine (HSP.out _).mono ?_; rintro e w' ⟨rfl, rfl⟩))
          obtain ⟨A3, c3, rfl⟩ := own_form hown3;have e1 : (ts ++ [(⟨K, O, S, I⟩ : Fk)]).length = ts.length + 1 := by simp
          have hbn : Below w.heap.size w w3 := ((chain HBE.out HBW.out).alloc hszW _).grown hgrow3 (by simp; omega) (fun j hj => (HO.out.lt j hj).1)
          go_roundw
          case rel => exact ⟨A3, c3, a2, ts ++ [⟨K, O, S, I⟩], hgl, by rw [e1]; exact htl2, by rw [e1], rfl, hI (by rw [e1, rowT_append, rowT_one]; exact hown3), hI hbn, HFN⟩
          case measure => simp [intOf]; omega
        · have HX := hI (hbad hE0);have qe : ((E : Int) != 0) = true := by rw [bne_iff_ne]; omega
          clear hbad hgood htok hE0;go_upto_region 9 with (go_at_call 23; refine HN.out.mono ?_; rintro e w1 ⟨rfl, hb1⟩)
          have HBW := hI (chain HBE.out (hb1.alloc hb1.size (.cells #[ι K, ι O, .string S, ι I] 41)));clear hb1;go_wp2_with fail;refine bodyPost_ret (v := .tuple #[nL, ι P, ι E]) (by simp [results, Tryz.results12, go_sem]) rfl ?_;exact flex_none (HR.out.symm.trans HX.out) HBW.out
    · have HX := hI (HF.out.done (by rw [HL.out]; exact hlt));rw [HL.out] at HX;have hszW : w.heap.size ≤ wr.heap.size := HBE.out.size
      go_wp2_with (at_builtin; refine wpList_append_own _ rfl _ _ 35 rfl w.heap.size 41 i0 (.agg #[ι 0, ι 0, eS, ι 0]) 4 40 Tryz.underlying35 hi hz0 hz1 hz2 rfl (by decide) (.slice A ts.length c) ts.length (rowT ts) rfl (HO.out.alloc _) ⟨wr.heap.size, 0, none⟩ 1 1 [ι 0, ι (s.size : Int), eS, ι 0] rfl rfl (four_new _ _ _ _ _ _ _ rfl) (cs_one ⟨0, s.size, ⟨#[]⟩, 0⟩) (by unfold maxLen; omega) (by omega) (by simp; omega) ?_; intro v3 w3 hown3 hgrow3 _)
      obtain ⟨A3, c3, rfl⟩ := own_form hown3;have hbn : Below w.heap.size w w3 := (HBE.out.alloc hszW _).grown hgrow3 (by simp; omega) (fun j hj => (HO.out.lt j hj).1);have e1 : (ts ++ [(⟨0, s.size, ⟨#[]⟩, 0⟩ : Fk)]).length = ts.length + 1 := by simp
      refine bodyPost_ret (v := .tuple #[.slice A3 (ts.length + 1) c3, ι 0, ι 0]) (by simp [results, Tryz.results12, go_sem]) rfl ?_;rw [← HR.out, HX.out];exact ⟨hbn, A3, ts.length + 1, c3, rfl, e1.symm, by rw [rowT_append, rowT_one]; exact hown3⟩
