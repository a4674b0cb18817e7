import Derived.Test.YtoleoimmpggldaaGreatDoorQH
import Derived.BigQuiet
set_option linter.unusedVariables false
set_option linter.unusedSectionVars false
set_option linter.unusedSimpArgs false
set_option maxHeartbeats 10000000
set_option maxRecDepth 100000
namespace Go.Proofs.YtoleoimmpggldaaGreatDoor
open Go.RowKit
theorem rnumber10_any (s : ByteArray) (a : Nat) (hs : s.size ≤ 1048576) (ha : a < s.size) (hd : atF digB s.data.toList a = true) (w : World) : Calls Tryz.prog 37 #[.string s, ι a] w (RxPost (numFP s.data.toList a) w) := by
 have hsm : s.size ≤ maxLen := by unfold maxLen; omega
 have HL := hI (show s.data.toList.length = s.size by simp);obtain ⟨t, hts⟩ : ∃ t, span digB s.data.toList a = t := ⟨_, rfl⟩
 have hat : a < t := by have := (dig_step hd).2; omega
 have htl : t ≤ s.size := by rw [← HL.out, ← hts]; exact span_le (by rw [HL.out]; omega)
 have HE := hI hts;obtain ⟨b0, hb0⟩ : ∃ b0, s[a] = b0 := ⟨_, rfl⟩
 have HB0 := hI (at_list ha hb0);have hint := fun (W : World) => integer_any (s.extract a t) false (by rw [ByteArray.size_extract]; omega) (by rw [ext_subd, ← hts]; exact sub_digits _ _) W
 rw [ext_subd] at hint;obtain ⟨W1, hW1⟩ : ∃ X, X = w.alloc (.cells #[ι 0, ι 0, eS, ι 0] 41) := ⟨_, rfl⟩
 have HW1 := hI hW1;have HBX : Hid (Box W1 w.heap.size 41 #[ι 0, ι 0, eS, ι 0]) := hI (by rw [hW1]; exact Box.laid w _ _);have HBL : Hid (Below w.heap.size w W1) := hI (by rw [hW1]; exact (Below.refl _ _).alloc (Nat.le_refl _) _);obtain ⟨t0, t1, t2, t3⟩ := box4 HBX.out;obtain ⟨f0, f1, f2, f3⟩ := free4 HBX.out;clear hW1 hts hd hsm
 go_enter Tryz.func37, Tryz.ntmps37
 go_upto_region 1 with fail;rw [← HW1.out]
 go_upto_block 0 with fail
 go_cut [8] (fun t8 wx => wx = W1 ∧ t8 = ι (t : Nat))
 case first => as_aux_lemma =>
  clear t0 t1 t2 t3 f0 f1 f2 f3 hint
  go_wp2
  go_loop [8] (fun t8 => ∃ i : Nat, a ≤ i ∧ i ≤ s.size ∧ t8 = ι i ∧ span digB s.data.toList a = span digB s.data.toList i) (fun t8 => s.size - (intOf t8).toNat)
  case atStart => exact ⟨a, Nat.le_refl _, by omega, rfl, rfl⟩
  case round =>
   obtain ⟨i, hfi, hi, rfl, hsp⟩ := hrel;have HS := hI hsp;clear hsp
   by_cases hlt : i < s.size
   · obtain ⟨b, hb⟩ : ∃ b, s[i] = b := ⟨_, rfl⟩
     have H3 := hI (at_list hlt hb)
     cases hc : digB b with
     | true =>
      have HN := hI (span_inq H3.out hc)
      go_wp2_with (go_at_call 36; refine (rdig_any _ _).mono ?_; rw [hc]; rintro e w' ⟨rfl, rfl⟩)
      go_round
      case rel => exact ⟨i + 1, by omega, by omega, by go_num, HS.out.trans HN.out⟩
      case measure => simp [intOf]; omega
     | false =>
      have HN := hI (span_noq H3.out hc)
      go_wp2_with (go_at_call 36; refine (rdig_any _ _).mono ?_; rw [hc]; rintro e w' ⟨rfl, rfl⟩)
      go_meet
      exact ⟨rfl, by rw [← HE.out, HS.out, HN.out]⟩
   · have HN := hI (span_end (p := digB) (l := s.data.toList) (k := i) (by rw [HL.out]; omega))
     go_wp2
     all_goals go_meet
     all_goals exact ⟨rfl, by rw [← HE.out, HS.out, HN.out]⟩
 case rest =>
  obtain ⟨hweq, rfl⟩ := hcut;have hweq := hweq.symm;subst hweq
  by_cases h1 : b0.toNat = 48 ∧ a + 1 < t
  · have HW := hI (numFP_a HE.out (l := s.data.toList) (by rw [bytq HB0.out]; exact h1));have q1 : ((b0.toNat : Int) == 48) = true := by rw [beq_iff_eq]; omega
    have q2 : a + 1 < t := h1.2;clear h1;go_wp2_with fail
    all_goals first | (exfalso; omega) | (rw [HW.out]; exact rx_ret Tryz.results37 rfl rfl rfl rfl rfl rfl rfl rfl (put4 HBX.out _ _ _ _) (below_four (Nat.le_refl _) HBL.out _ _ _ _))
  · have HN1 : Hid (¬ (byt s.data.toList a = 48 ∧ a + 1 < t)) := hI (by rw [bytq HB0.out]; exact h1);obtain ⟨q, hq⟩ : ∃ q : Bool, ((b0.toNat : Int) == 48) = q := ⟨_, rfl⟩
    have hor : q = false ∨ (q = true ∧ ¬ a + 1 < t) := by
     cases q with
     | false => exact .inl rfl
     | true =>
      rw [beq_iff_eq] at hq;exact .inr ⟨rfl, fun h => h1 ⟨by omega, h⟩⟩
    clear h1;have HX1 : Hid (∀ x, (atF nameB s.data.toList t || fracB s.data.toList t) = x → (atF nameB s.data.toList t || fracB s.data.toList t) = x) := hI (fun _ h => h)
    cases ho : fitP false (natF 0 (sub s.data.toList a t)) with
    | none =>
     have HW : Hid (numFP s.data.toList a = noF a 7) := hI (by
      cases hx : (atF nameB s.data.toList t || fracB s.data.toList t) with
      | true => exact numFP_b HE.out HN1.out hx
      | false => exact numFP_c HE.out HN1.out hx ho)
     have HI := hI (fun W => int_none (hint W) ho);clear ho hint;rcases hor with rfl | ⟨rfl, q2⟩
     all_goals
      go_wp2_with (first
       | (go_at_call 58; refine (HI.out _).mono ?_; rintro e w' ⟨x0, rfl, rfl⟩))
      all_goals first | (exfalso; omega) | (rw [HW.out]; exact rx_ret Tryz.results37 rfl rfl rfl rfl rfl rfl rfl rfl (put4 HBX.out _ _ _ _) (below_four (Nat.le_refl _) HBL.out _ _ _ _))
    | some v =>
     have HI := hI (fun W => int_some (hint W) ho);have HO := hI ho;clear ho hint
     by_cases hts : t < s.size
     · obtain ⟨c, hc⟩ : ∃ c, s[t] = c := ⟨_, rfl⟩
       have HC := hI (at_list hts hc);have HA := hI (fun W => rname_any c W)
       cases hnc : nameB c with
       | true =>
        have HW := hI (numFP_b HE.out HN1.out (by rw [atF_at HC.out, hnc]; rfl));rw [hnc] at HA;clear hnc;rcases hor with rfl | ⟨rfl, q2⟩
        all_goals
         go_wp2_with (first
          | (go_at_call 58; refine (HI.out _).mono ?_; rintro e w' ⟨rfl, rfl⟩)
          | (go_at_call 33; refine (HA.out _).mono ?_; rintro e w' ⟨rfl, rfl⟩))
         all_goals first | (exfalso; omega) | (rw [HW.out]; exact rx_ret Tryz.results37 rfl rfl rfl rfl rfl rfl rfl rfl (put4 HBX.out _ _ _ _) (below_four (Nat.le_refl _) HBL.out _ _ _ _))
       | false =>
        rw [hnc] at HA
        by_cases ht1 : t + 1 < s.size
        · obtain ⟨d, hd⟩ : ∃ d, s[t + 1] = d := ⟨_, rfl⟩
          have HDA := hI (at_list ht1 hd);have HD := hI (fun W => rdig_any d W)
          by_cases h46 : c.toNat = 46
          · have q46 : ((c.toNat : Int) == 46) = true := by rw [beq_iff_eq]; omega
            cases hdd : digB d with
            | true =>
             have HW := hI (numFP_b HE.out HN1.out (by unfold fracB; rw [atF_at HC.out, hnc, bytq HC.out, atF_at HDA.out, hdd, decide_eq_true h46]; rfl));rw [hdd] at HD;clear hnc hdd h46;rcases hor with rfl | ⟨rfl, q2⟩
             all_goals
              go_wp2_with (first
               | (go_at_call 58; refine (HI.out _).mono ?_; rintro e w' ⟨rfl, rfl⟩)
               | (go_at_call 33; refine (HA.out _).mono ?_; rintro e w' ⟨rfl, rfl⟩)
               | (go_at_call 36; refine (HD.out _).mono ?_; rintro e w' ⟨rfl, rfl⟩))
              all_goals first | (exfalso; omega) | (rw [HW.out]; exact rx_ret Tryz.results37 rfl rfl rfl rfl rfl rfl rfl rfl (put4 HBX.out _ _ _ _) (below_four (Nat.le_refl _) HBL.out _ _ _ _))
            | false =>
             have HW := hI (numFP_d HE.out HN1.out (by unfold fracB; rw [atF_at HC.out, hnc, bytq HC.out, atF_at HDA.out, hdd, decide_eq_true h46]; rfl) HO.out);rw [hdd] at HD;clear hnc hdd h46;rcases hor with rfl | ⟨rfl, q2⟩
             all_goals
              go_wp2_with (first
               | (go_at_call 58; refine (HI.out _).mono ?_; rintro e w' ⟨rfl, rfl⟩)
               | (go_at_call 33; refine (HA.out _).mono ?_; rintro e w' ⟨rfl, rfl⟩)
               | (go_at_call 36; refine (HD.out _).mono ?_; rintro e w' ⟨rfl, rfl⟩))
              all_goals first | (exfalso; omega) | (rw [HW.out]; exact rx_ret Tryz.results37 rfl rfl rfl rfl rfl rfl rfl rfl (put4 HBX.out _ _ _ _) (below_four (Nat.le_refl _) HBL.out _ _ _ _))
          · have q46 : ((c.toNat : Int) == 46) = false := bF.2 (fun h => h46 (by omega));have HW := hI (numFP_d HE.out HN1.out (by unfold fracB; rw [atF_at HC.out, hnc, bytq HC.out, decide_eq_false h46]; rfl) HO.out);clear hnc h46;rcases hor with rfl | ⟨rfl, q2⟩
            all_goals
             go_wp2_with (first
              | (go_at_call 58; refine (HI.out _).mono ?_; rintro e w' ⟨rfl, rfl⟩)
              | (go_at_call 33; refine (HA.out _).mono ?_; rintro e w' ⟨rfl, rfl⟩))
             all_goals first | (exfalso; omega) | (rw [HW.out]; exact rx_ret Tryz.results37 rfl rfl rfl rfl rfl rfl rfl rfl (put4 HBX.out _ _ _ _) (below_four (Nat.le_refl _) HBL.out _ _ _ _))
        · have HW := hI (numFP_d HE.out HN1.out (by unfold fracB; rw [atF_at HC.out, hnc, atF_end (show s.data.toList.length ≤ t + 1 by rw [HL.out]; omega), Bool.and_false]; rfl) HO.out);have qn : ¬ ((t : Int) + 1 < (s.size : Int)) := by omega
          clear hnc;rcases hor with rfl | ⟨rfl, q2⟩
          all_goals
           go_wp2_with (first
            | (go_at_call 58; refine (HI.out _).mono ?_; rintro e w' ⟨rfl, rfl⟩)
            | (go_at_call 33; refine (HA.out _).mono ?_; rintro e w' ⟨rfl, rfl⟩))
           all_goals first | (exfalso; omega) | (rw [HW.out]; exact rx_ret Tryz.results37 rfl rfl rfl rfl rfl rfl rfl rfl (put4 HBX.out _ _ _ _) (below_four (Nat.le_refl _) HBL.out _ _ _ _))
     · have HW := hI (numFP_d HE.out HN1.out (by unfold fracB; rw [atF_end (show s.data.toList.length ≤ t by rw [HL.out]; omega), atF_end (show s.data.toList.length ≤ t + 1 by rw [HL.out]; omega), Bool.and_false]; rfl) HO.out);rcases hor with rfl | ⟨rfl, q2⟩
       all_goals
        go_wp2_with (first
         | (go_at_call 58; refine (HI.out _).mono ?_; rintro e w' ⟨rfl, rfl⟩))
        all_goals first | (exfalso; omega) | (rw [HW.out]; exact rx_ret Tryz.results37 rfl rfl rfl rfl rfl rfl rfl rfl (put4 HBX.out _ _ _ _) (below_four (Nat.le_refl _) HBL.out _ _ _ _))
end Go.Proofs.YtoleoimmpggldaaGreatDoor
namespace Go.Proofs.YtoleoimmpggldaaGreatDoor
open Go.RowKit
theorem rx_open {x : Fx} {w : World} {f : FuncId} {args : Array Value} {P Q : Nat} (hP : (if x.e = 0 then x.p else 0) = P) (hQ : (if x.e = 0 then 0 else x.p) = Q) (h : Calls Tryz.prog f args w (RxPost x w)) : Calls Tryz.prog f args w fun e w' => e = .returned (.tuple #[.agg #[ι x.t.k, ι x.t.o, .string x.t.s, ι x.t.i], ι P, ι Q, ι x.e]) ∧ Below w.heap.size w w' := by
 subst hP hQ;exact h
theorem kind_word (l : List UInt8) (a : Nat) : kindK l 1 a = wordK l a := by
 unfold kindK wordK
 simp
theorem kind_same {l : List UInt8} {k f : Nat} (h : k ≠ 1) : kindK l k f = k := by
 unfold kindK;rw [if_neg (fun g => h g.1)]
theorem wordE_in {l : List UInt8} {k : Nat} (h : atF nameB l k = true) : k < wordE l k := by
 unfold wordE;rw [if_pos h];exact (name_step h).2
theorem wordE_out {l : List UInt8} {k : Nat} (h : atF nameB l k = false) : wordE l k = k := by
 unfold wordE;rw [if_neg (by rw [h]; exact Bool.false_ne_true)]
theorem rsigns_any (w : World) : Calls Tryz.prog 39 #[] w fun e w' => e = .returned (.slice (some ⟨w.heap.size, 0, none⟩) 32 32) ∧ w' = w.alloc (.cells sgV 9) := by
 have e : sgV = #[.string ⟨#[124, 61]⟩, .string ⟨#[43, 61]⟩, .string ⟨#[45, 61]⟩, .string ⟨#[42, 61]⟩, .string ⟨#[47, 61]⟩, .string ⟨#[37, 61]⟩, .string ⟨#[47, 47]⟩, .string ⟨#[61, 61]⟩, .string ⟨#[33, 61]⟩, .string ⟨#[60, 61]⟩, .string ⟨#[62, 61]⟩, .string ⟨#[46, 46]⟩, .string ⟨#[46]⟩, .string ⟨#[124]⟩, .string ⟨#[44]⟩, .string ⟨#[59]⟩, .string ⟨#[58]⟩, .string ⟨#[40]⟩, .string ⟨#[41]⟩, .string ⟨#[91]⟩, .string ⟨#[93]⟩, .string ⟨#[123]⟩, .string ⟨#[125]⟩, .string ⟨#[43]⟩, .string ⟨#[45]⟩, .string ⟨#[42]⟩, .string ⟨#[47]⟩, .string ⟨#[37]⟩, .string ⟨#[60]⟩, .string ⟨#[62]⟩, .string ⟨#[61]⟩, .string ⟨#[63]⟩] := by rfl
 rw [e]
 go_enter Tryz.func39, Tryz.ntmps39
 go_wp2_with fail
 go_ret
 exact ⟨rfl, rfl⟩
