/- The contract of the reference's Next. -/
import Derived.Test.YtgclmnlnbjjgkaaGreatDoorRnT
import Derived.Test.YtgclmnlnbjjgkaaGreatDoorRnN
import Derived.Test.YtgclmnlnbjjgkaaGreatDoorJlN
set_option linter.unusedVariables false
set_option linter.unusedSimpArgs false
namespace Go.Proofs.YtgclmnlnbjjgkaaGreatDoor
open Go.RowKit
theorem atB_at {p : UInt8 → Bool} {l : List UInt8} {j : Nat} {b : UInt8} (h : l[j]? = some b) : atB p l j = p b := by unfold atB; rw [h]
set_option maxHeartbeats 10000000 in
set_option maxRecDepth 100000 in
theorem rnext_any (s : ByteArray) (k : Int) (hs : s.size ≤ 1048576) (w : World) : Calls Tryz.prog 35 #[.string s, .int .i64 k] w (LexPost (lexP s.data.toList k) w) := by
  have hl : s.data.toList.length = s.size := by simp
  have HL := Lib.hid hl
  have hsm : s.size ≤ maxLen := by unfold maxLen; omega
  have HSM := Lib.hid hsm
  clear hl hsm
  obtain ⟨W1, hW1⟩ : ∃ X, X = w.alloc (.cells #[.int .i64 0, .int .i64 0, .int .i64 0, .int .u8 0, .int .i64 0, .string ⟨#[]⟩] 47) := ⟨_, rfl⟩
  have HBX : Hid (Box W1 w.heap.size 47 #[.int .i64 0, .int .i64 0, .int .i64 0, .int .u8 0, .int .i64 0, .string ⟨#[]⟩]) := Lib.hid (by rw [hW1]; exact Box.laid w _ _)
  have HBL : Hid (Below w.heap.size w W1) := Lib.hid (by rw [hW1]; exact (Below.refl _ _).alloc (Nat.le_refl _) _)
  have HW1 := Lib.hid hW1
  clear hW1
  by_cases hout : k < 0 ∨ (s.size : Int) < k
  · have HW : Hid (lexP s.data.toList k = noX 0 3) := Lib.hid (by unfold lexP; rw [HL.out, if_pos hout])
    rw [HW.out]
    obtain ⟨t0, t1, t2, t3, t4, t5⟩ := box6 HBX.out
    obtain ⟨f0, f1, f2, f3, f4, f5⟩ := free6 HBX.out
    rcases hout with h | h
    all_goals
      go_enter Tryz.func35, Tryz.ntmps35
      go_upto_region 1 with fail
      rw [← HW1.out]
      go_wp2_with fail
      exact lex_ret Tryz.results35 rfl rfl rfl rfl (put6 HBX.out _ _ _ _ _ _) (below_six (Nat.le_refl _) HBL.out _ _ _ _ _ _)
  · obtain ⟨n, rfl⟩ : ∃ n : Nat, k = (n : Int) := ⟨k.toNat, by omega⟩
    have hn : n ≤ s.size := by omega
    obtain ⟨f, hf⟩ : ∃ f, span blankB s.data.toList n = f := ⟨_, rfl⟩
    have hfs : f ≤ s.size := by
      have h := span_le (p := blankB) (l := s.data.toList) (k := n) (by rw [HL.out]; exact hn)
      rw [HL.out, hf] at h
      exact h
    have HW0 : Hid (lexP s.data.toList (n : Int) = lexN s.data.toList f) := Lib.hid (by
      unfold lexP
      rw [HL.out, if_neg hout, Int.toNat_natCast, hf])
    have hsk := fun W => rskip_any s n HSM.out hn W
    rw [hf] at hsk
    have HSK := Lib.hid hsk
    clear hout hsk hf
    have hq1 : decide ((n : Int) < 0) = false := by simp
    have hq2 : decide ((s.size : Int) < (n : Int)) = false := by simp; omega
    have hq3 : decide (s.size < n) = false := by simp; omega
    rw [HW0.out]
    by_cases hend : f = s.size
    · have HW : Hid (lexN s.data.toList f = okX 0 f f 0 0 ⟨#[]⟩) := Lib.hid (lexN_end (by rw [HL.out]; exact hend))
      rw [HW.out]
      have hqe : ((f : Int) == (s.size : Int)) = true := by rw [beq_iff_eq]; omega
      clear hend
      obtain ⟨t0, t1, t2, t3, t4, t5⟩ := box6 HBX.out
      obtain ⟨f0, f1, f2, f3, f4, f5⟩ := free6 HBX.out
      go_enter Tryz.func35, Tryz.ntmps35
      go_upto_region 1 with fail
      rw [← HW1.out]
      go_wp2_with (go_at_call 30; refine (HSK.out _).mono ?_; rintro e w' ⟨rfl, rfl⟩)
      exact lex_ret Tryz.results35 rfl rfl rfl rfl (put6 HBX.out _ _ _ _ _ _) (below_six (Nat.le_refl _) HBL.out _ _ _ _ _ _)
    · have hqe : ((f : Int) == (s.size : Int)) = false := beq_eq_false_iff_ne.2 (fun h => hend (by omega))
      have hflt : f < s.size := by omega
      obtain ⟨b, hb⟩ : ∃ b, s[f] = b := ⟨_, rfl⟩
      have HB := Lib.hid (at_list hflt hb)
      have HAT := Lib.hid (lexN_at HB.out)
      have hb255 := UInt8.toNat_lt b
      clear hend
      have hlt0 := fun W => rletter_any s f HSM.out W
      rw [atB_at HB.out] at hlt0
      have hdg0 := fun W => rdigit_any s f HSM.out W
      rw [atB_at HB.out] at hdg0
      have HLT := Lib.hid hlt0
      have HDG := Lib.hid hdg0
      clear hlt0 hdg0
      obtain ⟨sb, hsb⟩ : ∃ sb, sb = signB b := ⟨_, rfl⟩
      have HSB := Lib.hid hsb
      rw [← hsb] at HAT
      clear hsb
      go_enter Tryz.func35, Tryz.ntmps35
      go_upto_region 1 with fail
      rw [← HW1.out]
      go_upto_region 7 with (go_at_call 30; refine (HSK.out _).mono ?_; rintro e w' ⟨rfl, rfl⟩)
      go_cut [31] (fun t31 wx => wx = W1 ∧ t31 = .bool sb)
      case first => as_aux_lemma =>
        by_cases d0 : b.toNat = 91
        · have m0 : ((b.toNat : Int) == 91) = true := by rw [beq_iff_eq]; omega
          have hz := HSB.out
          have hsb : signB b = true := by unfold signB; rw [decide_eq_true_iff]; omega
          rw [hsb] at hz
          have HZ := Lib.hid hz
          clear hz hsb d0
          go_wp2_with fail
          go_meet
          exact ⟨rfl, by rw [HZ.out]⟩
        · have m0 : ((b.toNat : Int) == 91) = false := beq_eq_false_iff_ne.2 (fun h => d0 (by omega))
          by_cases d1 : b.toNat = 93
          · have m1 : ((b.toNat : Int) == 93) = true := by rw [beq_iff_eq]; omega
            have hz := HSB.out
            have hsb : signB b = true := by unfold signB; rw [decide_eq_true_iff]; omega
            rw [hsb] at hz
            have HZ := Lib.hid hz
            clear hz hsb d0 d1
            go_wp2_with fail
            go_meet
            exact ⟨rfl, by rw [HZ.out]⟩
          · have m1 : ((b.toNat : Int) == 93) = false := beq_eq_false_iff_ne.2 (fun h => d1 (by omega))
            by_cases d2 : b.toNat = 123
            · have m2 : ((b.toNat : Int) == 123) = true := by rw [beq_iff_eq]; omega
              have hz := HSB.out
              have hsb : signB b = true := by unfold signB; rw [decide_eq_true_iff]; omega
              rw [hsb] at hz
              have HZ := Lib.hid hz
              clear hz hsb d0 d1 d2
              go_wp2_with fail
              go_meet
              exact ⟨rfl, by rw [HZ.out]⟩
            · have m2 : ((b.toNat : Int) == 123) = false := beq_eq_false_iff_ne.2 (fun h => d2 (by omega))
              by_cases d3 : b.toNat = 125
              · have m3 : ((b.toNat : Int) == 125) = true := by rw [beq_iff_eq]; omega
                have hz := HSB.out
                have hsb : signB b = true := by unfold signB; rw [decide_eq_true_iff]; omega
                rw [hsb] at hz
                have HZ := Lib.hid hz
                clear hz hsb d0 d1 d2 d3
                go_wp2_with fail
                go_meet
                exact ⟨rfl, by rw [HZ.out]⟩
              · have m3 : ((b.toNat : Int) == 125) = false := beq_eq_false_iff_ne.2 (fun h => d3 (by omega))
                by_cases d4 : b.toNat = 44
                · have m4 : ((b.toNat : Int) == 44) = true := by rw [beq_iff_eq]; omega
                  have hz := HSB.out
                  have hsb : signB b = true := by unfold signB; rw [decide_eq_true_iff]; omega
                  rw [hsb] at hz
                  have HZ := Lib.hid hz
                  clear hz hsb d0 d1 d2 d3 d4
                  go_wp2_with fail
                  go_meet
                  exact ⟨rfl, by rw [HZ.out]⟩
                · have m4 : ((b.toNat : Int) == 44) = false := beq_eq_false_iff_ne.2 (fun h => d4 (by omega))
                  by_cases d5 : b.toNat = 58
                  · have m5 : ((b.toNat : Int) == 58) = true := by rw [beq_iff_eq]; omega
                    have hz := HSB.out
                    have hsb : signB b = true := by unfold signB; rw [decide_eq_true_iff]; omega
                    rw [hsb] at hz
                    have HZ := Lib.hid hz
                    clear hz hsb d0 d1 d2 d3 d4 d5
                    go_wp2_with fail
                    go_meet
                    exact ⟨rfl, by rw [HZ.out]⟩
                  · have m5 : ((b.toNat : Int) == 58) = false := beq_eq_false_iff_ne.2 (fun h => d5 (by omega))
                    have hz := HSB.out
                    have hsb : signB b = false := by unfold signB; rw [decide_eq_false_iff_not]; omega
                    rw [hsb] at hz
                    have HZ := Lib.hid hz
                    clear hz hsb d0 d1 d2 d3 d4 d5
                    go_wp2_with fail
                    go_meet
                    exact ⟨rfl, by rw [HZ.out]⟩
      case rest =>
        obtain ⟨hweq, rfl⟩ := hcut
        have hweq := hweq.symm
        subst hweq
        cases sb with
        | true => as_aux_lemma =>
          have HW := Lib.hid (HAT.out.trans (if_pos rfl))
          obtain ⟨t0, t1, t2, t3, t4, t5⟩ := box6 HBX.out
          obtain ⟨f0, f1, f2, f3, f4, f5⟩ := free6 HBX.out
          go_wp2_with fail
          rw [HW.out]
          exact lex_ret Tryz.results35 rfl rfl rfl rfl (put6 HBX.out _ _ _ _ _ _) (below_six (Nat.le_refl _) HBL.out _ _ _ _ _ _)
        | false =>
          cases c2 : letB b with
          | true => as_aux_lemma =>
            rw [c2] at HLT HAT
            have HX := Lib.hid (lex_as (rword_any s f HSM.out hflt W1) (x := wordP s.data.toList f) (y := lexN s.data.toList f) (by rw [HAT.out, if_neg Bool.false_ne_true, if_pos rfl]))
            obtain ⟨x, hx⟩ : ∃ x, lexN s.data.toList f = x := ⟨_, rfl⟩
            rw [hx] at HX
            have HXE := Lib.hid hx
            clear hx
            clear c2
            go_wp2_with (first
              | (go_at_call 48; refine (HLT.out _).mono ?_; rintro e w' ⟨rfl, rfl⟩)
              | (go_at_call 49; refine (lex_open HX.out).mono ?_; rintro e w' ⟨rfl, hb'⟩; have bx := HBX.out.below hb' HBX.out.lt; obtain ⟨t0, t1, t2, t3, t4, t5⟩ := box6 bx; obtain ⟨f0, f1, f2, f3, f4, f5⟩ := free6 bx))
            rw [HXE.out]
            exact lex_ret Tryz.results35 rfl rfl rfl rfl (put6 bx _ _ _ _ _ _) (below_six (Nat.le_refl _) (HBL.out.trans (hb'.mono HBL.out.size)) _ _ _ _ _ _)
          | false =>
            rw [c2] at HLT HAT
            clear c2
            by_cases c3 : b.toNat = 45 ∨ digB b = true
            · have HX := Lib.hid (lex_as (rnumber_any s f hs hflt W1) (x := numP s.data.toList f) (y := lexN s.data.toList f) (by rw [HAT.out, if_neg Bool.false_ne_true, if_neg Bool.false_ne_true, if_pos c3]))
              obtain ⟨x, hx⟩ : ∃ x, lexN s.data.toList f = x := ⟨_, rfl⟩
              rw [hx] at HX
              have HXE := Lib.hid hx
              clear hx
              by_cases c4 : b.toNat = 45
              · have q1 : ((b.toNat : Int) == 45) = true := by rw [beq_iff_eq]; omega
                clear c3 c4
                go_wp2_with (first
                  | (go_at_call 48; refine (HLT.out _).mono ?_; rintro e w' ⟨rfl, rfl⟩)
                  | (go_at_call 51; refine (lex_open HX.out).mono ?_; rintro e w' ⟨rfl, hb'⟩; have bx := HBX.out.below hb' HBX.out.lt; obtain ⟨t0, t1, t2, t3, t4, t5⟩ := box6 bx; obtain ⟨f0, f1, f2, f3, f4, f5⟩ := free6 bx))
                rw [HXE.out]
                exact lex_ret Tryz.results35 rfl rfl rfl rfl (put6 bx _ _ _ _ _ _) (below_six (Nat.le_refl _) (HBL.out.trans (hb'.mono HBL.out.size)) _ _ _ _ _ _)
              · have q1 : ((b.toNat : Int) == 45) = false := beq_eq_false_iff_ne.2 (fun h => c4 (by omega))
                have c5 : digB b = true := c3.resolve_left c4
                rw [c5] at HDG
                clear c3 c4 c5
                go_wp2_with (first
                  | (go_at_call 48; refine (HLT.out _).mono ?_; rintro e w' ⟨rfl, rfl⟩)
                  | (go_at_call 50; refine (HDG.out _).mono ?_; rintro e w' ⟨rfl, rfl⟩)
                  | (go_at_call 51; refine (lex_open HX.out).mono ?_; rintro e w' ⟨rfl, hb'⟩; have bx := HBX.out.below hb' HBX.out.lt; obtain ⟨t0, t1, t2, t3, t4, t5⟩ := box6 bx; obtain ⟨f0, f1, f2, f3, f4, f5⟩ := free6 bx))
                rw [HXE.out]
                exact lex_ret Tryz.results35 rfl rfl rfl rfl (put6 bx _ _ _ _ _ _) (below_six (Nat.le_refl _) (HBL.out.trans (hb'.mono HBL.out.size)) _ _ _ _ _ _)
            · have q1 : ((b.toNat : Int) == 45) = false := beq_eq_false_iff_ne.2 (fun h => c3 (.inl (by omega)))
              have c5 : digB b = false := by cases h : digB b with | false => rfl | true => exact absurd (.inr h) c3
              have HAT2 := Lib.hid (by have h := HAT.out; rw [if_neg Bool.false_ne_true, if_neg Bool.false_ne_true, if_neg c3] at h; exact h)
              rw [c5] at HDG
              clear c3 c5
              by_cases c6 : b.toNat = 34
              · have HX := Lib.hid (lex_as (rtext_any s f hs hflt W1) (x := strP s.data.toList f) (y := lexN s.data.toList f) (by rw [HAT2.out, if_pos c6]))
                obtain ⟨x, hx⟩ : ∃ x, lexN s.data.toList f = x := ⟨_, rfl⟩
                rw [hx] at HX
                have HXE := Lib.hid hx
                clear hx
                have q2 : ((b.toNat : Int) == 34) = true := by rw [beq_iff_eq]; omega
                clear c6
                go_wp2_with (first
                  | (go_at_call 48; refine (HLT.out _).mono ?_; rintro e w' ⟨rfl, rfl⟩)
                  | (go_at_call 50; refine (HDG.out _).mono ?_; rintro e w' ⟨rfl, rfl⟩)
                  | (go_at_call 52; refine (lex_open HX.out).mono ?_; rintro e w' ⟨rfl, hb'⟩; have bx := HBX.out.below hb' HBX.out.lt; obtain ⟨t0, t1, t2, t3, t4, t5⟩ := box6 bx; obtain ⟨f0, f1, f2, f3, f4, f5⟩ := free6 bx))
                rw [HXE.out]
                exact lex_ret Tryz.results35 rfl rfl rfl rfl (put6 bx _ _ _ _ _ _) (below_six (Nat.le_refl _) (HBL.out.trans (hb'.mono HBL.out.size)) _ _ _ _ _ _)
              · have HW := Lib.hid (HAT2.out.trans (if_neg c6))
                have q2 : ((b.toNat : Int) == 34) = false := beq_eq_false_iff_ne.2 (fun h => c6 (by omega))
                clear c6
                obtain ⟨t0, t1, t2, t3, t4, t5⟩ := box6 HBX.out
                obtain ⟨f0, f1, f2, f3, f4, f5⟩ := free6 HBX.out
                go_wp2_with (first
                  | (go_at_call 48; refine (HLT.out _).mono ?_; rintro e w' ⟨rfl, rfl⟩)
                  | (go_at_call 50; refine (HDG.out _).mono ?_; rintro e w' ⟨rfl, rfl⟩))
                rw [HW.out]
                exact lex_ret Tryz.results35 rfl rfl rfl rfl (put6 HBX.out _ _ _ _ _ _) (below_six (Nat.le_refl _) HBL.out _ _ _ _ _ _)
end Go.Proofs.YtgclmnlnbjjgkaaGreatDoor
