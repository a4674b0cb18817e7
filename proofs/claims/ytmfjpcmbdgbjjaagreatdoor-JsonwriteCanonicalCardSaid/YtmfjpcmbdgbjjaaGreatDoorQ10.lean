/- The contract of the program's Next, and the sanity check of the statements. -/
import Derived.Test.YtmfjpcmbdgbjjaaGreatDoorQ08
import Derived.Test.YtmfjpcmbdgbjjaaGreatDoorQ09
set_option linter.unusedVariables false
set_option linter.unusedSimpArgs false
namespace Go.Proofs.YtmfjpcmbdgbjjaaGreatDoor
open Go.RowKit
theorem lex_as {f : FuncId} {args : Array Value} {w : World} {x y : Lx} (h : Calls Tryz.prog f args w (LexPost x w)) (hx : y = x) : Calls Tryz.prog f args w (LexPost y w) := by
  subst hx; exact h
theorem getd_at {l : List UInt8} {k : Nat} {b : UInt8} (h : l[k]? = some b) : l[k]?.getD 0 = b := by rw [h]; rfl
theorem lexN_end {l : List UInt8} {k : Nat} (h : k = l.length) : lexN l k = okX 0 k k 0 0 ⟨#[]⟩ := by unfold lexN; rw [if_pos h]
theorem lexN_at {l : List UInt8} {k : Nat} {b : UInt8} (h : l[k]? = some b) : lexN l k = if signB b = true then okX 1 k (k + 1) b.toNat 0 ⟨#[]⟩ else if letB b = true then wordP l k else if b.toNat = 45 ∨ digB b = true then numP l k else if b.toNat = 34 then strP l k else noX k 4 := by
  have hk := (List.getElem?_eq_some_iff.1 h).1
  unfold lexN
  rw [if_neg (by omega), getd_at h, bytq h]
set_option maxHeartbeats 10000000 in
set_option maxRecDepth 100000 in
theorem next_any (s : ByteArray) (k : Int) (hs : s.size ≤ 1048576) (w : World) (hE : ErrIn w) : Calls Tryz.prog 55 #[.string s, .int .i64 k] w (LexPost (lexP s.data.toList k) w) := by
  have hl : s.data.toList.length = s.size := by simp
  have HL := Lib.hid hl
  have hsm : s.size ≤ maxLen := by unfold maxLen; omega
  have HSM := Lib.hid hsm
  have HERR := Lib.hid hE
  clear hl hE hsm
  obtain ⟨W1, hW1⟩ : ∃ X, X = w.alloc (.cells #[.int .i64 0, .int .i64 0, .int .i64 0, .int .u8 0, .int .i64 0, .string ⟨#[]⟩] 44) := ⟨_, rfl⟩
  have HBX : Hid (Box W1 w.heap.size 44 #[.int .i64 0, .int .i64 0, .int .i64 0, .int .u8 0, .int .i64 0, .string ⟨#[]⟩]) := Lib.hid (by rw [hW1]; exact Box.laid w _ _)
  have HBL : Hid (Below w.heap.size w W1) := Lib.hid (by rw [hW1]; exact (Below.refl _ _).alloc (Nat.le_refl _) _)
  have HW1 := Lib.hid hW1
  clear hW1
  by_cases hout : k < 0 ∨ (s.size : Int) < k
  · have HW : Hid (lexP s.data.toList k = noX 0 3) := Lib.hid (by unfold lexP; rw [HL.out, if_pos hout])
    rw [HW.out]
    rcases hout with h | h
    all_goals
      go_enter Tryz.func55, Tryz.ntmps55
      go_upto_region 1 with fail
      rw [← HW1.out]
      go_wp2_with (go_at_call 74; refine (fail_any _ _ _).mono ?_; rintro e w' ⟨rfl, hb'⟩; have bx := HBX.out.below hb' HBX.out.lt; obtain ⟨t0, t1, t2, t3, t4, t5⟩ := box6 bx; obtain ⟨f0, f1, f2, f3, f4, f5⟩ := free6 bx)
      exact lex_ret Tryz.results55 rfl rfl rfl rfl (put6 bx _ _ _ _ _ _) (below_six (Nat.le_refl _) (HBL.out.trans (hb'.mono HBL.out.size)) _ _ _ _ _ _)
  · obtain ⟨n, rfl⟩ : ∃ n : Nat, k = (n : Int) := ⟨k.toNat, by omega⟩
    have hn : n ≤ s.size := by omega
    obtain ⟨f, hf⟩ : ∃ f, span blankB s.data.toList n = f := ⟨_, rfl⟩
    have hfs : f ≤ s.size := by
      have h := span_le (p := blankB) (l := s.data.toList) (k := n) (by rw [HL.out]; exact hn)
      rw [HL.out, hf] at h
      exact h
    have HW0 : Hid (lexP s.data.toList (n : Int) = lexN s.data.toList f) := Lib.hid (by
      unfold lexP
      rw [HL.out, if_neg hout, Int.toNat_natCast, hf])
    have hsk := fun W => skip_any s n HSM.out hn W
    rw [hf] at hsk
    have HSK := Lib.hid hsk
    clear hout hsk hf
    have hq1 : decide ((n : Int) < 0) = false := by simp
    have hq2 : decide ((s.size : Int) < (n : Int)) = false := by simp; omega
    have hq3 : decide (s.size < n) = false := by simp; omega
    rw [HW0.out]
    by_cases hend : f = s.size
    · have HW : Hid (lexN s.data.toList f = okX 0 f f 0 0 ⟨#[]⟩) := Lib.hid (lexN_end (by rw [HL.out]; exact hend))
      rw [HW.out]
      have hqe : ((f : Int) == (s.size : Int)) = true := by rw [beq_iff_eq]; omega
      clear hend
      go_enter Tryz.func55, Tryz.ntmps55
      go_upto_region 1 with fail
      rw [← HW1.out]
      go_wp2_with (first
        | (go_at_call 75; refine (HSK.out _).mono ?_; rintro e w' ⟨rfl, rfl⟩)
        | (go_at_call 76; refine (found_any _ _ _ _ _ _ _).mono ?_; rintro e w' ⟨rfl, hb'⟩; have bx := HBX.out.below hb' HBX.out.lt; obtain ⟨t0, t1, t2, t3, t4, t5⟩ := box6 bx; obtain ⟨f0, f1, f2, f3, f4, f5⟩ := free6 bx))
      exact lex_ret Tryz.results55 rfl rfl rfl rfl (put6 bx _ _ _ _ _ _) (below_six (Nat.le_refl _) (HBL.out.trans (hb'.mono HBL.out.size)) _ _ _ _ _ _)
    · have hqe : ((f : Int) == (s.size : Int)) = false := beq_eq_false_iff_ne.2 (fun h => hend (by omega))
      have hflt : f < s.size := by omega
      obtain ⟨b, hb⟩ : ∃ b, s[f] = b := ⟨_, rfl⟩
      have HB := Lib.hid (at_list hflt hb)
      have HAT := Lib.hid (lexN_at HB.out)
      clear hend
      have HSG := Lib.hid (fun W => sign_any b W)
      have HLT := Lib.hid (fun W => letter_any b W)
      have HDG := Lib.hid (fun W => digit_any b W)
      cases c1 : signB b with
      | true =>
        rw [c1] at HSG HAT
        rw [HAT.out, if_pos rfl]
        clear c1
        go_enter Tryz.func55, Tryz.ntmps55
        go_upto_region 1 with fail
        rw [← HW1.out]
        go_wp2_with (first
          | (go_at_call 75; refine (HSK.out _).mono ?_; rintro e w' ⟨rfl, rfl⟩)
          | (go_at_call 77; refine (HSG.out _).mono ?_; rintro e w' ⟨rfl, rfl⟩)
          | (go_at_call 76; refine (found_any _ _ _ _ _ _ _).mono ?_; rintro e w' ⟨rfl, hb'⟩; have bx := HBX.out.below hb' HBX.out.lt; obtain ⟨t0, t1, t2, t3, t4, t5⟩ := box6 bx; obtain ⟨f0, f1, f2, f3, f4, f5⟩ := free6 bx))
        exact lex_ret Tryz.results55 rfl rfl rfl rfl (put6 bx _ _ _ _ _ _) (below_six (Nat.le_refl _) (HBL.out.trans (hb'.mono HBL.out.size)) _ _ _ _ _ _)
      | false =>
        rw [c1] at HSG HAT
        clear c1
        cases c2 : letB b with
        | true =>
          rw [c2] at HLT HAT
          have HX := Lib.hid (lex_as (word_any s f HSM.out hflt W1) (x := wordP s.data.toList f) (y := lexN s.data.toList f) (by rw [HAT.out, if_neg Bool.false_ne_true, if_pos rfl]))
          generalize lexN s.data.toList f = x at HX ⊢
          clear c2
          go_enter Tryz.func55, Tryz.ntmps55
          go_upto_region 1 with fail
          rw [← HW1.out]
          go_wp2_with (first
            | (go_at_call 75; refine (HSK.out _).mono ?_; rintro e w' ⟨rfl, rfl⟩)
            | (go_at_call 77; refine (HSG.out _).mono ?_; rintro e w' ⟨rfl, rfl⟩)
            | (go_at_call 78; refine (HLT.out _).mono ?_; rintro e w' ⟨rfl, rfl⟩)
            | (go_at_call 79; refine (lex_open HX.out).mono ?_; rintro e w' ⟨rfl, hb'⟩; have bx := HBX.out.below hb' HBX.out.lt; obtain ⟨t0, t1, t2, t3, t4, t5⟩ := box6 bx; obtain ⟨f0, f1, f2, f3, f4, f5⟩ := free6 bx))
          exact lex_ret Tryz.results55 rfl rfl rfl rfl (put6 bx _ _ _ _ _ _) (below_six (Nat.le_refl _) (HBL.out.trans (hb'.mono HBL.out.size)) _ _ _ _ _ _)
        | false =>
          rw [c2] at HLT HAT
          clear c2
          by_cases c3 : b.toNat = 45 ∨ digB b = true
          · have HX := Lib.hid (lex_as (number_any s f hs hflt W1 (HERR.out.next HBL.out)) (x := numP s.data.toList f) (y := lexN s.data.toList f) (by rw [HAT.out, if_neg Bool.false_ne_true, if_neg Bool.false_ne_true, if_pos c3]))
            generalize lexN s.data.toList f = x at HX ⊢
            by_cases c4 : b.toNat = 45
            · have q1 : ((b.toNat : Int) == 45) = true := by rw [beq_iff_eq]; omega
              clear c3 c4
              go_enter Tryz.func55, Tryz.ntmps55
              go_upto_region 1 with fail
              rw [← HW1.out]
              go_wp2_with (first
                | (go_at_call 75; refine (HSK.out _).mono ?_; rintro e w' ⟨rfl, rfl⟩)
                | (go_at_call 77; refine (HSG.out _).mono ?_; rintro e w' ⟨rfl, rfl⟩)
                | (go_at_call 78; refine (HLT.out _).mono ?_; rintro e w' ⟨rfl, rfl⟩)
                | (go_at_call 81; refine (lex_open HX.out).mono ?_; rintro e w' ⟨rfl, hb'⟩; have bx := HBX.out.below hb' HBX.out.lt; obtain ⟨t0, t1, t2, t3, t4, t5⟩ := box6 bx; obtain ⟨f0, f1, f2, f3, f4, f5⟩ := free6 bx))
              exact lex_ret Tryz.results55 rfl rfl rfl rfl (put6 bx _ _ _ _ _ _) (below_six (Nat.le_refl _) (HBL.out.trans (hb'.mono HBL.out.size)) _ _ _ _ _ _)
            · have q1 : ((b.toNat : Int) == 45) = false := beq_eq_false_iff_ne.2 (fun h => c4 (by omega))
              have c5 : digB b = true := c3.resolve_left c4
              rw [c5] at HDG
              clear c3 c4 c5
              go_enter Tryz.func55, Tryz.ntmps55
              go_upto_region 1 with fail
              rw [← HW1.out]
              go_wp2_with (first
                | (go_at_call 75; refine (HSK.out _).mono ?_; rintro e w' ⟨rfl, rfl⟩)
                | (go_at_call 77; refine (HSG.out _).mono ?_; rintro e w' ⟨rfl, rfl⟩)
                | (go_at_call 78; refine (HLT.out _).mono ?_; rintro e w' ⟨rfl, rfl⟩)
                | (go_at_call 80; refine (HDG.out _).mono ?_; rintro e w' ⟨rfl, rfl⟩)
                | (go_at_call 81; refine (lex_open HX.out).mono ?_; rintro e w' ⟨rfl, hb'⟩; have bx := HBX.out.below hb' HBX.out.lt; obtain ⟨t0, t1, t2, t3, t4, t5⟩ := box6 bx; obtain ⟨f0, f1, f2, f3, f4, f5⟩ := free6 bx))
              exact lex_ret Tryz.results55 rfl rfl rfl rfl (put6 bx _ _ _ _ _ _) (below_six (Nat.le_refl _) (HBL.out.trans (hb'.mono HBL.out.size)) _ _ _ _ _ _)
          · have q1 : ((b.toNat : Int) == 45) = false := beq_eq_false_iff_ne.2 (fun h => c3 (.inl (by omega)))
            have c5 : digB b = false := by cases h : digB b with | false => rfl | true => exact absurd (.inr h) c3
            have HAT2 := Lib.hid (by have h := HAT.out; rw [if_neg Bool.false_ne_true, if_neg Bool.false_ne_true, if_neg c3] at h; exact h)
            rw [c5] at HDG
            clear c3 c5
            by_cases c6 : b.toNat = 34
            · have HX := Lib.hid (lex_as (string_any s f hs hflt W1) (x := strP s.data.toList f) (y := lexN s.data.toList f) (by rw [HAT2.out, if_pos c6]))
              generalize lexN s.data.toList f = x at HX ⊢
              have q2 : ((b.toNat : Int) == 34) = true := by rw [beq_iff_eq]; omega
              clear c6
              go_enter Tryz.func55, Tryz.ntmps55
              go_upto_region 1 with fail
              rw [← HW1.out]
              go_wp2_with (first
                | (go_at_call 75; refine (HSK.out _).mono ?_; rintro e w' ⟨rfl, rfl⟩)
                | (go_at_call 77; refine (HSG.out _).mono ?_; rintro e w' ⟨rfl, rfl⟩)
                | (go_at_call 78; refine (HLT.out _).mono ?_; rintro e w' ⟨rfl, rfl⟩)
                | (go_at_call 80; refine (HDG.out _).mono ?_; rintro e w' ⟨rfl, rfl⟩)
                | (go_at_call 82; refine (lex_open HX.out).mono ?_; rintro e w' ⟨rfl, hb'⟩; have bx := HBX.out.below hb' HBX.out.lt; obtain ⟨t0, t1, t2, t3, t4, t5⟩ := box6 bx; obtain ⟨f0, f1, f2, f3, f4, f5⟩ := free6 bx))
              exact lex_ret Tryz.results55 rfl rfl rfl rfl (put6 bx _ _ _ _ _ _) (below_six (Nat.le_refl _) (HBL.out.trans (hb'.mono HBL.out.size)) _ _ _ _ _ _)
            · rw [HAT2.out, if_neg c6]
              have q2 : ((b.toNat : Int) == 34) = false := beq_eq_false_iff_ne.2 (fun h => c6 (by omega))
              clear c6
              go_enter Tryz.func55, Tryz.ntmps55
              go_upto_region 1 with fail
              rw [← HW1.out]
              go_wp2_with (first
                | (go_at_call 75; refine (HSK.out _).mono ?_; rintro e w' ⟨rfl, rfl⟩)
                | (go_at_call 77; refine (HSG.out _).mono ?_; rintro e w' ⟨rfl, rfl⟩)
                | (go_at_call 78; refine (HLT.out _).mono ?_; rintro e w' ⟨rfl, rfl⟩)
                | (go_at_call 80; refine (HDG.out _).mono ?_; rintro e w' ⟨rfl, rfl⟩)
                | (go_at_call 74; refine (fail_any _ _ _).mono ?_; rintro e w' ⟨rfl, hb'⟩; have bx := HBX.out.below hb' HBX.out.lt; obtain ⟨t0, t1, t2, t3, t4, t5⟩ := box6 bx; obtain ⟨f0, f1, f2, f3, f4, f5⟩ := free6 bx))
              exact lex_ret Tryz.results55 rfl rfl rfl rfl (put6 bx _ _ _ _ _ _) (below_six (Nat.le_refl _) (HBL.out.trans (hb'.mono HBL.out.size)) _ _ _ _ _ _)
end Go.Proofs.YtmfjpcmbdgbjjaaGreatDoor
