/- The contract of the reference's reading of strings. -/
import Derived.Test.YtgclmnlnbjjgkaaGreatDoorRnF
import Derived.Test.YtgclmnlnbjjgkaaGreatDoorJlS
set_option linter.unusedVariables false
set_option linter.unusedSimpArgs false
namespace Go.Proofs.YtgclmnlnbjjgkaaGreatDoor
open Go.RowKit
theorem resc_as {s : ByteArray} {k : Nat} {x : Esc} (hs : s.size ≤ 1048576) (hk : k + 1 ≤ s.size) (hx : escP (s.data.toList.drop (k + 1)) = x) (w : World) :
    Calls Tryz.prog 66 #[.string s, .int .i64 k] w fun e w' => e = .returned (rescV x) ∧ Below w.heap.size w w' := by
  rw [← hx]; exact resc_any s k hs hk w
theorem rdec_none_of {s : ByteArray} {k : Nat} (hs : s.size ≤ maxLen) (hd : dec (s.data.toList.drop k) = none) (w : World) : Calls Tryz.prog 68 #[.string s, .int .i64 k] w fun e w' => e = .returned (.tuple #[.int .i64 0, .int .i64 0, .bool false]) ∧ w = w' := by
  have h := rdec_any s k hs w
  rw [hd] at h; exact h
theorem rdec_some_of {s : ByteArray} {k r n : Nat} (hs : s.size ≤ maxLen) (hd : dec (s.data.toList.drop k) = some (r, n)) (w : World) : Calls Tryz.prog 68 #[.string s, .int .i64 k] w fun e w' => e = .returned (.tuple #[.int .i64 r, .int .i64 n, .bool true]) ∧ w = w' := by
  have h := rdec_any s k hs w
  rw [hd] at h; exact h
set_option maxHeartbeats 10000000 in
set_option maxRecDepth 100000 in
theorem rtext_any (s : ByteArray) (k : Nat) (hs : s.size ≤ 1048576) (hk : k < s.size) (w : World) : Calls Tryz.prog 52 #[.string s, .int .i64 k] w (LexPost (strP s.data.toList k) w) := by
  have hl : s.data.toList.length = s.size := by simp
  have HL := Lib.hid hl
  clear hl
  have hsm : s.size ≤ maxLen := by unfold maxLen; omega
  have HSM := Lib.hid hsm
  clear hsm
  obtain ⟨i0, hi, hz0, hz1, hz2⟩ := info_parts inf_u8
  obtain ⟨W1, hW1⟩ : ∃ X, X = w.alloc (.cells #[.int .i64 0, .int .i64 0, .int .i64 0, .int .u8 0, .int .i64 0, .string ⟨#[]⟩] 47) := ⟨_, rfl⟩
  have HBX : Hid (Box W1 w.heap.size 47 #[.int .i64 0, .int .i64 0, .int .i64 0, .int .u8 0, .int .i64 0, .string ⟨#[]⟩]) := Lib.hid (by rw [hW1]; exact Box.laid w _ _)
  have HBL : Hid (Below w.heap.size w W1) := Lib.hid (by rw [hW1]; exact (Below.refl _ _).alloc (Nat.le_refl _) _)
  have HW1 := Lib.hid hW1
  clear hW1
  have HST := Lib.hid (StrAt.start (l := s.data.toList) (k := k) (by rw [HL.out]; exact hk))
  go_enter Tryz.func52, Tryz.ntmps52
  go_upto_region 1 with fail
  rw [← HW1.out]
  go_wp2
  go_loopw [7, 8] (fun tv ti wr => ∃ (A : Option Addr) (c i : Nat) (out : List UInt8), i ≤ s.size ∧ tv = .slice A out.length c ∧ ti = .int .i64 i ∧ wr.ownsRow W1.heap.size 5 1 (.slice A out.length c) out.length (bv out) ∧ Below W1.heap.size W1 wr ∧ Hid (StrAt s.data.toList k i out)) (fun _ ti _ => s.size - (intOf ti).toNat)
  case atStart => exact ⟨none, 0, k + 1, [], by omega, rfl, by go_num, World.ownsRow_nil _ _ _ _, Below.refl _ _, HST⟩
  case round =>
    clear HST
    obtain ⟨A, c, i, out, hile, rfl, rfl, hown, hbel, HST⟩ := hrel
    have HO := Lib.hid hown
    have HBE := Lib.hid hbel
    have HSTEP := Lib.hid HST.out.step
    have hout : out.length ≤ 4194304 := by have h := HST.out.2.2.1; have h2 := HST.out.1; omega
    have HBR := Lib.hid (HBX.out.below hbel HBX.out.lt)
    have HBW := Lib.hid (chain HBL.out hbel)
    clear hown hbel
    obtain ⟨t0, t1, t2, t3, t4, t5⟩ := box6 HBR.out
    obtain ⟨f0, f1, f2, f3, f4, f5⟩ := free6 HBR.out
    by_cases hlt : i < s.size
    · obtain ⟨b, hb⟩ : ∃ b, s[i] = b := ⟨_, rfl⟩
      have HB := Lib.hid (at_list hlt hb)
      have hb255 := UInt8.toNat_lt b
      by_cases b34 : b.toNat = 34
      · have q1 : ((b.toNat : Int) == 34) = true := by rw [beq_iff_eq]; omega
        by_cases h4096 : out.length ≤ 4096
        · have HW : Hid (strP s.data.toList k = okX 4 k (i + 1) 0 0 ⟨out.toArray⟩) := Lib.hid (by
            have h := HSTEP.out
            rw [elP_34 HB.out b34] at h
            simp only [] at h
            rw [if_pos h4096] at h
            exact h)
          have hcv := conv_own HO.out
          have hli : ¬ (4096 : Int) < (out.length : Int) := by omega
          clear b34 h4096
          go_wp2_with fail
          rw [HW.out]
          exact lex_ret Tryz.results52 rfl rfl rfl rfl (put6 HBR.out _ _ _ _ _ _) (below_six (Nat.le_refl _) HBW.out _ _ _ _ _ _)
        · have HW : Hid (strP s.data.toList k = noX k 2) := Lib.hid (by
            have h := HSTEP.out
            rw [elP_34 HB.out b34] at h
            simp only [] at h
            rw [if_neg h4096] at h
            exact h)
          have hli : (4096 : Int) < (out.length : Int) := by omega
          clear b34 h4096
          go_wp2_with fail
          rw [HW.out]
          exact lex_ret Tryz.results52 rfl rfl rfl rfl (put6 HBR.out _ _ _ _ _ _) (below_six (Nat.le_refl _) HBW.out _ _ _ _ _ _)
      · have q1 : ((b.toNat : Int) == 34) = false := beq_eq_false_iff_ne.2 (fun h => b34 (by omega))
        by_cases b92 : b.toNat = 92
        · have q2 : ((b.toNat : Int) == 92) = true := by rw [beq_iff_eq]; omega
          have q3 : ¬ (b.toNat : Int) < 32 := by omega
          obtain ⟨x, hx⟩ : ∃ x, escP (s.data.toList.drop (i + 1)) = x := ⟨_, rfl⟩
          have HE := Lib.hid (fun W => resc_as hs (by omega : i + 1 ≤ s.size) hx W)
          have hel : elP (s.data.toList.drop i) = escEl x := by rw [elP_92 HB.out b92, hx]
          have HX := Lib.hid hx
          clear b34 b92 hx
          cases x with
          | ok r n =>
            have hel2 : elP (s.data.toList.drop i) = .add r n := hel
            obtain ⟨g1, g2, g3, g4⟩ := elP_add hel2
            have hn2 := (escP_ok HX.out).1
            rw [List.length_drop, HL.out] at g2
            have HNEXT := Lib.hid (HST.out.next hel2)
            have HEN := Lib.hid (fun W => renc_true (r : Int) g3 W)
            have HLB := Lib.hid (bv_length (enc r))
            simp only [Int.toNat_natCast] at HEN
            simp only [rescV] at HE
            have qn0 : ((n : Int) == 0) = false := beq_eq_false_iff_ne.2 (fun h => by omega)
            clear hel hel2 g3 HSTEP
            go_wp2_with (first
              | (go_at_call 66; refine (HE.out _).mono ?_; rintro e w5 ⟨rfl, hb5⟩; have HO5 := Lib.hid (own_belowJ HO.out hb5); have HBE5 := Lib.hid (chain HBE.out hb5))
              | (go_at_call 67; refine (HEN.out _).mono ?_; rintro e w' ⟨rfl, rfl⟩)
              | (at_builtin; refine wpList_append_own _ rfl (.tmp 100) (.tmp 101) 33 rfl W1.heap.size 5 i0 (.int .u8 0) 1 1 Tryz.underlying33 hi hz0 hz1 hz2 rfl (by decide) (.slice A out.length c) out.length (bv out) rfl (HO5.out.alloc _) ⟨w5.heap.size, 0, none⟩ (enc r).length (enc r).length (bv (enc r)) rfl (by rw [HLB.out]; omega) (new_cells w5 5 (bv (enc r))) (bv_one _) (by unfold maxLen; omega) (by omega) (by have := HBE5.out.size; simp; omega) ?_; intro v2 w2 hown2 hgrow2 _; rw [← bv_append] at hown2; obtain ⟨A2, c2, rfl, hl2, -⟩ := own_slice hown2))
            go_roundw
            case rel => exact ⟨A2, c2, i + n, out ++ enc r, by omega, by rw [List.length_append], by go_num, by first | exact hown2 | (rw [List.length_append]; exact hown2), ((HBE5.out.alloc HBE5.out.size _).grown hgrow2 (by have := HBE5.out.size; simp; omega) (fun j hj => (HO5.out.lt j hj).1)), HNEXT⟩
            case measure => simp [intOf]; omega
          | trunc =>
            have HW : Hid (strP s.data.toList k = noX s.size 5) := Lib.hid (by
              have h := HSTEP.out
              rw [hel] at h
              rw [HL.out] at h
              exact h)
            simp only [rescV] at HE
            clear hel HSTEP
            clear t0 t1 t2 t3 t4 t5 f0 f1 f2 f3 f4 f5
            go_wp2_with (go_at_call 66; refine (HE.out _).mono ?_; rintro e w5 ⟨rfl, hb5⟩; have bx := HBR.out.below hb5 HBR.out.lt; obtain ⟨t0, t1, t2, t3, t4, t5⟩ := box6 bx; obtain ⟨f0, f1, f2, f3, f4, f5⟩ := free6 bx)
            rw [HW.out]
            exact lex_ret Tryz.results52 rfl rfl rfl rfl (put6 bx _ _ _ _ _ _) (below_six (Nat.le_refl _) (chain HBW.out hb5) _ _ _ _ _ _)
          | bad =>
            have HW : Hid (strP s.data.toList k = noX i 4) := Lib.hid (by
              have h := HSTEP.out
              rw [hel] at h
              exact h)
            simp only [rescV] at HE
            clear hel HSTEP
            clear t0 t1 t2 t3 t4 t5 f0 f1 f2 f3 f4 f5
            go_wp2_with (go_at_call 66; refine (HE.out _).mono ?_; rintro e w5 ⟨rfl, hb5⟩; have bx := HBR.out.below hb5 HBR.out.lt; obtain ⟨t0, t1, t2, t3, t4, t5⟩ := box6 bx; obtain ⟨f0, f1, f2, f3, f4, f5⟩ := free6 bx)
            rw [HW.out]
            exact lex_ret Tryz.results52 rfl rfl rfl rfl (put6 bx _ _ _ _ _ _) (below_six (Nat.le_refl _) (chain HBW.out hb5) _ _ _ _ _ _)
        · have q2 : ((b.toNat : Int) == 92) = false := beq_eq_false_iff_ne.2 (fun h => b92 (by omega))
          by_cases b32 : b.toNat < 32
          · have HW : Hid (strP s.data.toList k = noX i 4) := Lib.hid (by
              have h := HSTEP.out
              rw [elP_32 HB.out b34 b92 b32] at h
              exact h)
            have q4 : (b.toNat : Int) < 32 := by omega
            clear b34 b92 b32 HSTEP
            go_wp2_with fail
            rw [HW.out]
            exact lex_ret Tryz.results52 rfl rfl rfl rfl (put6 HBR.out _ _ _ _ _ _) (below_six (Nat.le_refl _) HBW.out _ _ _ _ _ _)
          · have q4 : (32 : Int) ≤ (b.toNat : Int) := by omega
            have HEL2 := Lib.hid (elP_dec HB.out b34 b92 b32)
            clear b34 b92 b32
            cases hd : dec (s.data.toList.drop i) with
            | none =>
              have HW : Hid (strP s.data.toList k = noX i 6) := Lib.hid (by
                have h := HSTEP.out
                rw [HEL2.out, hd] at h
                exact h)
              have HD := Lib.hid (fun W => rdec_none_of HSM.out hd W)
              clear hd HSTEP HEL2
              go_wp2_with (go_at_call 68; refine (HD.out _).mono ?_; rintro e w' ⟨rfl, rfl⟩)
              rw [HW.out]
              exact lex_ret Tryz.results52 rfl rfl rfl rfl (put6 HBR.out _ _ _ _ _ _) (below_six (Nat.le_refl _) HBW.out _ _ _ _ _ _)
            | some rn =>
              obtain ⟨r, n⟩ := rn
              have hel2 : elP (s.data.toList.drop i) = .add r n := by rw [HEL2.out, hd]; rfl
              obtain ⟨g1, g2, g3, g4⟩ := elP_add hel2
              rw [List.length_drop, HL.out] at g2
              have HNEXT := Lib.hid (HST.out.next hel2)
              have HD := Lib.hid (fun W => rdec_some_of HSM.out hd W)
              have HEN := Lib.hid (fun W => renc_true (r : Int) g3 W)
              have HLB := Lib.hid (bv_length (enc r))
              simp only [Int.toNat_natCast] at HEN
              clear hd HSTEP HEL2 hel2 g3
              go_wp2_with (first
                | (go_at_call 68; refine (HD.out _).mono ?_; rintro e w' ⟨rfl, rfl⟩)
                | (go_at_call 67; refine (HEN.out _).mono ?_; rintro e w' ⟨rfl, rfl⟩)
                | (at_builtin; refine wpList_append_own _ rfl (.tmp 36) (.tmp 37) 33 rfl W1.heap.size 5 i0 (.int .u8 0) 1 1 Tryz.underlying33 hi hz0 hz1 hz2 rfl (by decide) (.slice A out.length c) out.length (bv out) rfl (HO.out.alloc _) ⟨wr.heap.size, 0, none⟩ (enc r).length (enc r).length (bv (enc r)) rfl (by rw [HLB.out]; omega) (new_cells wr 5 (bv (enc r))) (bv_one _) (by unfold maxLen; omega) (by omega) (by have := HBE.out.size; simp; omega) ?_; intro v2 w2 hown2 hgrow2 _; rw [← bv_append] at hown2; obtain ⟨A2, c2, rfl, hl2, -⟩ := own_slice hown2))
              go_roundw
              case rel => exact ⟨A2, c2, i + n, out ++ enc r, by omega, by rw [List.length_append], by go_num, by first | exact hown2 | (rw [List.length_append]; exact hown2), ((HBE.out.alloc HBE.out.size _).grown hgrow2 (by have := HBE.out.size; simp; omega) (fun j hj => (HO.out.lt j hj).1)), HNEXT⟩
              case measure => simp [intOf]; omega
    · have HW : Hid (strP s.data.toList k = noX s.size 5) := Lib.hid (by
        have h := HSTEP.out
        rw [List.drop_eq_nil_of_le (by rw [HL.out]; omega), HL.out] at h
        exact h)
      clear HSTEP
      go_wp2_with fail
      rw [HW.out]
      exact lex_ret Tryz.results52 rfl rfl rfl rfl (put6 HBR.out _ _ _ _ _ _) (below_six (Nat.le_refl _) HBW.out _ _ _ _ _ _)
end Go.Proofs.YtgclmnlnbjjgkaaGreatDoor
