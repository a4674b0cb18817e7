/- The contract of a number. -/
import Derived.Test.YtmfjpcmbdgbjjaaGreatDoorQ04
import Derived.Test.YtmfjpcmbdgbjjaaGreatDoorQ08
import Derived.Deep.CutBlock
import Derived.Deep.DeepCutAuto
set_option linter.unusedVariables false
set_option linter.unusedSimpArgs false
namespace Go.Proofs.YtmfjpcmbdgbjjaaGreatDoor
open Go.RowKit
theorem parse_some {f : FuncId} {args : Array Value} {w : World} {o : Option Int} {v : Int} (h : Calls Tryz.prog f args w (ParsePost o w)) (ho : o = some v) : Calls Tryz.prog f args w fun e w' => e = .returned (.tuple #[.int .i64 v, .nilIface]) ∧ Below w.heap.size w w' := by
  subst ho
  exact h.mono fun e w' h => ⟨h.2, h.1⟩
theorem parse_none {f : FuncId} {args : Array Value} {w : World} {o : Option Int} (h : Calls Tryz.prog f args w (ParsePost o w)) (ho : o = none) : Calls Tryz.prog f args w fun e w' => ∃ n t p, e = .returned (.tuple #[.int .i64 n, .iface t p]) ∧ Below w.heap.size w w' := by
  subst ho
  refine h.mono fun e w' h => ?_
  obtain ⟨hb, n, t, p, he⟩ := h
  exact ⟨n, t, p, he, hb⟩
theorem numP_a {l : List UInt8} {k f t : Nat} (hf : firstP l k = f) (ht : span digB l f = t) (h : t = f) : numP l k = noX f 4 := by
  unfold numP
  rw [hf, ht, if_pos h]
theorem numP_b {l : List UInt8} {k f t : Nat} (hf : firstP l k = f) (ht : span digB l f = t) (h : t ≠ f) (h2 : byt l f = 48 ∧ f + 1 < t) : numP l k = noX (f + 1) 4 := by
  unfold numP
  rw [hf, ht, if_neg h, if_pos h2]
theorem numP_c {l : List UInt8} {k f t : Nat} (hf : firstP l k = f) (ht : span digB l f = t) (h : t ≠ f) (h2 : ¬ (byt l f = 48 ∧ f + 1 < t)) (h3 : moreB l t = true) : numP l k = noX k 7 := by
  unfold numP
  rw [hf, ht, if_neg h, if_neg h2, if_pos h3]
theorem numP_d {l : List UInt8} {k f t : Nat} {v : Int} (hf : firstP l k = f) (ht : span digB l f = t) (h : t ≠ f) (h2 : ¬ (byt l f = 48 ∧ f + 1 < t)) (h3 : moreB l t = false) (ho : fitP (decide (byt l k = 45)) (natF 0 (sub l f t)) = some v) :
    numP l k = okX 3 k t 0 v ⟨#[]⟩ := by
  unfold numP
  rw [hf, ht, if_neg h, if_neg h2, if_neg (by rw [h3]; exact Bool.false_ne_true), ho]
theorem numP_e {l : List UInt8} {k f t : Nat} (hf : firstP l k = f) (ht : span digB l f = t) (h : t ≠ f) (h2 : ¬ (byt l f = 48 ∧ f + 1 < t)) (h3 : moreB l t = false) (ho : fitP (decide (byt l k = 45)) (natF 0 (sub l f t)) = none) :
    numP l k = noX k 7 := by
  unfold numP
  rw [hf, ht, if_neg h, if_neg h2, if_neg (by rw [h3]; exact Bool.false_ne_true), ho]
set_option maxHeartbeats 20000000 in
set_option maxRecDepth 100000 in
theorem number_any (s : ByteArray) (k : Nat) (hs : s.size ≤ 1048576) (hk : k < s.size) (w : World) (hE : ErrIn w) : Calls Tryz.prog 81 #[.string s, .int .i64 k] w (LexPost (numP s.data.toList k) w) := by
  have hl : s.data.toList.length = s.size := by simp
  have HL := Lib.hid hl
  have HERR := Lib.hid hE
  clear hl hE
  obtain ⟨b0, hb0⟩ : ∃ b0, s[k] = b0 := ⟨_, rfl⟩
  have HB0 := Lib.hid (at_list hk hb0)
  obtain ⟨f, hf⟩ : ∃ f, firstP s.data.toList k = f := ⟨_, rfl⟩
  have HF := Lib.hid hf
  have hfc : (b0.toNat = 45 ∧ f = k + 1) ∨ (b0.toNat ≠ 45 ∧ f = k) := by
    have h := firstP_cases (l := s.data.toList) (k := k)
    rw [bytq (at_list hk hb0), hf] at h
    exact h
  have HFC := Lib.hid hfc
  clear hf hfc
  obtain ⟨W1, hW1⟩ : ∃ X, X = w.alloc (.cells #[.int .i64 0, .int .i64 0, .int .i64 0, .int .u8 0, .int .i64 0, .string ⟨#[]⟩] 44) := ⟨_, rfl⟩
  have HW1 := Lib.hid hW1
  clear hW1
  go_enter Tryz.func81, Tryz.ntmps81
  go_upto_if 15 with (fail)
  rw [← HW1.out]
  go_cut [7] (fun t7 wx => wx = W1 ∧ t7 = .int .i64 (f : Nat))
  case first => as_aux_lemma =>
    rcases HFC.out with ⟨h1, h2⟩ | ⟨h1, h2⟩
    · have hq : ((b0.toNat : Int) == 45) = true := by rw [beq_iff_eq]; omega
      have H2 := Lib.hid h2
      clear h1 h2
      go_wp2_with fail
      go_meet
      refine ⟨rfl, ?_⟩
      rw [H2.out]
      go_num
    · have hq : ((b0.toNat : Int) == 45) = false := beq_eq_false_iff_ne.2 (fun h => h1 (by omega))
      have H2 := Lib.hid h2
      clear h1 h2
      go_wp2_with fail
      go_meet
      exact ⟨rfl, by rw [H2.out]⟩
  case rest =>
    obtain ⟨hweq, rfl⟩ := hcut
    have hweq := hweq.symm
    subst hweq
    have hfl : f ≤ s.size ∧ k ≤ f ∧ f ≤ k + 1 := by have := HFC.out; omega
    obtain ⟨hf1, hf2, hf3⟩ := hfl
    have HBX : Hid (Box W1 w.heap.size 44 #[.int .i64 0, .int .i64 0, .int .i64 0, .int .u8 0, .int .i64 0, .string ⟨#[]⟩]) := Lib.hid (by rw [HW1.out]; exact Box.laid w _ _)
    have HBL : Hid (Below w.heap.size w W1) := Lib.hid (by rw [HW1.out]; exact (Below.refl _ _).alloc (Nat.le_refl _) _)
    clear hb0
    obtain ⟨j, hjs⟩ : ∃ j, span digB s.data.toList f = j := ⟨_, rfl⟩
    have HE := Lib.hid hjs
    have hfj : f ≤ j := by rw [← hjs]; exact span_ge _ _ _
    have hj : j ≤ s.size := by
      have h := span_le (p := digB) (l := s.data.toList) (k := f) (by rw [HL.out]; exact hf1)
      rw [HL.out, hjs] at h
      exact h
    clear hjs
    go_upto_block 0 with fail
    go_cut [8] (fun t8 wx => wx = W1 ∧ t8 = .int .i64 (j : Nat))
    case first => as_aux_lemma =>
      go_wp2
      go_loop [8] (fun t => ∃ i : Nat, f ≤ i ∧ i ≤ s.size ∧ t = .int .i64 i ∧ span digB s.data.toList f = span digB s.data.toList i) (fun t => s.size - (intOf t).toNat)
      case atStart => exact ⟨f, Nat.le_refl _, hf1, rfl, rfl⟩
      case round =>
        obtain ⟨i, hfi, hi, rfl, hsp⟩ := hrel
        have HS := Lib.hid hsp
        clear hsp
        by_cases hlt : i < s.size
        · obtain ⟨b, hb⟩ : ∃ b, s[i] = b := ⟨_, rfl⟩
          have H3 := Lib.hid (at_list hlt hb)
          cases hc : digB b with
          | true =>
            have HN := Lib.hid (span_inq H3.out hc)
            go_wp2_with (go_at_call 80; refine (digit_any _ _).mono ?_; rw [hc]; rintro e w' ⟨rfl, rfl⟩)
            go_round
            case rel => exact ⟨i + 1, by omega, by omega, by go_num, HS.out.trans HN.out⟩
            case measure => simp [intOf]; omega
          | false =>
            have HN := Lib.hid (span_noq H3.out hc)
            go_wp2_with (go_at_call 80; refine (digit_any _ _).mono ?_; rw [hc]; rintro e w' ⟨rfl, rfl⟩)
            go_meet
            exact ⟨rfl, by rw [← HN.out, ← HS.out, HE.out]⟩
        · have HN := Lib.hid (span_end (p := digB) (l := s.data.toList) (k := i) (by rw [HL.out]; omega))
          go_wp2
          go_meet
          refine ⟨rfl, ?_⟩
          rw [← HE.out, HS.out, HN.out]
          (try omega)
    case rest =>
      obtain ⟨hweq, rfl⟩ := hcut
      have hweq := hweq.symm
      subst hweq
      by_cases ha : j = f
      · have hq : ((j : Int) == (f : Int)) = true := by rw [beq_iff_eq]; omega
        have HW := Lib.hid (numP_a HF.out HE.out ha)
        have HA := Lib.hid ha
        clear ha
        go_wp2_with (first | (go_at_call 74; refine (fail_any _ _ _).mono ?_; rintro e w' ⟨rfl, hb'⟩; have bx := HBX.out.below hb' HBX.out.lt; obtain ⟨t0, t1, t2, t3, t4, t5⟩ := box6 bx; obtain ⟨f0, f1, f2, f3, f4, f5⟩ := free6 bx))
        rw [HW.out]
        exact lex_ret Tryz.results81 rfl rfl rfl rfl (put6 bx _ _ _ _ _ _) (below_six (Nat.le_refl _) (HBL.out.trans (hb'.mono HBL.out.size)) _ _ _ _ _ _)

      · have hq : ((j : Int) == (f : Int)) = false := beq_eq_false_iff_ne.2 (fun h => ha (by omega))
        have hff : f < s.size := by omega
        obtain ⟨b1, hb1⟩ : ∃ b1, s[f] = b1 := ⟨_, rfl⟩
        have HB1 := Lib.hid (bytq (at_list hff hb1))
        have HNE := Lib.hid ha
        clear ha
        obtain ⟨zb, hzb⟩ : ∃ zb : Bool, zb = decide (byt s.data.toList f = 48 ∧ f + 1 < j) := ⟨_, rfl⟩
        have HZB := Lib.hid hzb
        clear hzb
        go_upto_region 9 with fail
        go_cut [40] (fun t40 wx => wx = W1 ∧ t40 = .bool zb)
        case first => as_aux_lemma =>
          have hz := HZB.out
          rw [HB1.out] at hz
          by_cases z1 : b1.toNat = 48
          · have hq1 : ((b1.toNat : Int) == 48) = true := by rw [beq_iff_eq]; omega
            by_cases z2 : f + 1 < j
            · rw [decide_eq_true ⟨z1, z2⟩] at hz
              have HZ := Lib.hid hz
              clear hz z1
              go_wp2_with fail
              go_meet
              refine ⟨rfl, ?_⟩
              rw [HZ.out]
              first | rfl | (simp; omega)
            · rw [decide_eq_false (fun h => z2 h.2)] at hz
              have HZ := Lib.hid hz
              clear hz z1
              go_wp2_with fail
              go_meet
              refine ⟨rfl, ?_⟩
              rw [HZ.out]
              first | rfl | (simp; omega)
          · have hq1 : ((b1.toNat : Int) == 48) = false := beq_eq_false_iff_ne.2 (fun h => z1 (by omega))
            rw [decide_eq_false (fun h => z1 h.1)] at hz
            have HZ := Lib.hid hz
            clear hz z1
            go_wp2_with fail
            go_meet
            refine ⟨rfl, ?_⟩
            rw [HZ.out]
        case rest =>
          obtain ⟨hweq, rfl⟩ := hcut
          have hweq := hweq.symm
          subst hweq
          cases zb with
          | true => as_aux_lemma =>
            have HW := Lib.hid (numP_b HF.out HE.out HNE.out (of_decide_eq_true HZB.out.symm))
            go_wp2_with (go_at_call 74; refine (fail_any _ _ _).mono ?_; rintro e w' ⟨rfl, hb'⟩; have bx := HBX.out.below hb' HBX.out.lt; obtain ⟨t0, t1, t2, t3, t4, t5⟩ := box6 bx; obtain ⟨f0, f1, f2, f3, f4, f5⟩ := free6 bx)
            rw [HW.out]
            exact lex_ret Tryz.results81 rfl rfl rfl rfl (put6 bx _ _ _ _ _ _) (below_six (Nat.le_refl _) (HBL.out.trans (hb'.mono HBL.out.size)) _ _ _ _ _ _)

          | false =>
            have HZN := Lib.hid (of_decide_eq_false HZB.out.symm)
            obtain ⟨mb, hmb⟩ : ∃ mb : Bool, mb = moreB s.data.toList j := ⟨_, rfl⟩
            have HMB := Lib.hid hmb
            clear hmb
            go_upto_region 11 with fail
            go_cut [57] (fun t57 wx => wx = W1 ∧ t57 = .bool mb)
            case first => as_aux_lemma =>
              by_cases hjl : j < s.size
              ·
                  obtain ⟨b2, hb2⟩ : ∃ b2, s[j] = b2 := ⟨_, rfl⟩
                  have hm := HMB.out
                  unfold moreB at hm
                  rw [bytq (at_list hjl hb2)] at hm
                  by_cases m1 : b2.toNat = 46
                  · have q1 : ((b2.toNat : Int) == 46) = true := by rw [beq_iff_eq]; omega
                    rw [decide_eq_true (.inl m1)] at hm
                    have HM := Lib.hid hm
                    clear hm m1
                    go_wp2_with fail
                    go_meet
                    exact ⟨rfl, by rw [HM.out]⟩
                  · have q1 : ((b2.toNat : Int) == 46) = false := beq_eq_false_iff_ne.2 (fun h => m1 (by omega))
                    by_cases m2 : b2.toNat = 101
                    · have q2 : ((b2.toNat : Int) == 101) = true := by rw [beq_iff_eq]; omega
                      rw [decide_eq_true (.inr (.inl m2))] at hm
                      have HM := Lib.hid hm
                      clear hm m1 m2
                      go_wp2_with fail
                      go_meet
                      exact ⟨rfl, by rw [HM.out]⟩
                    · have q2 : ((b2.toNat : Int) == 101) = false := beq_eq_false_iff_ne.2 (fun h => m2 (by omega))
                      by_cases m3 : b2.toNat = 69
                      · have q3 : ((b2.toNat : Int) == 69) = true := by rw [beq_iff_eq]; omega
                        rw [decide_eq_true (.inr (.inr m3))] at hm
                        have HM := Lib.hid hm
                        clear hm m1 m2 m3
                        go_wp2_with fail
                        go_meet
                        exact ⟨rfl, by rw [HM.out]⟩
                      · have q3 : ((b2.toNat : Int) == 69) = false := beq_eq_false_iff_ne.2 (fun h => m3 (by omega))
                        rw [decide_eq_false (by omega)] at hm
                        have HM := Lib.hid hm
                        clear hm m1 m2 m3
                        go_wp2_with fail
                        go_meet
                        exact ⟨rfl, by rw [HM.out]⟩
              ·
                  have hm := HMB.out
                  unfold moreB at hm
                  rw [byt_no (by rw [HL.out]; omega), decide_eq_false (by omega)] at hm
                  have HM := Lib.hid hm
                  clear hm
                  go_wp2_with fail
                  go_meet
                  exact ⟨rfl, by rw [HM.out]⟩
            case rest => as_aux_lemma =>
              obtain ⟨hweq, rfl⟩ := hcut
              have hweq := hweq.symm
              subst hweq
              cases mb with
              | true => as_aux_lemma =>
                have HW := Lib.hid (numP_c HF.out HE.out HNE.out HZN.out HMB.out.symm)
                go_wp2_with (go_at_call 74; refine (fail_any _ _ _).mono ?_; rintro e w' ⟨rfl, hb'⟩; have bx := HBX.out.below hb' HBX.out.lt; obtain ⟨t0, t1, t2, t3, t4, t5⟩ := box6 bx; obtain ⟨f0, f1, f2, f3, f4, f5⟩ := free6 bx)
                rw [HW.out]
                exact lex_ret Tryz.results81 rfl rfl rfl rfl (put6 bx _ _ _ _ _ _) (below_six (Nat.le_refl _) (HBL.out.trans (hb'.mono HBL.out.size)) _ _ _ _ _ _)

              | false =>
                obtain ⟨x, hx⟩ : ∃ x, s.extract k j = x := ⟨_, rfl⟩
                have hxl : x.data.toList = sub s.data.toList k j := by rw [← hx, ← Lib.toList_data, ext_sub]
                have hxs : x.size ≤ 281474976710656 := by rw [← hx]; simp; omega
                obtain ⟨o, ho⟩ : ∃ o, fitP (decide (byt s.data.toList k = 45)) (natF 0 (sub s.data.toList f j)) = o := ⟨_, rfl⟩
                have hat : Lib.atoiAll x.data.toList = endP o := by
                  have h := atoi_sub (l := s.data.toList) (k := k) (by rw [HL.out]; exact hk) (by rw [HF.out, HE.out]; exact HNE.out)
                  rw [HF.out, HE.out, ho] at h
                  rw [hxl, h]
                have HP := Lib.hid (parse_any x o hat hxs W1 (HERR.out.next HBL.out))
                have HO := Lib.hid ho
                have HX := Lib.hid hxl
                clear hxl hxs hat ho
                cases o with
                | none => as_aux_lemma =>
                  have HW := Lib.hid (numP_e HF.out HE.out HNE.out HZN.out HMB.out.symm HO.out)
                  have HQ := Lib.hid (parse_none HP.out rfl)
                  go_upto_if 94 with (go_at_call 110; refine HQ.out.mono ?_; rintro e w4 ⟨nn, tt, pp, rfl, hb4⟩)
                  go_upto_region 15 with fail
                  go_wp2_with (first | fail)
                  refine (fail_any _ _ _).mono ?_
                  rintro e w' ⟨rfl, hb'⟩
                  have BX := Lib.hid ((HBX.out.below hb4 HBX.out.lt).below hb' (Nat.lt_of_lt_of_le HBX.out.lt hb4.size))
                  have HBB := Lib.hid ((chain HBL.out hb4).trans (hb'.mono (Nat.le_trans HBL.out.size hb4.size)))
                  clear hb4 hb'
                  obtain ⟨t0, t1, t2, t3, t4, t5⟩ := box6 BX.out
                  obtain ⟨f0, f1, f2, f3, f4, f5⟩ := free6 BX.out
                  go_wp2_with (first | fail)
                  rw [HW.out]
                  exact lex_ret Tryz.results81 rfl rfl rfl rfl (put6 BX.out _ _ _ _ _ _) (below_six (Nat.le_refl _) HBB.out _ _ _ _ _ _)

                | some v => as_aux_lemma =>
                  have HW := Lib.hid (numP_d HF.out HE.out HNE.out HZN.out HMB.out.symm HO.out)
                  have HQ := Lib.hid (parse_some HP.out rfl)
                  go_upto_if 94 with (go_at_call 110; refine HQ.out.mono ?_; rintro e w4 ⟨rfl, hb4⟩)
                  go_upto_region 16 with fail
                  go_wp2_with (first | fail)
                  refine (found_any _ _ _ _ _ _ _).mono ?_
                  rintro e w' ⟨rfl, hb'⟩
                  have BX := Lib.hid ((HBX.out.below hb4 HBX.out.lt).below hb' (Nat.lt_of_lt_of_le HBX.out.lt hb4.size))
                  have HBB := Lib.hid ((chain HBL.out hb4).trans (hb'.mono (Nat.le_trans HBL.out.size hb4.size)))
                  clear hb4 hb'
                  obtain ⟨t0, t1, t2, t3, t4, t5⟩ := box6 BX.out
                  obtain ⟨f0, f1, f2, f3, f4, f5⟩ := free6 BX.out
                  go_wp2_with (first | fail)
                  rw [HW.out]
                  exact lex_ret Tryz.results81 rfl rfl rfl rfl (put6 BX.out _ _ _ _ _ _) (below_six (Nat.le_refl _) HBB.out _ _ _ _ _ _)

end Go.Proofs.YtmfjpcmbdgbjjaaGreatDoor
