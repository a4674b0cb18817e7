/- The contract of a number. The contract of the program's Next, and the sanity check of the statements. A region that draws its order, whose operations read old memory alone and whose callees leave old memory as it was: one walk, in the order of the text. Nothing of the program is named here. slices.Grow onto nil. -/
import Derived.Test.YtfmpdcmedaiooaaGreatDoorU03
import Derived.Test.YtfmpdcmedaiooaaGreatDoorU07
import Derived.Deep.CutBlock
import Derived.Deep.DeepCutAuto
import Derived.Test.YtfmpdcmedaiooaaGreatDoorU01
import Derived.Deep.Quiet
import Derived.Deep.QuietTactic
import Derived.BigQuiet
import Derived.Test.YtfmpdcmedaiooaaGreatDoorRows
import Derived.Lib.AppendZerosOnto
import Derived.Lib.Hide
import Derived.WalkSpells
import Derived.WalkLawsBesides
import Derived.Outline
set_option linter.unusedVariables false
set_option linter.unusedSimpArgs false
namespace Go.Proofs.YtfmpdcmedaiooaaGreatDoor
open Go.RowKit
theorem parse_some {f : FuncId} {args : Array Value} {w : World} {o : Option Int} {v : Int} (h : Calls Tryz.prog f args w (ParsePost o w)) (ho : o = some v) : Calls Tryz.prog f args w fun e w' => e = .returned (.tuple #[.int .i64 v, .nilIface]) ∧ Below w.heap.size w w' := by
  subst ho
  exact h.mono fun e w' h => ⟨h.2, h.1⟩
theorem parse_none {f : FuncId} {args : Array Value} {w : World} {o : Option Int} (h : Calls Tryz.prog f args w (ParsePost o w)) (ho : o = none) : Calls Tryz.prog f args w fun e w' => ∃ n t p, e = .returned (.tuple #[.int .i64 n, .iface t p]) ∧ Below w.heap.size w w' := by
  subst ho
  refine h.mono fun e w' h => ?_
  obtain ⟨hb, n, t, p, he⟩ := h
  exact ⟨n, t, p, he, hb⟩
theorem numP_a {l : List UInt8} {k f t : Nat} (hf : firstP l k = f) (ht : span digB l f = t) (h : t = f) : numP l k = noX f 4 := by
  unfold numP
  rw [hf, ht, if_pos h]
theorem numP_b {l : List UInt8} {k f t : Nat} (hf : firstP l k = f) (ht : span digB l f = t) (h : t ≠ f) (h2 : byt l f = 48 ∧ f + 1 < t) : numP l k = noX (f + 1) 4 := by
  unfold numP
  rw [hf, ht, if_neg h, if_pos h2]
theorem numP_c {l : List UInt8} {k f t : Nat} (hf : firstP l k = f) (ht : span digB l f = t) (h : t ≠ f) (h2 : ¬ (byt l f = 48 ∧ f + 1 < t)) (h3 : moreB l t = true) : numP l k = noX k 7 := by
  unfold numP
  rw [hf, ht, if_neg h, if_neg h2, if_pos h3]
theorem numP_d {l : List UInt8} {k f t : Nat} {v : Int} (hf : firstP l k = f) (ht : span digB l f = t) (h : t ≠ f) (h2 : ¬ (byt l f = 48 ∧ f + 1 < t)) (h3 : moreB l t = false) (ho : fitP (decide (byt l k = 45)) (natF 0 (sub l f t)) = some v) :
    numP l k = okX 3 k t 0 v ⟨#[]⟩ := by
  unfold numP
  rw [hf, ht, if_neg h, if_neg h2, if_neg (by rw [h3]; exact Bool.false_ne_true), ho]
theorem numP_e {l : List UInt8} {k f t : Nat} (hf : firstP l k = f) (ht : span digB l f = t) (h : t ≠ f) (h2 : ¬ (byt l f = 48 ∧ f + 1 < t)) (h3 : moreB l t = false) (ho : fitP (decide (byt l k = 45)) (natF 0 (sub l f t)) = none) :
    numP l k = noX k 7 := by
  unfold numP
  rw [hf, ht, if_neg h, if_neg h2, if_neg (by rw [h3]; exact Bool.false_ne_true), ho]
set_option maxHeartbeats 20000000 in
set_option maxRecDepth 100000 in
theorem number_any (s : ByteArray) (k : Nat) (hs : s.size ≤ 1048576) (hk : k < s.size) (w : World) (hE : ErrIn w) : Calls Tryz.prog 116 #[.string s, .int .i64 k] w (LexPost (numP s.data.toList k) w) := by
  have hl : s.data.toList.length = s.size := by simp
  have HL := Lib.hid hl
  have HERR := Lib.hid hE
  clear hl hE
  obtain ⟨b0, hb0⟩ : ∃ b0, s[k] = b0 := ⟨_, rfl⟩
  have HB0 := Lib.hid (at_list hk hb0)
  obtain ⟨f, hf⟩ : ∃ f, firstP s.data.toList k = f := ⟨_, rfl⟩
  have HF := Lib.hid hf
  have hfc : (b0.toNat = 45 ∧ f = k + 1) ∨ (b0.toNat ≠ 45 ∧ f = k) := by
    have h := firstP_cases (l := s.data.toList) (k := k)
    rw [bytq (at_list hk hb0), hf] at h
    exact h
  have HFC := Lib.hid hfc
  clear hf hfc
  obtain ⟨W1, hW1⟩ : ∃ X, X = w.alloc (.cells #[.int .i64 0, .int .i64 0, .int .i64 0, .int .u8 0, .int .i64 0, .string ⟨#[]⟩] 93) := ⟨_, rfl⟩
  have HW1 := Lib.hid hW1
  clear hW1
  go_enter Tryz.func116, Tryz.ntmps116
  go_upto_if 15 with (fail)
  rw [← HW1.out]
  go_cut [7] (fun t7 wx => wx = W1 ∧ t7 = .int .i64 (f : Nat))
  case first => as_aux_lemma =>
    rcases HFC.out with ⟨h1, h2⟩ | ⟨h1, h2⟩
    · have hq : ((b0.toNat : Int) == 45) = true := by rw [beq_iff_eq]; omega
      have H2 := Lib.hid h2
      clear h1 h2
      go_wp2_with fail
      go_meet
      refine ⟨rfl, ?_⟩
      rw [H2.out]
      go_num
    · have hq : ((b0.toNat : Int) == 45) = false := beq_eq_false_iff_ne.2 (fun h => h1 (by omega))
      have H2 := Lib.hid h2
      clear h1 h2
      go_wp2_with fail
      go_meet
      exact ⟨rfl, by rw [H2.out]⟩
  case rest =>
    obtain ⟨hweq, rfl⟩ := hcut
    have hweq := hweq.symm
    subst hweq
    have hfl : f ≤ s.size ∧ k ≤ f ∧ f ≤ k + 1 := by have := HFC.out; omega
    obtain ⟨hf1, hf2, hf3⟩ := hfl
    have HBX : Hid (Box W1 w.heap.size 93 #[.int .i64 0, .int .i64 0, .int .i64 0, .int .u8 0, .int .i64 0, .string ⟨#[]⟩]) := Lib.hid (by rw [HW1.out]; exact Box.laid w _ _)
    have HBL : Hid (Below w.heap.size w W1) := Lib.hid (by rw [HW1.out]; exact (Below.refl _ _).alloc (Nat.le_refl _) _)
    clear hb0
    obtain ⟨j, hjs⟩ : ∃ j, span digB s.data.toList f = j := ⟨_, rfl⟩
    have HE := Lib.hid hjs
    have hfj : f ≤ j := by rw [← hjs]; exact span_ge _ _ _
    have hj : j ≤ s.size := by
      have h := span_le (p := digB) (l := s.data.toList) (k := f) (by rw [HL.out]; exact hf1)
      rw [HL.out, hjs] at h
      exact h
    clear hjs
    go_upto_block 0 with fail
    go_cut [8] (fun t8 wx => wx = W1 ∧ t8 = .int .i64 (j : Nat))
    case first => as_aux_lemma =>
      go_wp2
      go_loop [8] (fun t => ∃ i : Nat, f ≤ i ∧ i ≤ s.size ∧ t = .int .i64 i ∧ span digB s.data.toList f = span digB s.data.toList i) (fun t => s.size - (intOf t).toNat)
      case atStart => exact ⟨f, Nat.le_refl _, hf1, rfl, rfl⟩
      case round =>
        obtain ⟨i, hfi, hi, rfl, hsp⟩ := hrel
        have HS := Lib.hid hsp
        clear hsp
        by_cases hlt : i < s.size
        · obtain ⟨b, hb⟩ : ∃ b, s[i] = b := ⟨_, rfl⟩
          have H3 := Lib.hid (at_list hlt hb)
          cases hc : digB b with
          | true =>
            have HN := Lib.hid (span_inq H3.out hc)
            go_wp2_with (go_at_call 115; refine (digit_any _ _).mono ?_; rw [hc]; rintro e w' ⟨rfl, rfl⟩)
            go_round
            case rel => exact ⟨i + 1, by omega, by omega, by go_num, HS.out.trans HN.out⟩
            case measure => simp [intOf]; omega
          | false =>
            have HN := Lib.hid (span_noq H3.out hc)
            go_wp2_with (go_at_call 115; refine (digit_any _ _).mono ?_; rw [hc]; rintro e w' ⟨rfl, rfl⟩)
            go_meet
            exact ⟨rfl, by rw [← HN.out, ← HS.out, HE.out]⟩
        · have HN := Lib.hid (span_end (p := digB) (l := s.data.toList) (k := i) (by rw [HL.out]; omega))
          go_wp2
          go_meet
          refine ⟨rfl, ?_⟩
          rw [← HE.out, HS.out, HN.out]
          (try omega)
    case rest =>
      obtain ⟨hweq, rfl⟩ := hcut
      have hweq := hweq.symm
      subst hweq
      by_cases ha : j = f
      · have hq : ((j : Int) == (f : Int)) = true := by rw [beq_iff_eq]; omega
        have HW := Lib.hid (numP_a HF.out HE.out ha)
        have HA := Lib.hid ha
        clear ha
        go_wp2_with (first | (go_at_call 110; refine (fail_any _ _ _).mono ?_; rintro e w' ⟨rfl, hb'⟩; have bx := HBX.out.below hb' HBX.out.lt; obtain ⟨t0, t1, t2, t3, t4, t5⟩ := box6 bx; obtain ⟨f0, f1, f2, f3, f4, f5⟩ := free6 bx))
        rw [HW.out]
        exact lex_ret Tryz.results116 rfl rfl rfl rfl (put6 bx _ _ _ _ _ _) (below_six (Nat.le_refl _) (HBL.out.trans (hb'.mono HBL.out.size)) _ _ _ _ _ _)

      · have hq : ((j : Int) == (f : Int)) = false := beq_eq_false_iff_ne.2 (fun h => ha (by omega))
        have hff : f < s.size := by omega
        obtain ⟨b1, hb1⟩ : ∃ b1, s[f] = b1 := ⟨_, rfl⟩
        have HB1 := Lib.hid (bytq (at_list hff hb1))
        have HNE := Lib.hid ha
        clear ha
        obtain ⟨zb, hzb⟩ : ∃ zb : Bool, zb = decide (byt s.data.toList f = 48 ∧ f + 1 < j) := ⟨_, rfl⟩
        have HZB := Lib.hid hzb
        clear hzb
        go_upto_region 9 with fail
        go_cut [40] (fun t40 wx => wx = W1 ∧ t40 = .bool zb)
        case first => as_aux_lemma =>
          have hz := HZB.out
          rw [HB1.out] at hz
          by_cases z1 : b1.toNat = 48
          · have hq1 : ((b1.toNat : Int) == 48) = true := by rw [beq_iff_eq]; omega
            by_cases z2 : f + 1 < j
            · rw [decide_eq_true ⟨z1, z2⟩] at hz
              have HZ := Lib.hid hz
              clear hz z1
              go_wp2_with fail
              go_meet
              refine ⟨rfl, ?_⟩
              rw [HZ.out]
              first | rfl | (simp; omega)
            · rw [decide_eq_false (fun h => z2 h.2)] at hz
              have HZ := Lib.hid hz
              clear hz z1
              go_wp2_with fail
              go_meet
              refine ⟨rfl, ?_⟩
              rw [HZ.out]
              first | rfl | (simp; omega)
          · have hq1 : ((b1.toNat : Int) == 48) = false := beq_eq_false_iff_ne.2 (fun h => z1 (by omega))
            rw [decide_eq_false (fun h => z1 h.1)] at hz
            have HZ := Lib.hid hz
            clear hz z1
            go_wp2_with fail
            go_meet
            refine ⟨rfl, ?_⟩
            rw [HZ.out]
        case rest =>
          obtain ⟨hweq, rfl⟩ := hcut
          have hweq := hweq.symm
          subst hweq
          cases zb with
          | true => as_aux_lemma =>
            have HW := Lib.hid (numP_b HF.out HE.out HNE.out (of_decide_eq_true HZB.out.symm))
            go_wp2_with (go_at_call 110; refine (fail_any _ _ _).mono ?_; rintro e w' ⟨rfl, hb'⟩; have bx := HBX.out.below hb' HBX.out.lt; obtain ⟨t0, t1, t2, t3, t4, t5⟩ := box6 bx; obtain ⟨f0, f1, f2, f3, f4, f5⟩ := free6 bx)
            rw [HW.out]
            exact lex_ret Tryz.results116 rfl rfl rfl rfl (put6 bx _ _ _ _ _ _) (below_six (Nat.le_refl _) (HBL.out.trans (hb'.mono HBL.out.size)) _ _ _ _ _ _)

          | false =>
            have HZN := Lib.hid (of_decide_eq_false HZB.out.symm)
            obtain ⟨mb, hmb⟩ : ∃ mb : Bool, mb = moreB s.data.toList j := ⟨_, rfl⟩
            have HMB := Lib.hid hmb
            clear hmb
            go_upto_region 11 with fail
            go_cut [57] (fun t57 wx => wx = W1 ∧ t57 = .bool mb)
            case first => as_aux_lemma =>
              by_cases hjl : j < s.size
              ·
                  obtain ⟨b2, hb2⟩ : ∃ b2, s[j] = b2 := ⟨_, rfl⟩
                  have hm := HMB.out
                  unfold moreB at hm
                  rw [bytq (at_list hjl hb2)] at hm
                  by_cases m1 : b2.toNat = 46
                  · have q1 : ((b2.toNat : Int) == 46) = true := by rw [beq_iff_eq]; omega
                    rw [decide_eq_true (.inl m1)] at hm
                    have HM := Lib.hid hm
                    clear hm m1
                    go_wp2_with fail
                    go_meet
                    exact ⟨rfl, by rw [HM.out]⟩
                  · have q1 : ((b2.toNat : Int) == 46) = false := beq_eq_false_iff_ne.2 (fun h => m1 (by omega))
                    by_cases m2 : b2.toNat = 101
                    · have q2 : ((b2.toNat : Int) == 101) = true := by rw [beq_iff_eq]; omega
                      rw [decide_eq_true (.inr (.inl m2))] at hm
                      have HM := Lib.hid hm
                      clear hm m1 m2
                      go_wp2_with fail
                      go_meet
                      exact ⟨rfl, by rw [HM.out]⟩
                    · have q2 : ((b2.toNat : Int) == 101) = false := beq_eq_false_iff_ne.2 (fun h => m2 (by omega))
                      by_cases m3 : b2.toNat = 69
                      · have q3 : ((b2.toNat : Int) == 69) = true := by rw [beq_iff_eq]; omega
                        rw [decide_eq_true (.inr (.inr m3))] at hm
                        have HM := Lib.hid hm
                        clear hm m1 m2 m3
                        go_wp2_with fail
                        go_meet
                        exact ⟨rfl, by rw [HM.out]⟩
                      · have q3 : ((b2.toNat : Int) == 69) = false := beq_eq_false_iff_ne.2 (fun h => m3 (by omega))
                        rw [decide_eq_false (by omega)] at hm
                        have HM := Lib.hid hm
                        clear hm m1 m2 m3
                        go_wp2_with fail
                        go_meet
                        exact ⟨rfl, by rw [HM.out]⟩
              ·
                  have hm := HMB.out
                  unfold moreB at hm
                  rw [byt_no (by rw [HL.out]; omega), decide_eq_false (by omega)] at hm
                  have HM := Lib.hid hm
                  clear hm
                  go_wp2_with fail
                  go_meet
                  exact ⟨rfl, by rw [HM.out]⟩
            case rest => as_aux_lemma =>
              obtain ⟨hweq, rfl⟩ := hcut
              have hweq := hweq.symm
              subst hweq
              cases mb with
              | true => as_aux_lemma =>
                have HW := Lib.hid (numP_c HF.out HE.out HNE.out HZN.out HMB.out.symm)
                go_wp2_with (go_at_call 110; refine (fail_any _ _ _).mono ?_; rintro e w' ⟨rfl, hb'⟩; have bx := HBX.out.below hb' HBX.out.lt; obtain ⟨t0, t1, t2, t3, t4, t5⟩ := box6 bx; obtain ⟨f0, f1, f2, f3, f4, f5⟩ := free6 bx)
                rw [HW.out]
                exact lex_ret Tryz.results116 rfl rfl rfl rfl (put6 bx _ _ _ _ _ _) (below_six (Nat.le_refl _) (HBL.out.trans (hb'.mono HBL.out.size)) _ _ _ _ _ _)

              | false =>
                obtain ⟨x, hx⟩ : ∃ x, s.extract k j = x := ⟨_, rfl⟩
                have hxl : x.data.toList = sub s.data.toList k j := by rw [← hx, ← Lib.toList_data, ext_sub]
                have hxs : x.size ≤ 281474976710656 := by rw [← hx]; simp; omega
                obtain ⟨o, ho⟩ : ∃ o, fitP (decide (byt s.data.toList k = 45)) (natF 0 (sub s.data.toList f j)) = o := ⟨_, rfl⟩
                have hat : Lib.atoiAll x.data.toList = endP o := by
                  have h := atoi_sub (l := s.data.toList) (k := k) (by rw [HL.out]; exact hk) (by rw [HF.out, HE.out]; exact HNE.out)
                  rw [HF.out, HE.out, ho] at h
                  rw [hxl, h]
                have HP := Lib.hid (parse_any x o hat hxs W1 (HERR.out.next HBL.out))
                have HO := Lib.hid ho
                have HX := Lib.hid hxl
                clear hxl hxs hat ho
                cases o with
                | none => as_aux_lemma =>
                  have HW := Lib.hid (numP_e HF.out HE.out HNE.out HZN.out HMB.out.symm HO.out)
                  have HQ := Lib.hid (parse_none HP.out rfl)
                  go_upto_if 94 with (go_at_call 148; refine HQ.out.mono ?_; rintro e w4 ⟨nn, tt, pp, rfl, hb4⟩)
                  go_upto_region 15 with fail
                  go_wp2_with (first | fail)
                  refine (fail_any _ _ _).mono ?_
                  rintro e w' ⟨rfl, hb'⟩
                  have BX := Lib.hid ((HBX.out.below hb4 HBX.out.lt).below hb' (Nat.lt_of_lt_of_le HBX.out.lt hb4.size))
                  have HBB := Lib.hid ((chain HBL.out hb4).trans (hb'.mono (Nat.le_trans HBL.out.size hb4.size)))
                  clear hb4 hb'
                  obtain ⟨t0, t1, t2, t3, t4, t5⟩ := box6 BX.out
                  obtain ⟨f0, f1, f2, f3, f4, f5⟩ := free6 BX.out
                  go_wp2_with (first | fail)
                  rw [HW.out]
                  exact lex_ret Tryz.results116 rfl rfl rfl rfl (put6 BX.out _ _ _ _ _ _) (below_six (Nat.le_refl _) HBB.out _ _ _ _ _ _)

                | some v => as_aux_lemma =>
                  have HW := Lib.hid (numP_d HF.out HE.out HNE.out HZN.out HMB.out.symm HO.out)
                  have HQ := Lib.hid (parse_some HP.out rfl)
                  go_upto_if 94 with (go_at_call 148; refine HQ.out.mono ?_; rintro e w4 ⟨rfl, hb4⟩)
                  go_upto_region 16 with fail
                  go_wp2_with (first | fail)
                  refine (found_any _ _ _ _ _ _ _).mono ?_
                  rintro e w' ⟨rfl, hb'⟩
                  have BX := Lib.hid ((HBX.out.below hb4 HBX.out.lt).below hb' (Nat.lt_of_lt_of_le HBX.out.lt hb4.size))
                  have HBB := Lib.hid ((chain HBL.out hb4).trans (hb'.mono (Nat.le_trans HBL.out.size hb4.size)))
                  clear hb4 hb'
                  obtain ⟨t0, t1, t2, t3, t4, t5⟩ := box6 BX.out
                  obtain ⟨f0, f1, f2, f3, f4, f5⟩ := free6 BX.out
                  go_wp2_with (first | fail)
                  rw [HW.out]
                  exact lex_ret Tryz.results116 rfl rfl rfl rfl (put6 BX.out _ _ _ _ _ _) (below_six (Nat.le_refl _) HBB.out _ _ _ _ _ _)

end Go.Proofs.YtfmpdcmedaiooaaGreatDoor
namespace Go.Proofs.YtfmpdcmedaiooaaGreatDoor
open Go.RowKit
theorem lex_as {f : FuncId} {args : Array Value} {w : World} {x y : Lx} (h : Calls Tryz.prog f args w (LexPost x w)) (hx : y = x) : Calls Tryz.prog f args w (LexPost y w) := by
  subst hx; exact h
theorem getd_at {l : List UInt8} {k : Nat} {b : UInt8} (h : l[k]? = some b) : l[k]?.getD 0 = b := by rw [h]; rfl
theorem lexN_end {l : List UInt8} {k : Nat} (h : k = l.length) : lexN l k = okX 0 k k 0 0 ⟨#[]⟩ := by unfold lexN; rw [if_pos h]
theorem lexN_at {l : List UInt8} {k : Nat} {b : UInt8} (h : l[k]? = some b) : lexN l k = if signB b = true then okX 1 k (k + 1) b.toNat 0 ⟨#[]⟩ else if letB b = true then wordP l k else if b.toNat = 45 ∨ digB b = true then numP l k else if b.toNat = 34 then strP l k else noX k 4 := by
  have hk := (List.getElem?_eq_some_iff.1 h).1
  unfold lexN
  rw [if_neg (by omega), getd_at h, bytq h]
set_option maxHeartbeats 10000000 in
set_option maxRecDepth 100000 in
theorem next_any (s : ByteArray) (k : Int) (hs : s.size ≤ 1048576) (w : World) (hE : ErrIn w) : Calls Tryz.prog 80 #[.string s, .int .i64 k] w (LexPost (lexP s.data.toList k) w) := by
  have hl : s.data.toList.length = s.size := by simp
  have HL := Lib.hid hl
  have hsm : s.size ≤ maxLen := by unfold maxLen; omega
  have HSM := Lib.hid hsm
  have HERR := Lib.hid hE
  clear hl hE hsm
  obtain ⟨W1, hW1⟩ : ∃ X, X = w.alloc (.cells #[.int .i64 0, .int .i64 0, .int .i64 0, .int .u8 0, .int .i64 0, .string ⟨#[]⟩] 93) := ⟨_, rfl⟩
  have HBX : Hid (Box W1 w.heap.size 93 #[.int .i64 0, .int .i64 0, .int .i64 0, .int .u8 0, .int .i64 0, .string ⟨#[]⟩]) := Lib.hid (by rw [hW1]; exact Box.laid w _ _)
  have HBL : Hid (Below w.heap.size w W1) := Lib.hid (by rw [hW1]; exact (Below.refl _ _).alloc (Nat.le_refl _) _)
  have HW1 := Lib.hid hW1
  clear hW1
  by_cases hout : k < 0 ∨ (s.size : Int) < k
  · have HW : Hid (lexP s.data.toList k = noX 0 3) := Lib.hid (by unfold lexP; rw [HL.out, if_pos hout])
    rw [HW.out]
    rcases hout with h | h
    all_goals
      go_enter Tryz.func80, Tryz.ntmps80
      go_upto_region 1 with fail
      rw [← HW1.out]
      go_wp2_with (go_at_call 110; refine (fail_any _ _ _).mono ?_; rintro e w' ⟨rfl, hb'⟩; have bx := HBX.out.below hb' HBX.out.lt; obtain ⟨t0, t1, t2, t3, t4, t5⟩ := box6 bx; obtain ⟨f0, f1, f2, f3, f4, f5⟩ := free6 bx)
      exact lex_ret Tryz.results80 rfl rfl rfl rfl (put6 bx _ _ _ _ _ _) (below_six (Nat.le_refl _) (HBL.out.trans (hb'.mono HBL.out.size)) _ _ _ _ _ _)
  · obtain ⟨n, rfl⟩ : ∃ n : Nat, k = (n : Int) := ⟨k.toNat, by omega⟩
    have hn : n ≤ s.size := by omega
    obtain ⟨f, hf⟩ : ∃ f, span blankB s.data.toList n = f := ⟨_, rfl⟩
    have hfs : f ≤ s.size := by
      have h := span_le (p := blankB) (l := s.data.toList) (k := n) (by rw [HL.out]; exact hn)
      rw [HL.out, hf] at h
      exact h
    have HW0 : Hid (lexP s.data.toList (n : Int) = lexN s.data.toList f) := Lib.hid (by
      unfold lexP
      rw [HL.out, if_neg hout, Int.toNat_natCast, hf])
    have hsk := fun W => skip_any s n HSM.out hn W
    rw [hf] at hsk
    have HSK := Lib.hid hsk
    clear hout hsk hf
    have hq1 : decide ((n : Int) < 0) = false := by simp
    have hq2 : decide ((s.size : Int) < (n : Int)) = false := by simp; omega
    have hq3 : decide (s.size < n) = false := by simp; omega
    rw [HW0.out]
    by_cases hend : f = s.size
    · have HW : Hid (lexN s.data.toList f = okX 0 f f 0 0 ⟨#[]⟩) := Lib.hid (lexN_end (by rw [HL.out]; exact hend))
      rw [HW.out]
      have hqe : ((f : Int) == (s.size : Int)) = true := by rw [beq_iff_eq]; omega
      clear hend
      go_enter Tryz.func80, Tryz.ntmps80
      go_upto_region 1 with fail
      rw [← HW1.out]
      go_wp2_with (first
        | (go_at_call 78; refine (HSK.out _).mono ?_; rintro e w' ⟨rfl, rfl⟩)
        | (go_at_call 111; refine (found_any _ _ _ _ _ _ _).mono ?_; rintro e w' ⟨rfl, hb'⟩; have bx := HBX.out.below hb' HBX.out.lt; obtain ⟨t0, t1, t2, t3, t4, t5⟩ := box6 bx; obtain ⟨f0, f1, f2, f3, f4, f5⟩ := free6 bx))
      exact lex_ret Tryz.results80 rfl rfl rfl rfl (put6 bx _ _ _ _ _ _) (below_six (Nat.le_refl _) (HBL.out.trans (hb'.mono HBL.out.size)) _ _ _ _ _ _)
    · have hqe : ((f : Int) == (s.size : Int)) = false := beq_eq_false_iff_ne.2 (fun h => hend (by omega))
      have hflt : f < s.size := by omega
      obtain ⟨b, hb⟩ : ∃ b, s[f] = b := ⟨_, rfl⟩
      have HB := Lib.hid (at_list hflt hb)
      have HAT := Lib.hid (lexN_at HB.out)
      clear hend
      have HSG := Lib.hid (fun W => sign_any b W)
      have HLT := Lib.hid (fun W => letter_any b W)
      have HDG := Lib.hid (fun W => digit_any b W)
      cases c1 : signB b with
      | true =>
        rw [c1] at HSG HAT
        rw [HAT.out, if_pos rfl]
        clear c1
        go_enter Tryz.func80, Tryz.ntmps80
        go_upto_region 1 with fail
        rw [← HW1.out]
        go_wp2_with (first
          | (go_at_call 78; refine (HSK.out _).mono ?_; rintro e w' ⟨rfl, rfl⟩)
          | (go_at_call 112; refine (HSG.out _).mono ?_; rintro e w' ⟨rfl, rfl⟩)
          | (go_at_call 111; refine (found_any _ _ _ _ _ _ _).mono ?_; rintro e w' ⟨rfl, hb'⟩; have bx := HBX.out.below hb' HBX.out.lt; obtain ⟨t0, t1, t2, t3, t4, t5⟩ := box6 bx; obtain ⟨f0, f1, f2, f3, f4, f5⟩ := free6 bx))
        exact lex_ret Tryz.results80 rfl rfl rfl rfl (put6 bx _ _ _ _ _ _) (below_six (Nat.le_refl _) (HBL.out.trans (hb'.mono HBL.out.size)) _ _ _ _ _ _)
      | false =>
        rw [c1] at HSG HAT
        clear c1
        cases c2 : letB b with
        | true =>
          rw [c2] at HLT HAT
          have HX := Lib.hid (lex_as (word_any s f HSM.out hflt W1) (x := wordP s.data.toList f) (y := lexN s.data.toList f) (by rw [HAT.out, if_neg Bool.false_ne_true, if_pos rfl]))
          generalize lexN s.data.toList f = x at HX ⊢
          clear c2
          go_enter Tryz.func80, Tryz.ntmps80
          go_upto_region 1 with fail
          rw [← HW1.out]
          go_wp2_with (first
            | (go_at_call 78; refine (HSK.out _).mono ?_; rintro e w' ⟨rfl, rfl⟩)
            | (go_at_call 112; refine (HSG.out _).mono ?_; rintro e w' ⟨rfl, rfl⟩)
            | (go_at_call 113; refine (HLT.out _).mono ?_; rintro e w' ⟨rfl, rfl⟩)
            | (go_at_call 114; refine (lex_open HX.out).mono ?_; rintro e w' ⟨rfl, hb'⟩; have bx := HBX.out.below hb' HBX.out.lt; obtain ⟨t0, t1, t2, t3, t4, t5⟩ := box6 bx; obtain ⟨f0, f1, f2, f3, f4, f5⟩ := free6 bx))
          exact lex_ret Tryz.results80 rfl rfl rfl rfl (put6 bx _ _ _ _ _ _) (below_six (Nat.le_refl _) (HBL.out.trans (hb'.mono HBL.out.size)) _ _ _ _ _ _)
        | false =>
          rw [c2] at HLT HAT
          clear c2
          by_cases c3 : b.toNat = 45 ∨ digB b = true
          · have HX := Lib.hid (lex_as (number_any s f hs hflt W1 (HERR.out.next HBL.out)) (x := numP s.data.toList f) (y := lexN s.data.toList f) (by rw [HAT.out, if_neg Bool.false_ne_true, if_neg Bool.false_ne_true, if_pos c3]))
            generalize lexN s.data.toList f = x at HX ⊢
            by_cases c4 : b.toNat = 45
            · have q1 : ((b.toNat : Int) == 45) = true := by rw [beq_iff_eq]; omega
              clear c3 c4
              go_enter Tryz.func80, Tryz.ntmps80
              go_upto_region 1 with fail
              rw [← HW1.out]
              go_wp2_with (first
                | (go_at_call 78; refine (HSK.out _).mono ?_; rintro e w' ⟨rfl, rfl⟩)
                | (go_at_call 112; refine (HSG.out _).mono ?_; rintro e w' ⟨rfl, rfl⟩)
                | (go_at_call 113; refine (HLT.out _).mono ?_; rintro e w' ⟨rfl, rfl⟩)
                | (go_at_call 116; refine (lex_open HX.out).mono ?_; rintro e w' ⟨rfl, hb'⟩; have bx := HBX.out.below hb' HBX.out.lt; obtain ⟨t0, t1, t2, t3, t4, t5⟩ := box6 bx; obtain ⟨f0, f1, f2, f3, f4, f5⟩ := free6 bx))
              exact lex_ret Tryz.results80 rfl rfl rfl rfl (put6 bx _ _ _ _ _ _) (below_six (Nat.le_refl _) (HBL.out.trans (hb'.mono HBL.out.size)) _ _ _ _ _ _)
            · have q1 : ((b.toNat : Int) == 45) = false := beq_eq_false_iff_ne.2 (fun h => c4 (by omega))
              have c5 : digB b = true := c3.resolve_left c4
              rw [c5] at HDG
              clear c3 c4 c5
              go_enter Tryz.func80, Tryz.ntmps80
              go_upto_region 1 with fail
              rw [← HW1.out]
              go_wp2_with (first
                | (go_at_call 78; refine (HSK.out _).mono ?_; rintro e w' ⟨rfl, rfl⟩)
                | (go_at_call 112; refine (HSG.out _).mono ?_; rintro e w' ⟨rfl, rfl⟩)
                | (go_at_call 113; refine (HLT.out _).mono ?_; rintro e w' ⟨rfl, rfl⟩)
                | (go_at_call 115; refine (HDG.out _).mono ?_; rintro e w' ⟨rfl, rfl⟩)
                | (go_at_call 116; refine (lex_open HX.out).mono ?_; rintro e w' ⟨rfl, hb'⟩; have bx := HBX.out.below hb' HBX.out.lt; obtain ⟨t0, t1, t2, t3, t4, t5⟩ := box6 bx; obtain ⟨f0, f1, f2, f3, f4, f5⟩ := free6 bx))
              exact lex_ret Tryz.results80 rfl rfl rfl rfl (put6 bx _ _ _ _ _ _) (below_six (Nat.le_refl _) (HBL.out.trans (hb'.mono HBL.out.size)) _ _ _ _ _ _)
          · have q1 : ((b.toNat : Int) == 45) = false := beq_eq_false_iff_ne.2 (fun h => c3 (.inl (by omega)))
            have c5 : digB b = false := by cases h : digB b with | false => rfl | true => exact absurd (.inr h) c3
            have HAT2 := Lib.hid (by have h := HAT.out; rw [if_neg Bool.false_ne_true, if_neg Bool.false_ne_true, if_neg c3] at h; exact h)
            rw [c5] at HDG
            clear c3 c5
            by_cases c6 : b.toNat = 34
            · have HX := Lib.hid (lex_as (string_any s f hs hflt W1) (x := strP s.data.toList f) (y := lexN s.data.toList f) (by rw [HAT2.out, if_pos c6]))
              generalize lexN s.data.toList f = x at HX ⊢
              have q2 : ((b.toNat : Int) == 34) = true := by rw [beq_iff_eq]; omega
              clear c6
              go_enter Tryz.func80, Tryz.ntmps80
              go_upto_region 1 with fail
              rw [← HW1.out]
              go_wp2_with (first
                | (go_at_call 78; refine (HSK.out _).mono ?_; rintro e w' ⟨rfl, rfl⟩)
                | (go_at_call 112; refine (HSG.out _).mono ?_; rintro e w' ⟨rfl, rfl⟩)
                | (go_at_call 113; refine (HLT.out _).mono ?_; rintro e w' ⟨rfl, rfl⟩)
                | (go_at_call 115; refine (HDG.out _).mono ?_; rintro e w' ⟨rfl, rfl⟩)
                | (go_at_call 117; refine (lex_open HX.out).mono ?_; rintro e w' ⟨rfl, hb'⟩; have bx := HBX.out.below hb' HBX.out.lt; obtain ⟨t0, t1, t2, t3, t4, t5⟩ := box6 bx; obtain ⟨f0, f1, f2, f3, f4, f5⟩ := free6 bx))
              exact lex_ret Tryz.results80 rfl rfl rfl rfl (put6 bx _ _ _ _ _ _) (below_six (Nat.le_refl _) (HBL.out.trans (hb'.mono HBL.out.size)) _ _ _ _ _ _)
            · rw [HAT2.out, if_neg c6]
              have q2 : ((b.toNat : Int) == 34) = false := beq_eq_false_iff_ne.2 (fun h => c6 (by omega))
              clear c6
              go_enter Tryz.func80, Tryz.ntmps80
              go_upto_region 1 with fail
              rw [← HW1.out]
              go_wp2_with (first
                | (go_at_call 78; refine (HSK.out _).mono ?_; rintro e w' ⟨rfl, rfl⟩)
                | (go_at_call 112; refine (HSG.out _).mono ?_; rintro e w' ⟨rfl, rfl⟩)
                | (go_at_call 113; refine (HLT.out _).mono ?_; rintro e w' ⟨rfl, rfl⟩)
                | (go_at_call 115; refine (HDG.out _).mono ?_; rintro e w' ⟨rfl, rfl⟩)
                | (go_at_call 110; refine (fail_any _ _ _).mono ?_; rintro e w' ⟨rfl, hb'⟩; have bx := HBX.out.below hb' HBX.out.lt; obtain ⟨t0, t1, t2, t3, t4, t5⟩ := box6 bx; obtain ⟨f0, f1, f2, f3, f4, f5⟩ := free6 bx))
              exact lex_ret Tryz.results80 rfl rfl rfl rfl (put6 bx _ _ _ _ _ _) (below_six (Nat.le_refl _) (HBL.out.trans (hb'.mono HBL.out.size)) _ _ _ _ _ _)
end Go.Proofs.YtfmpdcmedaiooaaGreatDoor
namespace Go.Proofs.YtfmpdcmedaiooaaGreatDoor
open Go.RowKit
/-- A world that parts from w0 above block B alone. -/
structure Calm (B : Nat) (w0 : World) where
  val : World
  below : Below B w0 val
instance {B : Nat} {w0 : World} : Nonempty (Calm B w0) := ⟨⟨w0, Below.refl _ _⟩⟩
theorem wp_region_calm {P : Program} {id : Nat} {Q : Exit → Act → World → Prop} {a : Act} {w w0 : World} {B : Nat} {l : List Oper} (hm : P.follows .mixedOrders = true) (hB : Region.lexB .any l.toArray = true) (hC : Below B w0 w)
    (h : wpQuiet P l.toArray (fun w' => ∃ u : Calm B w0, w' = u.val) (fun a' => ∀ w', (∃ u : Calm B w0, w' = u.val) → Q .normal a' w') l a) : (Code.region id l.toArray true).wp P Q a w :=
  wp_region_quiet (C := fun w' => ∃ u : Calm B w0, w' = u.val) hm hB ⟨⟨_, hC.drew⟩, rfl⟩ (by simpa using h)
/-- A callee's contract, met in such a world. -/
theorem Calm.call {P : Program} {f : FuncId} {args : Array Value} {B : Nat} {w0 : World} {u : Calm B w0} {v : Value} (hB : B ≤ w0.heap.size) (h : Calls P f args u.val fun e w' => e = .returned v ∧ Below u.val.heap.size u.val w') :
    Calls P f args u.val fun e w'' => e = .returned v ∧ ∃ u' : Calm B w0, w'' = u'.val :=
  h.mono fun _ w' ⟨he, hb⟩ => ⟨he, ⟨w', u.below.trans (hb.mono (Nat.le_trans hB u.below.size))⟩, rfl⟩
theorem Calm.cell {B : Nat} {w0 : World} (u : Calm B w0) {b i : Nat} (hlt : b < B) {x : Value} (h : w0.cell? ⟨b, i, none⟩ = some x) : u.val.cell? ⟨b, i, none⟩ = some x := (u.below.cell (p := ⟨b, i, none⟩) hlt).trans h
end Go.Proofs.YtfmpdcmedaiooaaGreatDoor
namespace Go.Proofs.YtfmpdcmedaiooaaGreatDoor
open Go.RowKit
/-- The zero value. -/
def zeroVal : Value := .agg #[.int .i64 0, .int .i64 0, .string ⟨#[]⟩, .slice none 0 0, .slice none 0 0]
theorem inf_value : (Tryz.prog.info? 25).map (fun i => (i.zero, i.size, i.bytes)) = some (some zeroVal, 5, 80) := by kernel_rfl
theorem inf_string : (Tryz.prog.info? 9).map (fun i => (i.zero, i.size, i.bytes)) = some (some (.string ⟨#[]⟩), 1, 16) := by kernel_rfl
def GrowPost (w : World) (e : Ending) (w' : World) : Prop := Below w.heap.size w w' ∧ ∃ v, e = .returned v ∧ w'.ownsRow w.heap.size 25 5 v 0 []
set_option maxHeartbeats 2000000 in
set_option maxRecDepth 100000 in
theorem grow_nil (n : Nat) (w : World) (hn : n ≤ 1000000) : Calls Tryz.prog 69 #[.slice none 0 0, .int .i64 n] w (GrowPost w) := by
  obtain ⟨i0, hi, hz0, hz1, hz2⟩ := info_parts inf_value
  by_cases hz : n = 0
  · subst hz
    go_enter Tryz.func69, Tryz.ntmps69
    go_wp2_with fail
    go_ret
    exact ⟨Below.refl _ _, _, rfl, World.ownsRow_nil _ _ _ _⟩
  · have hz' : 0 < n := by omega
    have hold : (Builtin.firstCells i0.size 0 (.slice none 0 0)).run Tryz.prog w.drew = .ok ([] : List Value).toArray w.drew := run_firstCells_none w.drew i0.size 0 0 0
    have hrz : ∀ ty, (Builtin.append_ #[23, 3] ty #[.slice none 0 0, .int .i64 (n : Int)]).run Tryz.prog w =
        .ok (.slice (some ⟨w.heap.size, 0, none⟩) (0 + n) (grownCap w (0 + n) 0 25)) (w.drew.alloc (.cells (([] : List Value).toArray ++ Builtin.zeroCells zeroVal.cells n ++ Builtin.zeroCells zeroVal.cells (grownCap w (0 + n) 0 25 - (0 + n))) 25)) := fun ty => by
      exact Lib.run_append_grow_zeros w 23 3 ty 25 i0 zeroVal .i64 .i64 Tryz.underlying23 Tryz.underlying3 hi hz0 none 0 0 ([] : List Value) hold n hz' (by rw [hz1]; omega) (by omega) (by omega)
        (by rw [hz2]; omega) (growslice_fits (by omega) (by rw [hz2]; omega))
    have hGn : 0 + n ≤ grownCap w (0 + n) 0 25 := grownCap_ge w _ _ _
    have hG63 : grownCap w (0 + n) 0 25 ≤ maxLen := grownCap_le_maxLen w (0 + n) 0 25 (by unfold maxLen; omega)
    generalize hG : grownCap w (0 + n) 0 25 = G at hrz hGn hG63
    have hG63' : G ≤ 9223372036854775807 := by unfold maxLen at hG63; omega
    have HM := Lib.hid hG63
    clear hold hG hG63
    obtain ⟨C, hC⟩ : ∃ C : Array Value, C = ([] : List Value).toArray ++ Builtin.zeroCells zeroVal.cells n ++ Builtin.zeroCells zeroVal.cells (G - (0 + n)) := ⟨_, rfl⟩
    have hsz : Hid (C.size = G * 5) := Lib.hid (by
      rw [hC, Array.size_append, Array.size_append, size_zeroCells, size_zeroCells, show zeroVal.cells.size = 5 from rfl]
      simp
      omega)
    rw [← hC] at hrz
    have HRZ := Lib.hid hrz
    clear hrz hC
    go_enter Tryz.func69, Tryz.ntmps69
    go_wp2_with (at_builtin; refine Lib.wpList_append_run _ rfl _ _ _ _ rfl _ _ rfl rfl _ _ (HRZ.out _) ?_)
    go_ret
    refine ⟨((Below.refl _ _).drew).alloc (Nat.le_refl _) _, _, rfl, ?_⟩
    exact World.ownsRow_made (base := w.heap.size) (e := 25) (size := 5) w.drew C G (Nat.le_refl _) HM.out hsz.out
end Go.Proofs.YtfmpdcmedaiooaaGreatDoor
