/- The contracts of the small functions of the layer flex. -/
import Derived.Test.YtgclmnlnbjjgkaaDoorJl2
import Derived.Test.YtgclmnlnbjjgkaaDoorFl
import Derived.Test.YtgclmnlnbjjgkaaDoorFxO
set_option linter.unusedVariables false
set_option linter.unusedSimpArgs false
namespace Go.Proofs.YtgclmnlnbjjgkaaDoor
open Go.RowKit
theorem fname_any (b : UInt8) (w : World) : Calls Tryd.prog 24 #[.int .u8 b.toNat] w fun e w' => e = .returned (.bool (nameB b)) ∧ w = w' := by
  have hb := UInt8.toNat_lt b
  unfold nameB
  generalize b.toNat = n at *
  go_enter Tryd.func24, Tryd.ntmps24
  go_wp2
  all_goals go_ret
  all_goals exact ⟨ret_bool (by (try simp only [beq_iff_eq, beq_eq_false_iff_ne, decide_eq_true_eq, decide_eq_false_iff_not, ne_eq] at *); rw [Bool.eq_iff_iff]; first | (simp; omega) | (simp; done) | omega), rfl⟩
theorem fdig_any (b : UInt8) (w : World) : Calls Tryd.prog 20 #[.int .u8 b.toNat] w fun e w' => e = .returned (.bool (digB b)) ∧ w = w' := by
  have hb := UInt8.toNat_lt b
  unfold digB
  generalize b.toNat = n at *
  go_enter Tryd.func20, Tryd.ntmps20
  go_wp2
  all_goals go_ret
  all_goals exact ⟨ret_bool (by (try simp only [beq_iff_eq, beq_eq_false_iff_ne, decide_eq_true_eq, decide_eq_false_iff_not, ne_eq] at *); rw [Bool.eq_iff_iff]; first | (simp; omega) | (simp; done) | omega), rfl⟩
theorem fbegins_any (s : ByteArray) (k : Nat) (hs : s.size ≤ maxLen) (w : World) : Calls Tryd.prog 14 #[.string s, .int .i64 k] w fun e w' => e = .returned (.bool (atF nameB s.data.toList k)) ∧ w = w' := by
  unfold maxLen at hs
  by_cases h : k < s.size
  · obtain ⟨b, hb⟩ : ∃ b, s[k] = b := ⟨_, rfl⟩
    rw [atF_at (at_list h hb)]
    have HN := Lib.hid (fun W => fname_any b W)
    generalize nameB b = x at HN ⊢
    go_enter Tryd.func14, Tryd.ntmps14
    go_wp2_with (go_at_call 24; refine (HN.out _).mono ?_; rintro e w' ⟨rfl, rfl⟩)
    all_goals go_ret
    all_goals exact ⟨rfl, rfl⟩
  · rw [atF_end (by simp; omega)]
    go_enter Tryd.func14, Tryd.ntmps14
    go_wp2
    all_goals go_ret
    all_goals exact ⟨rfl, rfl⟩
theorem nmd_split (b : UInt8) : nmdB b = (nameB b || digB b) := rfl
set_option maxHeartbeats 1000000 in
theorem fend_any (s : ByteArray) (k : Nat) (hs : s.size ≤ maxLen) (hk : k ≤ s.size) (w : World) : Calls Tryd.prog 15 #[.string s, .int .i64 k] w fun e w' => e = .returned (.int .i64 (span nmdB s.data.toList k : Nat)) ∧ w = w' := by
  unfold maxLen at hs
  have hl : s.data.toList.length = s.size := by simp
  have HL := Lib.hid hl
  clear hl
  go_enter Tryd.func15, Tryd.ntmps15
  go_wp2
  go_loop [1] (fun t => ∃ j : Nat, j ≤ s.size ∧ t = .int .i64 j ∧ span nmdB s.data.toList k = span nmdB s.data.toList j) (fun t => s.size - (intOf t).toNat)
  case atStart => exact ⟨k, hk, rfl, rfl⟩
  case round =>
    obtain ⟨j, hj, rfl, hsp⟩ := hrel
    have HS := Lib.hid hsp
    clear hsp
    by_cases hlt : j < s.size
    · obtain ⟨b, hb⟩ : ∃ b, s[j] = b := ⟨_, rfl⟩
      have H3 := Lib.hid (at_list hlt hb)
      have HA := Lib.hid (fun W => fname_any b W)
      have HB := Lib.hid (fun W => fdig_any b W)
      cases h1 : nameB b with
      | true =>
        have HN := Lib.hid (span_inq H3.out (show nmdB b = true by rw [nmd_split, h1]; rfl))
        rw [h1] at HA
        clear h1
        go_wp2_with (go_at_call 24; refine (HA.out _).mono ?_; rintro e w' ⟨rfl, rfl⟩)
        go_round
        case rel => exact ⟨j + 1, by omega, by go_num, HS.out.trans HN.out⟩
        case measure => simp [intOf]; omega
      | false =>
        rw [h1] at HA
        cases h2 : digB b with
        | true =>
          have HN := Lib.hid (span_inq H3.out (show nmdB b = true by rw [nmd_split, h1, h2]; rfl))
          rw [h2] at HB
          clear h1 h2
          go_wp2_with (first
            | (go_at_call 24; refine (HA.out _).mono ?_; rintro e w' ⟨rfl, rfl⟩)
            | (go_at_call 20; refine (HB.out _).mono ?_; rintro e w' ⟨rfl, rfl⟩))
          go_round
          case rel => exact ⟨j + 1, by omega, by go_num, HS.out.trans HN.out⟩
          case measure => simp [intOf]; omega
        | false =>
          have HN := Lib.hid (span_noq H3.out (show nmdB b = false by rw [nmd_split, h1, h2]; rfl))
          rw [h2] at HB
          clear h1 h2
          go_wp2_with (first
            | (go_at_call 24; refine (HA.out _).mono ?_; rintro e w' ⟨rfl, rfl⟩)
            | (go_at_call 20; refine (HB.out _).mono ?_; rintro e w' ⟨rfl, rfl⟩))
          go_ret
          exact ⟨ret_int (by rw [HS.out, HN.out]), rfl⟩
    · have HN := Lib.hid (span_end (p := nmdB) (l := s.data.toList) (k := j) (by rw [HL.out]; omega))
      have hje : j = s.size := by omega
      go_wp2
      all_goals go_ret
      all_goals exact ⟨ret_int (by rw [HS.out, HN.out]; (try omega)), rfl⟩
set_option maxHeartbeats 4000000 in
theorem kw_any (s : ByteArray) (w : World) : Calls Tryd.prog 11 #[.string s] w fun e w' => e = .returned (.bool (kwB s.data.toList)) ∧ w = w' := by
  rw [← Lib.toList_data]
  obtain ⟨X, hX⟩ : ∃ X, s.toList = X := ⟨_, rfl⟩
  rw [hX]
  unfold kwB
  go_enter Tryd.func11, Tryd.ntmps11
  go_wp2
  all_goals go_ret
  all_goals exact ⟨ret_bool (by simp_all), rfl⟩
set_option maxHeartbeats 1000000 in
theorem name_any (s : ByteArray) (hs : s.size ≤ maxLen) (w : World) : Calls Tryd.prog 10 #[.string s] w fun e w' => e = .returned (.bool (nameS s.data.toList)) ∧ w = w' := by
  have HB := Lib.hid (fun W => fbegins_any s 0 hs W)
  have HE := Lib.hid (fun W => fend_any s 0 hs (Nat.zero_le _) W)
  unfold maxLen at hs
  have hl : s.data.toList.length = s.size := by simp
  unfold nameS
  rw [hl]
  clear hl
  generalize span nmdB s.data.toList 0 = n at HE ⊢
  generalize atF nameB s.data.toList 0 = b at HB ⊢
  cases b
  all_goals
    by_cases h1 : s.size ≤ 32
    all_goals
      by_cases h2 : n = s.size
      all_goals
        go_enter Tryd.func10, Tryd.ntmps10
        go_wp2_with (first
          | (go_at_call 14; refine (HB.out _).mono ?_; rintro e w' ⟨rfl, rfl⟩)
          | (go_at_call 15; refine (HE.out _).mono ?_; rintro e w' ⟨rfl, rfl⟩))
        all_goals go_ret
        all_goals exact ⟨ret_bool (by first | rfl | (simp; done) | (simp; omega) | (simp_all; done) | (simp_all; omega)), rfl⟩
end Go.Proofs.YtgclmnlnbjjgkaaDoor
