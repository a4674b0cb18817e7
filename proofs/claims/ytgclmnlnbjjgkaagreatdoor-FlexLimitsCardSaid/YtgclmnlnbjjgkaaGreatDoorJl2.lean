/- The contracts of Skip, of words, and of the reference's digit and letter. -/
import Derived.Test.YtgclmnlnbjjgkaaGreatDoorJl1
import Derived.Deep.Light
set_option linter.unusedVariables false
set_option linter.unusedSimpArgs false
namespace Go.Proofs.YtgclmnlnbjjgkaaGreatDoor
open Go.RowKit
theorem at_list {s : ByteArray} {k : Nat} {b : UInt8} (h : k < s.size) (hb : s[k] = b) : s.data.toList[k]? = some b := by
  have h2 : k < s.data.toList.length := by simpa using h
  rw [List.getElem?_eq_getElem h2, ← hb]; rfl
theorem span_inq {p : UInt8 → Bool} {l : List UInt8} {k : Nat} {b : UInt8} (h : l[k]? = some b) (hp : p b = true) : span p l k = span p l (k + 1) := by
  obtain ⟨h1, rfl⟩ := List.getElem?_eq_some_iff.1 h
  exact span_in h1 hp
theorem span_noq {p : UInt8 → Bool} {l : List UInt8} {k : Nat} {b : UInt8} (h : l[k]? = some b) (hp : p b = false) : span p l k = k := by
  obtain ⟨h1, rfl⟩ := List.getElem?_eq_some_iff.1 h
  exact span_no h1 hp
theorem bytq {l : List UInt8} {k : Nat} {b : UInt8} (h : l[k]? = some b) : byt l k = b.toNat := by unfold byt; rw [h]; rfl
theorem rletter_in (s : ByteArray) (k : Nat) (hs : s.size ≤ maxLen) (h : k < s.size) (b : UInt8) (hb : s[k] = b) (w : World) : Calls Tryz.prog 48 #[.string s, .int .i64 k] w fun e w' => e = .returned (.bool (letB b)) ∧ w = w' := by
  unfold maxLen at hs
  have hb2 := UInt8.toNat_lt b
  unfold letB
  go_enter Tryz.func48, Tryz.ntmps48
  go_wp2
  all_goals go_ret
  all_goals exact ⟨ret_bool (by (try simp only [beq_iff_eq, beq_eq_false_iff_ne, decide_eq_true_eq, decide_eq_false_iff_not, ne_eq] at *); rw [Bool.eq_iff_iff]; first | (simp; omega) | (simp; done) | omega), rfl⟩
theorem rletter_end (s : ByteArray) (k : Nat) (hs : s.size ≤ maxLen) (h : ¬ k < s.size) (w : World) : Calls Tryz.prog 48 #[.string s, .int .i64 k] w fun e w' => e = .returned (.bool false) ∧ w = w' := by
  unfold maxLen at hs
  go_enter Tryz.func48, Tryz.ntmps48
  go_wp2
  all_goals go_ret
  all_goals exact ⟨rfl, rfl⟩
theorem rdigit_in (s : ByteArray) (k : Nat) (hs : s.size ≤ maxLen) (h : k < s.size) (b : UInt8) (hb : s[k] = b) (w : World) : Calls Tryz.prog 50 #[.string s, .int .i64 k] w fun e w' => e = .returned (.bool (digB b)) ∧ w = w' := by
  unfold maxLen at hs
  have hb2 := UInt8.toNat_lt b
  unfold digB
  go_enter Tryz.func50, Tryz.ntmps50
  go_wp2
  all_goals go_ret
  all_goals exact ⟨ret_bool (by (try simp only [beq_iff_eq, beq_eq_false_iff_ne, decide_eq_true_eq, decide_eq_false_iff_not, ne_eq] at *); rw [Bool.eq_iff_iff]; first | (simp; omega) | (simp; done) | omega), rfl⟩
theorem rdigit_end (s : ByteArray) (k : Nat) (hs : s.size ≤ maxLen) (h : ¬ k < s.size) (w : World) : Calls Tryz.prog 50 #[.string s, .int .i64 k] w fun e w' => e = .returned (.bool false) ∧ w = w' := by
  unfold maxLen at hs
  go_enter Tryz.func50, Tryz.ntmps50
  go_wp2
  all_goals go_ret
  all_goals exact ⟨rfl, rfl⟩
set_option maxHeartbeats 1000000 in
theorem skip_any (s : ByteArray) (k : Nat) (hs : s.size ≤ maxLen) (hk : k ≤ s.size) (w : World) : Calls Tryz.prog 22 #[.string s, .int .i64 k] w fun e w' => e = .returned (.int .i64 (span blankB s.data.toList k : Nat)) ∧ w = w' := by
  unfold maxLen at hs
  have hl : s.data.toList.length = s.size := by simp
  have HL := Lib.hid hl
  clear hl
  have hq1 : decide ((k : Int) < 0) = false := by simp
  have hq2 : decide ((s.size : Int) < (k : Int)) = false := by simp; omega
  have hq3 : decide (s.size < k) = false := by simp; omega
  go_enter Tryz.func22, Tryz.ntmps22
  go_wp2
  go_loop [1] (fun t => ∃ j : Nat, j ≤ s.size ∧ t = .int .i64 j ∧ span blankB s.data.toList k = span blankB s.data.toList j) (fun t => s.size - (intOf t).toNat)
  case atStart => exact ⟨k, hk, rfl, rfl⟩
  case round =>
    obtain ⟨j, hj, rfl, hsp⟩ := hrel
    have HS := Lib.hid hsp
    clear hsp
    by_cases hlt : j < s.size
    · obtain ⟨b, hb⟩ : ∃ b, s[j] = b := ⟨_, rfl⟩
      have H3 := Lib.hid (at_list hlt hb)
      cases hc : blankB b with
      | true =>
        have HN := Lib.hid (span_inq H3.out hc)
        go_wp2_with (go_at_call 38; refine (blank_any _ _).mono ?_; rw [hc]; rintro e w' ⟨rfl, rfl⟩)
        go_round
        case rel => exact ⟨j + 1, by omega, by go_num, HS.out.trans HN.out⟩
        case measure => simp [intOf]; omega
      | false =>
        have HN := Lib.hid (span_noq H3.out hc)
        go_wp2_with (go_at_call 38; refine (blank_any _ _).mono ?_; rw [hc]; rintro e w' ⟨rfl, rfl⟩)
        go_ret
        exact ⟨ret_int (by rw [HS.out, HN.out]), rfl⟩
    · have HN := Lib.hid (span_end (p := blankB) (l := s.data.toList) (k := j) (by rw [HL.out]; omega))
      have hje : j = s.size := by omega
      go_wp2
      all_goals go_ret
      all_goals exact ⟨ret_int (by rw [HS.out, HN.out]; (try omega)), rfl⟩
theorem skip_any_out (s : ByteArray) (k : Int) (hs : s.size ≤ maxLen) (hk : k < 0 ∨ (s.size : Int) < k) (w : World) : Calls Tryz.prog 22 #[.string s, .int .i64 k] w fun e w' => e = .returned (.int .i64 k) ∧ w = w' := by
  unfold maxLen at hs
  by_cases h1 : k < 0
  · go_enter Tryz.func22, Tryz.ntmps22
    go_wp2
    all_goals go_ret
    all_goals exact ⟨rfl, rfl⟩
  · go_enter Tryz.func22, Tryz.ntmps22
    go_wp2
    all_goals go_ret
    all_goals exact ⟨rfl, rfl⟩
set_option maxHeartbeats 1000000 in
theorem rskip_any (s : ByteArray) (k : Nat) (hs : s.size ≤ maxLen) (hk : k ≤ s.size) (w : World) : Calls Tryz.prog 30 #[.string s, .int .i64 k] w fun e w' => e = .returned (.int .i64 (span blankB s.data.toList k : Nat)) ∧ w = w' := by
  unfold maxLen at hs
  have hl : s.data.toList.length = s.size := by simp
  have HL := Lib.hid hl
  clear hl
  have hq1 : decide ((k : Int) < 0) = false := by simp
  have hq2 : decide ((s.size : Int) < (k : Int)) = false := by simp; omega
  have hq3 : decide (s.size < k) = false := by simp; omega
  go_enter Tryz.func30, Tryz.ntmps30
  go_wp2
  go_loop [1] (fun t => ∃ j : Nat, j ≤ s.size ∧ t = .int .i64 j ∧ span blankB s.data.toList k = span blankB s.data.toList j) (fun t => s.size - (intOf t).toNat)
  case atStart => exact ⟨k, hk, rfl, rfl⟩
  case round =>
    obtain ⟨j, hj, rfl, hsp⟩ := hrel
    have HS := Lib.hid hsp
    clear hsp
    by_cases hlt : j < s.size
    · obtain ⟨b, hb⟩ : ∃ b, s[j] = b := ⟨_, rfl⟩
      have H3 := Lib.hid (at_list hlt hb)
      cases hc : blankB b with
      | true =>
        have HN := Lib.hid (span_inq H3.out hc)
        go_wp2_with (go_at_call 46; refine (rblank_any _ _).mono ?_; rw [hc]; rintro e w' ⟨rfl, rfl⟩)
        go_round
        case rel => exact ⟨j + 1, by omega, by go_num, HS.out.trans HN.out⟩
        case measure => simp [intOf]; omega
      | false =>
        have HN := Lib.hid (span_noq H3.out hc)
        go_wp2_with (go_at_call 46; refine (rblank_any _ _).mono ?_; rw [hc]; rintro e w' ⟨rfl, rfl⟩)
        go_ret
        exact ⟨ret_int (by rw [HS.out, HN.out]), rfl⟩
    · have HN := Lib.hid (span_end (p := blankB) (l := s.data.toList) (k := j) (by rw [HL.out]; omega))
      have hje : j = s.size := by omega
      go_wp2
      all_goals go_ret
      all_goals exact ⟨ret_int (by rw [HS.out, HN.out]; (try omega)), rfl⟩
theorem rskip_any_out (s : ByteArray) (k : Int) (hs : s.size ≤ maxLen) (hk : k < 0 ∨ (s.size : Int) < k) (w : World) : Calls Tryz.prog 30 #[.string s, .int .i64 k] w fun e w' => e = .returned (.int .i64 k) ∧ w = w' := by
  unfold maxLen at hs
  by_cases h1 : k < 0
  · go_enter Tryz.func30, Tryz.ntmps30
    go_wp2
    all_goals go_ret
    all_goals exact ⟨rfl, rfl⟩
  · go_enter Tryz.func30, Tryz.ntmps30
    go_wp2
    all_goals go_ret
    all_goals exact ⟨rfl, rfl⟩
/-- Is there a byte of a kind at an offset? -/
def atB (p : UInt8 → Bool) (l : List UInt8) (j : Nat) : Bool := match l[j]? with
  | some b => p b
  | none => false
theorem atB_in {p : UInt8 → Bool} {l : List UInt8} {j : Nat} (h : atB p l j = true) : span p l j = span p l (j + 1) ∧ j < l.length := by
  unfold atB at h
  cases hq : l[j]? with
  | none => rw [hq] at h; cases h
  | some b =>
    rw [hq] at h
    exact ⟨span_inq hq h, (List.getElem?_eq_some_iff.1 hq).1⟩
theorem atB_out {p : UInt8 → Bool} {l : List UInt8} {j : Nat} (h : atB p l j = false) : span p l j = j := by
  unfold atB at h
  cases hq : l[j]? with
  | none => exact span_end (List.getElem?_eq_none_iff.1 hq)
  | some b =>
    rw [hq] at h
    exact span_noq hq h
theorem rletter_any (s : ByteArray) (k : Nat) (hs : s.size ≤ maxLen) (w : World) : Calls Tryz.prog 48 #[.string s, .int .i64 k] w fun e w' => e = .returned (.bool (atB letB s.data.toList k)) ∧ w = w' := by
  by_cases h : k < s.size
  · unfold atB
    rw [at_list h rfl]
    exact rletter_in s k hs h _ rfl w
  · unfold atB
    rw [List.getElem?_eq_none (by simp; omega)]
    exact rletter_end s k hs h w
theorem rdigit_any (s : ByteArray) (k : Nat) (hs : s.size ≤ maxLen) (w : World) : Calls Tryz.prog 50 #[.string s, .int .i64 k] w fun e w' => e = .returned (.bool (atB digB s.data.toList k)) ∧ w = w' := by
  by_cases h : k < s.size
  · unfold atB
    rw [at_list h rfl]
    exact rdigit_in s k hs h _ rfl w
  · unfold atB
    rw [List.getElem?_eq_none (by simp; omega)]
    exact rdigit_end s k hs h w
end Go.Proofs.YtgclmnlnbjjgkaaGreatDoor
