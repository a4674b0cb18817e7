/- The contracts of Skip, of words, and of the reference's digit and letter. -/
import Derived.Test.YtgclmnlnbjjgkaaDoorJl1
import Derived.Deep.Light
set_option linter.unusedVariables false
set_option linter.unusedSimpArgs false
namespace Go.Proofs.YtgclmnlnbjjgkaaDoor
open Go.RowKit
theorem at_list {s : ByteArray} {k : Nat} {b : UInt8} (h : k < s.size) (hb : s[k] = b) : s.data.toList[k]? = some b := by
  have h2 : k < s.data.toList.length := by simpa using h
  rw [List.getElem?_eq_getElem h2, ← hb]; rfl
theorem span_inq {p : UInt8 → Bool} {l : List UInt8} {k : Nat} {b : UInt8} (h : l[k]? = some b) (hp : p b = true) : span p l k = span p l (k + 1) := by
  obtain ⟨h1, rfl⟩ := List.getElem?_eq_some_iff.1 h
  exact span_in h1 hp
theorem span_noq {p : UInt8 → Bool} {l : List UInt8} {k : Nat} {b : UInt8} (h : l[k]? = some b) (hp : p b = false) : span p l k = k := by
  obtain ⟨h1, rfl⟩ := List.getElem?_eq_some_iff.1 h
  exact span_no h1 hp
theorem bytq {l : List UInt8} {k : Nat} {b : UInt8} (h : l[k]? = some b) : byt l k = b.toNat := by unfold byt; rw [h]; rfl
set_option maxHeartbeats 1000000 in
theorem skip_any (s : ByteArray) (k : Nat) (hs : s.size ≤ maxLen) (hk : k ≤ s.size) (w : World) : Calls Tryd.prog 16 #[.string s, .int .i64 k] w fun e w' => e = .returned (.int .i64 (span blankB s.data.toList k : Nat)) ∧ w = w' := by
  unfold maxLen at hs
  have hl : s.data.toList.length = s.size := by simp
  have HL := Lib.hid hl
  clear hl
  have hq1 : decide ((k : Int) < 0) = false := by simp
  have hq2 : decide ((s.size : Int) < (k : Int)) = false := by simp; omega
  have hq3 : decide (s.size < k) = false := by simp; omega
  go_enter Tryd.func16, Tryd.ntmps16
  go_wp2
  go_loop [1] (fun t => ∃ j : Nat, j ≤ s.size ∧ t = .int .i64 j ∧ span blankB s.data.toList k = span blankB s.data.toList j) (fun t => s.size - (intOf t).toNat)
  case atStart => exact ⟨k, hk, rfl, rfl⟩
  case round =>
    obtain ⟨j, hj, rfl, hsp⟩ := hrel
    have HS := Lib.hid hsp
    clear hsp
    by_cases hlt : j < s.size
    · obtain ⟨b, hb⟩ : ∃ b, s[j] = b := ⟨_, rfl⟩
      have H3 := Lib.hid (at_list hlt hb)
      cases hc : blankB b with
      | true =>
        have HN := Lib.hid (span_inq H3.out hc)
        go_wp2_with (go_at_call 25; refine (blank_any _ _).mono ?_; rw [hc]; rintro e w' ⟨rfl, rfl⟩)
        go_round
        case rel => exact ⟨j + 1, by omega, by go_num, HS.out.trans HN.out⟩
        case measure => simp [intOf]; omega
      | false =>
        have HN := Lib.hid (span_noq H3.out hc)
        go_wp2_with (go_at_call 25; refine (blank_any _ _).mono ?_; rw [hc]; rintro e w' ⟨rfl, rfl⟩)
        go_ret
        exact ⟨ret_int (by rw [HS.out, HN.out]), rfl⟩
    · have HN := Lib.hid (span_end (p := blankB) (l := s.data.toList) (k := j) (by rw [HL.out]; omega))
      have hje : j = s.size := by omega
      go_wp2
      all_goals go_ret
      all_goals exact ⟨ret_int (by rw [HS.out, HN.out]; (try omega)), rfl⟩
end Go.Proofs.YtgclmnlnbjjgkaaDoor
