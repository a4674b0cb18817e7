/- Blanks and comments: the contracts of lineEnd and skip. -/
import Derived.Test.YtgclmnlnbjjgkaaDoorFa
set_option linter.unusedVariables false
set_option linter.unusedSimpArgs false
namespace Go.Proofs.YtgclmnlnbjjgkaaDoor
open Go.RowKit
theorem index_line : ∀ l : List UInt8, Lib.indexByte l 10 = if (l.takeWhile nolfB).length < l.length then (((l.takeWhile nolfB).length : Nat) : Int) else -1
  | [] => rfl
  | b :: r => by
    have ih := index_line r
    have hle : (r.takeWhile nolfB).length ≤ r.length := (List.takeWhile_sublist _).length_le
    rw [Lib.indexByte, ih, List.takeWhile_cons]
    by_cases h : b = 10
    · subst h
      rw [if_pos (by rfl), if_neg (show ¬ nolfB 10 = true by decide)]
      simp
    · have h2 : nolfB b = true := by
        unfold nolfB
        rw [decide_eq_true_eq]
        intro h3
        exact h (UInt8.toNat_inj.1 h3)
      rw [if_neg (by simpa using h), if_pos h2]
      by_cases h4 : (r.takeWhile nolfB).length < r.length
      · rw [if_pos h4, if_neg (by simp)]
        simp
        omega
      · rw [if_neg h4]
        simp
        omega
set_option maxHeartbeats 1000000 in
theorem line_any (s : ByteArray) (k : Nat) (hs : s.size ≤ maxLen) (hk : k ≤ s.size) (w : World) : Calls Tryd.prog 17 #[.string s, .int .i64 k] w fun e w' => e = .returned (.int .i64 (span nolfB s.data.toList k : Nat)) ∧ w = w' := by
  unfold maxLen at hs
  have hl : s.data.toList.length = s.size := by simp
  have hx := fun W => index_lib (s.extract k s.size) W
  rw [Lib.extract_to_end, index_line, List.length_drop, hl] at hx
  unfold span
  have hle : ((s.data.toList.drop k).takeWhile nolfB).length ≤ s.size - k := by
    have h := (List.takeWhile_sublist (p := nolfB) (l := s.data.toList.drop k)).length_le
    rw [List.length_drop, hl] at h
    exact h
  generalize ((s.data.toList.drop k).takeWhile nolfB).length = n at *
  have HX := Lib.hid hx
  clear hx hl
  by_cases h : n < s.size - k
  · rw [if_pos h] at HX
    go_enter Tryd.func17, Tryd.ntmps17
    go_wp2_with (go_at_call 26; refine (HX.out _).mono ?_; rintro e w' ⟨rfl, rfl⟩)
    all_goals go_ret
    all_goals exact ⟨ret_int (by go_num), rfl⟩
  · rw [if_neg h] at HX
    go_enter Tryd.func17, Tryd.ntmps17
    go_wp2_with (go_at_call 26; refine (HX.out _).mono ?_; rintro e w' ⟨rfl, rfl⟩)
    all_goals go_ret
    all_goals exact ⟨ret_int (by omega), rfl⟩
theorem span_twice (p : UInt8 → Bool) {l : List UInt8} {k : Nat} (hk : k ≤ l.length) : span p l (span p l k) = span p l k := by
  by_cases h : span p l k < l.length
  · exact span_no h (span_stop h)
  · exact span_end (by omega)
/-- The offset j stands behind blanks, and what is behind it is the same gap. -/
def GapAt (l : List UInt8) (k j : Nat) : Prop := gapP l k = gapP l j ∧ span blankB l j = j
theorem GapAt.start {l : List UInt8} {k : Nat} (hk : k ≤ l.length) : GapAt l k (span blankB l k) := ⟨gap_blanks l k, span_twice _ hk⟩
theorem GapAt.next {l : List UInt8} {k j : Nat} {b : UInt8} (h : GapAt l k j) (hb : l[j]? = some b) (h35 : b.toNat = 35) : GapAt l k (span blankB l (span nolfB l j)) ∧ j < span blankB l (span nolfB l j) ∧ span blankB l (span nolfB l j) ≤ l.length := by
  obtain ⟨h1, h2⟩ := List.getElem?_eq_some_iff.1 hb
  have h3 : span nolfB l j ≤ l.length := span_le (Nat.le_of_lt h1)
  have h4 : j < span nolfB l j := by
    rw [span_in h1 (by rw [h2]; unfold nolfB; simp; omega)]
    exact span_ge _ _ _
  have h5 := span_ge blankB l (span nolfB l j)
  exact ⟨⟨h.1.trans ((gap_line hb h35).trans (gap_blanks l _)), span_twice _ h3⟩, by omega, span_le h3⟩
theorem GapAt.stop {l : List UInt8} {k j : Nat} {b : UInt8} (h : GapAt l k j) (hb : l[j]? = some b) (h35 : ¬ b.toNat = 35) : gapP l k = j := by
  obtain ⟨h1, h2⟩ := List.getElem?_eq_some_iff.1 hb
  refine h.1.trans (gap_stop hb h35 ?_)
  cases hq : blankB b with
  | false => rfl
  | true =>
    have h3 := h.2
    rw [span_in h1 (by rw [h2]; exact hq)] at h3
    have := span_ge blankB l (j + 1)
    omega
theorem GapAt.end_ {l : List UInt8} {k j : Nat} (h : GapAt l k j) (hj : j = l.length) : gapP l k = j := by
  rw [h.1, gap_end (by omega), hj]
set_option maxHeartbeats 1000000 in
theorem fskip_any (s : ByteArray) (k : Nat) (hs : s.size ≤ maxLen) (hk : k ≤ s.size) (w : World) : Calls Tryd.prog 12 #[.string s, .int .i64 k] w fun e w' => e = .returned (.int .i64 (gapP s.data.toList k : Nat)) ∧ w = w' := by
  have HSK := Lib.hid (fun j (hj : j ≤ s.size) W => skip_any s j hs hj W)
  have HLN := Lib.hid (fun j (hj : j ≤ s.size) W => line_any s j hs hj W)
  unfold maxLen at hs
  have hl : s.data.toList.length = s.size := by simp
  have HL := Lib.hid hl
  have h0 := GapAt.start (l := s.data.toList) (k := k) (by omega)
  have h0s : span blankB s.data.toList k ≤ s.size := by rw [← hl]; exact span_le (by omega)
  obtain ⟨j0, hj0⟩ : ∃ j, span blankB s.data.toList k = j := ⟨_, rfl⟩
  have HS0 := Lib.hid (HSK.out k hk)
  rw [hj0] at h0 h0s HS0
  have H0 := Lib.hid h0
  clear hl h0 hj0
  go_enter Tryd.func12, Tryd.ntmps12
  go_wp2_with (go_at_call 16; refine (HS0.out _).mono ?_; rintro e w' ⟨rfl, rfl⟩)
  go_loop [1] (fun t => ∃ j : Nat, j ≤ s.size ∧ t = .int .i64 j ∧ Hid (GapAt s.data.toList k j)) (fun t => s.size - (intOf t).toNat)
  case atStart => exact ⟨j0, h0s, rfl, H0⟩
  case round =>
    obtain ⟨j, hj, rfl, HG⟩ := hrel
    by_cases hlt : j < s.size
    · obtain ⟨b, hb⟩ : ∃ b, s[j] = b := ⟨_, rfl⟩
      have HB := Lib.hid (at_list hlt hb)
      by_cases h35 : b.toNat = 35
      · obtain ⟨g1, g2, g3⟩ := HG.out.next HB.out h35
        rw [HL.out] at g3
        have g4 : span nolfB s.data.toList j ≤ s.size := by rw [← HL.out]; exact span_le (by rw [HL.out]; omega)
        have HN1 := Lib.hid (HLN.out j (by omega))
        obtain ⟨m, hm⟩ : ∃ m, span nolfB s.data.toList j = m := ⟨_, rfl⟩
        rw [hm] at g1 g2 g3 g4 HN1
        have HN2 := Lib.hid (HSK.out m g4)
        obtain ⟨j2, hj2⟩ : ∃ j, span blankB s.data.toList m = j := ⟨_, rfl⟩
        rw [hj2] at g1 g2 g3 HN2
        have HG2 := Lib.hid g1
        have q : ((b.toNat : Int) == 35) = true := by rw [beq_iff_eq]; omega
        clear hj2 hm g1 h35
        go_wp2_with (first
          | (go_at_call 17; refine (HN1.out _).mono ?_; rintro e w' ⟨rfl, rfl⟩)
          | (go_at_call 16; refine (HN2.out _).mono ?_; rintro e w' ⟨rfl, rfl⟩))
        go_round
        case rel => exact ⟨j2, g3, rfl, HG2⟩
        case measure => simp [intOf]; omega
      · have HE := Lib.hid (HG.out.stop HB.out h35)
        have q : ((b.toNat : Int) == 35) = false := beq_eq_false_iff_ne.2 (fun h => h35 (by omega))
        clear h35
        go_wp2_with fail
        go_ret
        exact ⟨ret_int (by rw [HE.out]), rfl⟩
    · have HE := Lib.hid (HG.out.end_ (by rw [HL.out]; omega))
      go_wp2
      all_goals go_ret
      all_goals exact ⟨ret_int (by rw [HE.out]), rfl⟩
end Go.Proofs.YtgclmnlnbjjgkaaDoor
