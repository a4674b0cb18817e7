/- The contract of the reference's escape. -/
import Derived.Test.YtgclmnlnbjjgkaaGreatDoorRnE
set_option linter.unusedVariables false
set_option linter.unusedSimpArgs false
namespace Go.Proofs.YtgclmnlnbjjgkaaGreatDoor
open Go.RowKit
set_option maxHeartbeats 4000000 in
set_option maxRecDepth 100000 in
theorem resc_any (s : ByteArray) (k : Nat) (hs : s.size ≤ 1048576) (hk : k + 1 ≤ s.size) (w : World) :
    Calls Tryz.prog 66 #[.string s, .int .i64 k] w fun e w' => e = .returned (rescV (escP (s.data.toList.drop (k + 1)))) ∧ Below w.heap.size w w' := by
  have hl : s.data.toList.length = s.size := by simp
  by_cases hlt : k + 1 < s.size
  · obtain ⟨b, hb⟩ : ∃ b, s[k + 1] = b := ⟨_, rfl⟩
    have h2 := at_list hlt hb
    have hd : s.data.toList.drop (k + 1) = b :: s.data.toList.drop (k + 2) := by
      obtain ⟨g, hg⟩ := List.getElem?_eq_some_iff.1 h2
      rw [List.drop_eq_getElem_cons g, hg]
    have HN := Lib.hid (fun (hb : b.toNat = 117) W => runi_any s k hs (by omega) W)
    rw [hd]
    clear h2 hd hl
    have hne : (k : Int) + 1 < (s.size : Int) := by omega
    have hb255 := UInt8.toNat_lt b
    have HX : Hid (escP (b :: s.data.toList.drop (k + 2)) = if b.toNat = 34 ∨ b.toNat = 92 ∨ b.toNat = 47 then .ok b.toNat 2
      else if b.toNat = 98 then .ok 8 2 else if b.toNat = 102 then .ok 12 2 else if b.toNat = 110 then .ok 10 2 else if b.toNat = 114 then .ok 13 2 else if b.toNat = 116 then .ok 9 2
      else if b.toNat = 117 then uniP (s.data.toList.drop (k + 2)) else .bad) := Lib.hid (by rw [escP])
    obtain ⟨x, hx⟩ : ∃ x, uniP (s.data.toList.drop (k + 2)) = x := ⟨_, rfl⟩
    rw [HX.out]
    rw [hx] at HN ⊢
    clear HX hx
    have hcase : (b.toNat = 34 ∨ b.toNat = 92 ∨ b.toNat = 47 ∨ b.toNat = 98 ∨ b.toNat = 102 ∨ b.toNat = 110 ∨ b.toNat = 114 ∨ b.toNat = 116) ∨ b.toNat = 117 ∨ (b.toNat ≠ 34 ∧ b.toNat ≠ 92 ∧ b.toNat ≠ 47 ∧ b.toNat ≠ 98 ∧ b.toNat ≠ 102 ∧ b.toNat ≠ 110 ∧ b.toNat ≠ 114 ∧ b.toNat ≠ 116 ∧ b.toNat ≠ 117) := by omega
    rcases hcase with hc | h | ⟨n1, n2, n3, n4, n5, n6, n7, n8, n9⟩
    · rcases hc with h | h | h | h | h | h | h | h
      all_goals
        rw [h]
        simp only [or_true, true_or, if_true, if_false, Nat.reduceEqDiff, or_self]
        clear HN
        go_enter Tryz.func66, Tryz.ntmps66
        go_wp2_with fail
        go_ret2
        exact ⟨rfl, Below.refl _ _⟩
    · rw [if_neg (by omega), if_neg (by omega), if_neg (by omega), if_neg (by omega), if_neg (by omega), if_neg (by omega), if_pos h]
      have HN2 := Lib.hid (HN.out h)
      clear HN
      cases x with
      | ok r n =>
        simp only [rescV] at HN2 ⊢
        go_enter Tryz.func66, Tryz.ntmps66
        go_wp2_with (go_at_call 79; refine (HN2.out _).mono ?_; rintro e w' ⟨rfl, hb'⟩)
        go_ret2
        exact ⟨rfl, hb'⟩
      | trunc =>
        simp only [rescV] at HN2 ⊢
        go_enter Tryz.func66, Tryz.ntmps66
        go_wp2_with (go_at_call 79; refine (HN2.out _).mono ?_; rintro e w' ⟨rfl, hb'⟩)
        go_ret2
        exact ⟨rfl, hb'⟩
      | bad =>
        simp only [rescV] at HN2 ⊢
        go_enter Tryz.func66, Tryz.ntmps66
        go_wp2_with (go_at_call 79; refine (HN2.out _).mono ?_; rintro e w' ⟨rfl, hb'⟩)
        go_ret2
        exact ⟨rfl, hb'⟩
    · rw [if_neg (by omega), if_neg (by omega), if_neg (by omega), if_neg (by omega), if_neg (by omega), if_neg (by omega), if_neg (by omega)]
      clear HN
      have m1 : ((b.toNat : Int) == 34) = false := beq_eq_false_iff_ne.2 (fun h => n1 (by omega))
      have m2 : ((b.toNat : Int) == 92) = false := beq_eq_false_iff_ne.2 (fun h => n2 (by omega))
      have m3 : ((b.toNat : Int) == 47) = false := beq_eq_false_iff_ne.2 (fun h => n3 (by omega))
      have m4 : ((b.toNat : Int) == 98) = false := beq_eq_false_iff_ne.2 (fun h => n4 (by omega))
      have m5 : ((b.toNat : Int) == 102) = false := beq_eq_false_iff_ne.2 (fun h => n5 (by omega))
      have m6 : ((b.toNat : Int) == 110) = false := beq_eq_false_iff_ne.2 (fun h => n6 (by omega))
      have m7 : ((b.toNat : Int) == 114) = false := beq_eq_false_iff_ne.2 (fun h => n7 (by omega))
      have m8 : ((b.toNat : Int) == 116) = false := beq_eq_false_iff_ne.2 (fun h => n8 (by omega))
      have m9 : ((b.toNat : Int) == 117) = false := beq_eq_false_iff_ne.2 (fun h => n9 (by omega))
      clear n1 n2 n3 n4 n5 n6 n7 n8 n9
      go_enter Tryz.func66, Tryz.ntmps66
      go_wp2_with fail
      go_ret2
      exact ⟨rfl, Below.refl _ _⟩
  · have hd : s.data.toList.drop (k + 1) = [] := List.drop_eq_nil_of_le (by rw [hl]; omega)
    rw [hd]
    have hne : (s.size : Int) ≤ (k : Int) + 1 := by omega
    clear hd hl
    go_enter Tryz.func66, Tryz.ntmps66
    go_wp2_with fail
    go_ret2
    exact ⟨rfl, Below.refl _ _⟩
end Go.Proofs.YtgclmnlnbjjgkaaGreatDoor
