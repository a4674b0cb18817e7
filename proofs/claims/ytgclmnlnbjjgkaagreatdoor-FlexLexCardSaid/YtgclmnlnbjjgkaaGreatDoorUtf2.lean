/- The contract of the reference's Decode; both Decodes at an offset below 0. -/
import Derived.Test.YtgclmnlnbjjgkaaGreatDoorUtf1
import Derived.Lib.Hide
import Derived.Deep.CutBlock
import Derived.Deep.DeepCutAuto
set_option linter.unusedVariables false
set_option linter.unusedSimpArgs false
namespace Go.Proofs.YtgclmnlnbjjgkaaGreatDoor
open Go.RowKit
theorem u8_le (b : UInt8) : b.toNat ≤ 255 := by have := UInt8.toNat_lt b; omega
def noDec : Value := .tuple #[.int .i64 0, .int .i64 0, .bool false]
set_option maxRecDepth 100000 in
set_option maxHeartbeats 1000000 in
theorem rdec_in (s : ByteArray) (k : Nat) (hs : s.size ≤ maxLen) (w : World) (hk : k < s.size) (b : UInt8) (hb : s[k] = b) :
    Calls Tryz.prog 68 #[.string s, .int .i64 k] w fun e w' => e = .returned (decV (dec (s.data.toList.drop k))) ∧ w = w' := by
  unfold maxLen at hs
  have hb255 := u8_le b
  have hin : k < s.data.toList.length := by simpa using hk
  have hd : Hid (dec (s.data.toList.drop k) = dec (b :: s.data.toList.drop (k + 1))) := Lib.hid (by rw [List.drop_eq_getElem_cons hin, ← hb]; rfl)
  have h31 := Lib.hid (and31 b.toNat (by omega))
  have h15 := Lib.hid (and15 b.toNat (by omega))
  have h7 := Lib.hid (and7 b.toNat (by omega))
  have hc := Lib.hid (dec_cons b (s.data.toList.drop (k + 1)))
  go_enter Tryz.func68, Tryz.ntmps68
  go_upto_block 0 with fail
  go_cut [8, 9] (fun t8 t9 wx => wx = w ∧ ∃ n r0 : Nat, 2 ≤ n ∧ n ≤ 4 ∧ t8 = .int .i64 n ∧ t9 = .int .i64 r0 ∧ r0 < top n ∧ dec (s.data.toList.drop k) = fin (n - 1) (lst n) (tl (n - 1) r0 (s.data.toList.drop (k + 1))))
  case first =>
    go_wp2_with fail
    · go_ret3
      have hv : decV (dec (s.data.toList.drop k)) = .tuple #[.int .i64 b.toNat, .int .i64 1, .bool true] := by rw [hd.out, hc.out, if_pos (by omega)]; rfl
      exact ⟨congrArg Ending.returned hv.symm, rfl⟩
    · go_meet
      exact ⟨rfl, 2, b.toNat % 32, by omega, by omega, rfl, by rw [← h31.out], by unfold top; simp; omega, by rw [hd.out, hc.out, if_neg (by omega), if_neg (by omega), if_pos (by omega)]; rfl⟩
    · go_meet
      exact ⟨rfl, 3, b.toNat % 16, by omega, by omega, rfl, by rw [← h15.out], by unfold top; simp; omega, by rw [hd.out, hc.out, if_neg (by omega), if_neg (by omega), if_neg (by omega), if_pos (by omega)]; rfl⟩
    · go_meet
      exact ⟨rfl, 4, b.toNat % 8, by omega, by omega, rfl, by rw [← h7.out], by unfold top; simp; omega, by rw [hd.out, hc.out, if_neg (by omega), if_neg (by omega), if_neg (by omega), if_neg (by omega), if_pos (by omega)]; rfl⟩
    · go_ret3
      have hv : decV (dec (s.data.toList.drop k)) = noDec := by rw [hd.out, hc.out, if_neg (by omega), if_neg (by omega), if_neg (by omega), if_neg (by omega), if_neg (by omega)]; rfl
      exact ⟨congrArg Ending.returned hv.symm, rfl⟩
    · go_ret3
      have hv : decV (dec (s.data.toList.drop k)) = noDec := by rw [hd.out, hc.out, if_neg (by omega), if_pos (by omega)]; rfl
      exact ⟨congrArg Ending.returned hv.symm, rfl⟩
  case rest =>
    obtain ⟨rfl, n, r0, hn2, hn4, rfl, rfl, hr0, hdd⟩ := hcut
    have hD := Lib.hid hdd
    clear hdd h31 h15 h7 hc hd hb hb255
    by_cases hlen : s.size - k < n
    · have hz : Hid (decV (dec (s.data.toList.drop k)) = noDec) := Lib.hid (by rw [hD.out, tl_short _ _ _ (by simp; omega)]; rfl)
      go_wp2
      all_goals go_ret3
      all_goals exact ⟨congrArg Ending.returned hz.out.symm, rfl⟩
    · have htop := top_le n
      go_wp2
      go_loop [9, 10] (fun t i => ∃ j acc : Nat, j + 1 ≤ n ∧ i = .int .i64 ((j + 1 : Nat) : Int) ∧ t = .int .i64 acc ∧ acc < 32 * 64 ^ j ∧ tl (n - 1) r0 (s.data.toList.drop (k + 1)) = tl (n - 1 - j) acc (s.data.toList.drop (k + 1 + j))) (fun _ i => n - (intOf i).toNat)
      case atStart => exact ⟨0, r0, by omega, rfl, rfl, by simp; omega, rfl⟩
      case round =>
        obtain ⟨j, acc, hj, rfl, rfl, hacc, htl0⟩ := hrel
        have htl := Lib.hid htl0
        clear htl0
        by_cases hlt : j + 1 < n
        · have hkj : k + (j + 1) < s.size := by omega
          have hin2 : k + 1 + j < s.data.toList.length := by rw [Array.length_toList]; show k + 1 + j < s.size; omega
          obtain ⟨c, hcc⟩ : ∃ c, s[k + (j + 1)] = c := ⟨_, rfl⟩
          have hcl : s.data.toList[k + 1 + j] = c := by
            rw [← hcc]; show s.data.toList[k + 1 + j] = s.data.toList[k + (j + 1)]
            congr 1; omega
          have hc255 := u8_le c
          have hsp : Hid (tl (n - 1) r0 (s.data.toList.drop (k + 1)) = if 128 ≤ c.toNat ∧ c.toNat ≤ 191 then tl (n - 1 - (j + 1)) (acc * 64 + c.toNat % 64) (s.data.toList.drop (k + 1 + (j + 1))) else none) := Lib.hid (by
            rw [htl.out, show n - 1 - j = n - 1 - (j + 1) + 1 from by omega, tl_step _ _ _ _ hin2, hcl]; rfl)
          have ha2 : acc < 16777216 := by
            have : 64 ^ j ≤ 64 ^ 2 := Nat.pow_le_pow_right (by omega) (by omega)
            omega
          have hpw : Hid (64 ^ (j + 1) = 64 ^ j * 64) := Lib.hid (Nat.pow_succ _ _)
          have h63 := Lib.hid (and63 c.toNat (by omega))
          have hor := Lib.hid (or64 acc (c.toNat % 64) (by omega) (by omega))
          clear hcl hin2
          by_cases hcin : 128 ≤ c.toNat ∧ c.toNat < 192
          · obtain ⟨g1, g2⟩ := hcin
            go_wp2
            go_round
            case rel =>
              refine ⟨j + 1, acc * 64 + c.toNat % 64, by omega, by go_num, ?_, ?_, ?_⟩
              · rw [h63.out, ← hor.out]; congr 2
              · rw [hpw.out]; omega
              · rw [hsp.out, if_pos ⟨g1, by omega⟩]
            case measure => simp [intOf]; omega
          · have hno : Hid (decV (dec (s.data.toList.drop k)) = noDec) := Lib.hid (by rw [hD.out, hsp.out, if_neg (by omega)]; rfl)
            by_cases g1 : c.toNat < 128
            all_goals
              have g2 : 192 ≤ c.toNat ∨ c.toNat < 128 := by omega
              go_wp2
              all_goals go_ret3
              all_goals exact ⟨congrArg Ending.returned hno.out.symm, rfl⟩
        · have hacc2 : Hid (tl (n - 1) r0 (s.data.toList.drop (k + 1)) = some acc) := Lib.hid (by rw [htl.out, show n - 1 - j = 0 from by omega]; rfl)
          have hfs := Lib.hid (fin_size n r0 acc _ hn2 hn4 hr0 hacc2.out)
          by_cases hsz : sz acc = n
          · have hv : Hid (decV (dec (s.data.toList.drop k)) = .tuple #[.int .i64 acc, .int .i64 n, .bool true]) := Lib.hid (by rw [hD.out, hacc2.out, hfs.out, if_pos hsz]; rfl)
            have hbq : (((sz acc : Nat) : Int) != ((n : Nat) : Int)) = false := by simp [hsz]
            have HB := Lib.hid hsz
            clear hsz
            go_wp2_with (go_at_call 80; refine (size_any _ _).mono ?_; rintro e w' ⟨rfl, rfl⟩)
            all_goals go_ret3
            all_goals exact ⟨congrArg Ending.returned hv.out.symm, rfl⟩
          · have hv : Hid (decV (dec (s.data.toList.drop k)) = noDec) := Lib.hid (by rw [hD.out, hacc2.out, hfs.out, if_neg hsz]; rfl)
            have hbq : (((sz acc : Nat) : Int) != ((n : Nat) : Int)) = true := by simp; omega
            go_wp2_with (go_at_call 80; refine (size_any _ _).mono ?_; rintro e w' ⟨rfl, rfl⟩)
            all_goals go_ret3
            all_goals exact ⟨congrArg Ending.returned hv.out.symm, rfl⟩
theorem rdec_any (s : ByteArray) (k : Nat) (hs : s.size ≤ maxLen) (w : World) :
    Calls Tryz.prog 68 #[.string s, .int .i64 k] w fun e w' => e = .returned (decV (dec (s.data.toList.drop k))) ∧ w = w' := by
  by_cases hk : k < s.size
  · exact rdec_in s k hs w hk _ rfl
  · unfold maxLen at hs
    have hd : Hid (decV (dec (s.data.toList.drop k)) = .tuple #[.int .i64 0, .int .i64 0, .bool false]) := Lib.hid (by
      rw [List.drop_eq_nil_of_le (by simp; omega)]; rfl)
    go_enter Tryz.func68, Tryz.ntmps68
    go_wp2
    go_ret3
    exact ⟨congrArg Ending.returned hd.out.symm, rfl⟩
end Go.Proofs.YtgclmnlnbjjgkaaGreatDoor
