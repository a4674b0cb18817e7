/- The contracts of the small functions of the layer utf and of its reference that make no memory. The contract of the reference's Decode; both Decodes at an offset below 0. -/
import Derived.Test.YtgdnkankleoaoaaGreatDoorRows
import Derived.Test.YtgdnkankleoaoaaGreatDoorA03
import Derived.Test.YtgdnkankleoaoaaGreatDoorA01
import Derived.WalkKit
import Derived.Lib.Hide
import Derived.WalkSpells
import Derived.WalkLawsBesides
import Derived.Deep.CutBlock
import Derived.Deep.DeepCutAuto
set_option linter.unusedVariables false
set_option linter.unusedSimpArgs false
namespace Go.Proofs.YtgdnkankleoaoaaGreatDoor
open Go.RowKit
set_option maxHeartbeats 400000 in
theorem isCp (r : Int) (w : World) :
    Calls Tryz.prog 204 #[.int .i64 r] w fun e w' => e = .returned (.bool (cp r)) ∧ w = w' := by
  go_enter Tryz.func204, Tryz.ntmps204
  go_wp2
  all_goals go_ret
  all_goals exact ⟨ret_bool (by unfold cp; simp; omega), rfl⟩

set_option maxHeartbeats 400000 in
theorem size_any (r : Int) (w : World) :
    Calls Tryz.prog 202 #[.int .i64 r] w fun e w' => e = .returned (.int .i64 (sz r)) ∧ w = w' := by
  go_enter Tryz.func202, Tryz.ntmps202
  go_wp2
  all_goals go_ret
  all_goals refine ⟨ret_int ?_, rfl⟩
  all_goals unfold sz cp
  all_goals simp
  all_goals (repeat' split)
  all_goals omega

set_option maxHeartbeats 400000 in
theorem tail_loop (s : ByteArray) (b n l : Nat) (hb : b < 256) (hn : n ≤ 3) (_hl : l ≤ 65536) (hs : s.size ≤ maxLen) (w : World) :
    Calls Tryz.prog 272 #[.string s, .int .i64 b, .int .i64 n, .int .i64 l] w fun e w' => e = .returned (decV (fin n l (tl n b s.data.toList))) ∧ w = w' := by
  unfold maxLen at hs
  by_cases hsz : s.size < n
  · have hx := Lib.hid (tl_short n b s.data.toList (by simpa using hsz))
    go_enter Tryz.func272, Tryz.ntmps272
    go_wp2
    go_ret3
    exact ⟨by rw [hx.out]; rfl, rfl⟩
  · go_enter Tryz.func272, Tryz.ntmps272
    go_wp2
    go_loop [1, 18] (fun t i => ∃ k acc : Nat, k ≤ n ∧ i = .int .i64 k ∧ t = .int .i64 acc ∧ acc < 256 * 64 ^ k ∧ tl n b s.data.toList = tl (n - k) acc (s.data.toList.drop k)) (fun _ i => n - (intOf i).toNat)
    case atStart => exact ⟨0, b, Nat.zero_le _, rfl, rfl, by simpa using hb, rfl⟩
    case round =>
      obtain ⟨k, acc, hk, rfl, rfl, hacc, htl0⟩ := hrel
      have htl := Lib.hid htl0
      clear htl0
      by_cases hlt : k < n
      · have hks : k < s.size := by omega
        have hin : k < s.data.toList.length := by simpa using hks
        have hsp : Hid (tl n b s.data.toList = if 128 ≤ s[k].toNat ∧ s[k].toNat ≤ 191 then tl (n - (k + 1)) (acc * 64 + s[k].toNat % 64) (s.data.toList.drop (k + 1)) else none) := Lib.hid (by
          rw [htl.out, show n - k = n - (k + 1) + 1 from by omega, tl_step _ _ _ k hin]; rfl)
        have ha2 : acc < 16777216 := by
          have : 64 ^ k ≤ 64 ^ 2 := Nat.pow_le_pow_right (by omega) (by omega)
          omega
        have hpw : Hid (64 ^ (k + 1) = 64 ^ k * 64) := Lib.hid (Nat.pow_succ _ _)
        have hor := Lib.hid (or64 acc (s[k].toNat % 64) (by omega) (by omega))
        by_cases hin : 128 ≤ s[k].toNat ∧ s[k].toNat ≤ 191
        · obtain ⟨h1, h2⟩ := hin
          go_wp2
          go_round
          case rel =>
            refine ⟨k + 1, acc * 64 + s[k].toNat % 64, by omega, by go_num, ?_, ?_, ?_⟩
            · rw [← hor.out]; congr 2
            · rw [hpw.out]; omega
            · rw [hsp.out, if_pos ⟨h1, h2⟩]
          case measure => simp [intOf]; omega
        · have hno := Lib.hid (hsp.out.trans (if_neg hin))
          by_cases h1 : s[k].toNat < 128
          all_goals
            have h2 : 191 < s[k].toNat ∨ s[k].toNat < 128 := by omega
            go_wp2
            go_ret3
            exact ⟨by rw [hno.out]; rfl, rfl⟩
      · have hkn : Hid (tl n b s.data.toList = some acc) := Lib.hid (by rw [htl.out, show n - k = 0 from by omega]; rfl)
        have hv : Hid (decV (fin n l (tl n b s.data.toList)) = decV (fin n l (some acc))) := Lib.hid (by rw [hkn.out])
        by_cases hl1 : acc < l
        · have hv2 : Hid (decV (fin n l (some acc)) = .tuple #[.int .i64 0, .int .i64 0, .bool false]) := Lib.hid (by unfold fin; simp only []; rw [if_pos (.inl hl1)]; rfl)
          go_wp2_with (go_at_call 204; refine (isCp _ _).mono ?_; rintro e w' ⟨rfl, rfl⟩)
          go_ret3
          exact ⟨congrArg Ending.returned (hv.out.trans hv2.out).symm, rfl⟩
        · cases hc : cp acc
          · have hv2 : Hid (decV (fin n l (some acc)) = .tuple #[.int .i64 0, .int .i64 0, .bool false]) := Lib.hid (by unfold fin; simp only []; rw [if_pos (.inr hc)]; rfl)
            go_wp2_with (go_at_call 204; refine (isCp _ _).mono ?_; rintro e w' ⟨rfl, rfl⟩)
            go_ret3
            exact ⟨congrArg Ending.returned (hv.out.trans hv2.out).symm, rfl⟩
          · have hv2 : Hid (decV (fin n l (some acc)) = .tuple #[.int .i64 acc, .int .i64 (n + 1), .bool true]) := Lib.hid (by unfold fin; simp only []; rw [if_neg (by simp [hc, hl1])]; rfl)
            go_wp2_with (go_at_call 204; refine (isCp _ _).mono ?_; rintro e w' ⟨rfl, rfl⟩)
            go_ret3
            exact ⟨congrArg Ending.returned (hv.out.trans hv2.out).symm, rfl⟩

theorem drop_extract (s : ByteArray) (k : Nat) : (s.extract k s.size).data.toList = s.data.toList.drop k := by
  obtain ⟨⟨l⟩⟩ := s
  rw [ByteArray.extract_mk]
  simp [ByteArray.size]
  exact List.take_of_length_le (by simp)
theorem wb (b : UInt8) : wrap64 (b.toNat : Int) = (b.toNat : Int) := by
  have := UInt8.toNat_lt b
  exact IntWalk.wrap64_in _ (by omega)
theorem dec_none_of {f : FuncId} {args : Array Value} {w : World} {o : Option (Nat × Nat)} (h : Calls Tryz.prog f args w fun e w' => e = .returned (decV o) ∧ w = w') (ho : o = none) :
    Calls Tryz.prog f args w fun e w' => e = .returned (.tuple #[.int .i64 0, .int .i64 0, .bool false]) ∧ w = w' := by subst ho; exact h
theorem dec_some_of {f : FuncId} {args : Array Value} {w : World} {o : Option (Nat × Nat)} (h : Calls Tryz.prog f args w fun e w' => e = .returned (decV o) ∧ w = w') (r n : Nat) (ho : o = some (r, n)) :
    Calls Tryz.prog f args w fun e w' => e = .returned (.tuple #[.int .i64 r, .int .i64 n, .bool true]) ∧ w = w' := by subst ho; exact h
theorem drop_size (s : ByteArray) (k : Nat) : (s.extract k s.size).size = s.size - k := by
  simp

set_option maxHeartbeats 400000 in
theorem dec_any (s : ByteArray) (k : Nat) (hs : s.size ≤ maxLen) (w : World) :
    Calls Tryz.prog 220 #[.string s, .int .i64 k] w fun e w' => e = .returned (decV (dec (s.data.toList.drop k))) ∧ w = w' := by
  unfold maxLen at hs
  by_cases hk : k < s.size
  · have hin : k < s.data.toList.length := by simpa using hk
    have hd : Hid (dec (s.data.toList.drop k) = dec (s[k] :: s.data.toList.drop (k + 1))) := Lib.hid (by rw [List.drop_eq_getElem_cons hin]; rfl)
    have hb : Hid (s[k].toNat < 256) := Lib.hid (UInt8.toNat_lt _)
    have h31 := Lib.hid (and31 s[k].toNat (by have := hb.out; omega))
    have h15 := Lib.hid (and15 s[k].toNat (by have := hb.out; omega))
    have h7 := Lib.hid (and7 s[k].toNat (by have := hb.out; omega))
    have hdr := Lib.hid (drop_extract s (k + 1))
    have hc := Lib.hid (dec_cons s[k] (s.data.toList.drop (k + 1)))
    go_enter Tryz.func220, Tryz.ntmps220
    have hsz : (s.extract (k + 1) s.size).size ≤ maxLen := by rw [drop_size]; unfold maxLen; omega
    have T1 := Lib.hid (fun (W : World) => tail_loop (s.extract (k + 1) s.size) (s[k].toNat % 32) 1 128 (by omega) (by omega) (by omega) hsz W)
    have T2 := Lib.hid (fun (W : World) => tail_loop (s.extract (k + 1) s.size) (s[k].toNat % 16) 2 2048 (by omega) (by omega) (by omega) hsz W)
    have T3 := Lib.hid (fun (W : World) => tail_loop (s.extract (k + 1) s.size) (s[k].toNat % 8) 3 65536 (by omega) (by omega) (by omega) hsz W)
    rw [hdr.out] at T1 T2 T3
    clear hsz
    go_wp2_with fail
    · simp only [wb] at *
      go_ret3
      have hv : decV (dec (s.data.toList.drop k)) = .tuple #[.int .i64 s[k].toNat, .int .i64 1, .bool true] := by rw [hd.out, hc.out, if_pos (by omega)]; rfl
      exact ⟨congrArg Ending.returned hv.symm, rfl⟩
    · simp only [wb] at *
      go_ret3
      have hv : decV (dec (s.data.toList.drop k)) = .tuple #[.int .i64 0, .int .i64 0, .bool false] := by rw [hd.out, hc.out, if_neg (by omega), if_pos (by omega)]; rfl
      exact ⟨congrArg Ending.returned hv.symm, rfl⟩
    · simp only [wb] at *
      rw [h31.out]
      cases hx : fin 1 128 (tl 1 (s[k].toNat % 32) (s.data.toList.drop (k + 1))) with
      | none =>
        have hX := Lib.hid hx
        clear hx
        have hv : Hid (decV (dec (s.data.toList.drop k)) = .tuple #[.int .i64 0, .int .i64 0, .bool false]) := Lib.hid (by rw [hd.out, hc.out, if_neg (by omega), if_neg (by omega), if_pos (by omega), hX.out]; rfl)
        refine (dec_none_of (T1.out w) hX.out).mono ?_
        rintro e w' ⟨rfl, rfl⟩
        go_wp2
        go_ret3
        exact ⟨congrArg Ending.returned hv.out.symm, rfl⟩
      | some rn =>
        obtain ⟨r, n⟩ := rn
        have hX := Lib.hid hx
        clear hx
        have hv : Hid (decV (dec (s.data.toList.drop k)) = .tuple #[.int .i64 r, .int .i64 n, .bool true]) := Lib.hid (by rw [hd.out, hc.out, if_neg (by omega), if_neg (by omega), if_pos (by omega), hX.out]; rfl)
        refine (dec_some_of (T1.out w) r n hX.out).mono ?_
        rintro e w' ⟨rfl, rfl⟩
        go_wp2
        go_ret3
        exact ⟨congrArg Ending.returned hv.out.symm, rfl⟩
    · simp only [wb] at *
      rw [h15.out]
      cases hx : fin 2 2048 (tl 2 (s[k].toNat % 16) (s.data.toList.drop (k + 1))) with
      | none =>
        have hX := Lib.hid hx
        clear hx
        have hv : Hid (decV (dec (s.data.toList.drop k)) = .tuple #[.int .i64 0, .int .i64 0, .bool false]) := Lib.hid (by rw [hd.out, hc.out, if_neg (by omega), if_neg (by omega), if_neg (by omega), if_pos (by omega), hX.out]; rfl)
        refine (dec_none_of (T2.out w) hX.out).mono ?_
        rintro e w' ⟨rfl, rfl⟩
        go_wp2
        go_ret3
        exact ⟨congrArg Ending.returned hv.out.symm, rfl⟩
      | some rn =>
        obtain ⟨r, n⟩ := rn
        have hX := Lib.hid hx
        clear hx
        have hv : Hid (decV (dec (s.data.toList.drop k)) = .tuple #[.int .i64 r, .int .i64 n, .bool true]) := Lib.hid (by rw [hd.out, hc.out, if_neg (by omega), if_neg (by omega), if_neg (by omega), if_pos (by omega), hX.out]; rfl)
        refine (dec_some_of (T2.out w) r n hX.out).mono ?_
        rintro e w' ⟨rfl, rfl⟩
        go_wp2
        go_ret3
        exact ⟨congrArg Ending.returned hv.out.symm, rfl⟩
    · simp only [wb] at *
      rw [h7.out]
      cases hx : fin 3 65536 (tl 3 (s[k].toNat % 8) (s.data.toList.drop (k + 1))) with
      | none =>
        have hX := Lib.hid hx
        clear hx
        have hv : Hid (decV (dec (s.data.toList.drop k)) = .tuple #[.int .i64 0, .int .i64 0, .bool false]) := Lib.hid (by rw [hd.out, hc.out, if_neg (by omega), if_neg (by omega), if_neg (by omega), if_neg (by omega), if_pos (by omega), hX.out]; rfl)
        refine (dec_none_of (T3.out w) hX.out).mono ?_
        rintro e w' ⟨rfl, rfl⟩
        go_wp2
        go_ret3
        exact ⟨congrArg Ending.returned hv.out.symm, rfl⟩
      | some rn =>
        obtain ⟨r, n⟩ := rn
        have hX := Lib.hid hx
        clear hx
        have hv : Hid (decV (dec (s.data.toList.drop k)) = .tuple #[.int .i64 r, .int .i64 n, .bool true]) := Lib.hid (by rw [hd.out, hc.out, if_neg (by omega), if_neg (by omega), if_neg (by omega), if_neg (by omega), if_pos (by omega), hX.out]; rfl)
        refine (dec_some_of (T3.out w) r n hX.out).mono ?_
        rintro e w' ⟨rfl, rfl⟩
        go_wp2
        go_ret3
        exact ⟨congrArg Ending.returned hv.out.symm, rfl⟩
    · simp only [wb] at *
      go_ret3
      have hv : decV (dec (s.data.toList.drop k)) = .tuple #[.int .i64 0, .int .i64 0, .bool false] := by
        rw [hd.out, hc.out, if_neg (by omega), if_neg (by omega), if_neg (by omega), if_neg (by omega), if_neg (by omega)]; rfl
      exact ⟨congrArg Ending.returned hv.symm, rfl⟩
  · have hd : Hid (decV (dec (s.data.toList.drop k)) = .tuple #[.int .i64 0, .int .i64 0, .bool false]) := Lib.hid (by
      rw [List.drop_eq_nil_of_le (by simp; omega)]; rfl)
    go_enter Tryz.func220, Tryz.ntmps220
    go_wp2
    go_ret3
    exact ⟨congrArg Ending.returned hd.out.symm, rfl⟩
end Go.Proofs.YtgdnkankleoaoaaGreatDoor
namespace Go.Proofs.YtgdnkankleoaoaaGreatDoor
open Go.RowKit
theorem u8_le (b : UInt8) : b.toNat ≤ 255 := by have := UInt8.toNat_lt b; omega
def noDec : Value := .tuple #[.int .i64 0, .int .i64 0, .bool false]
set_option maxRecDepth 100000 in
set_option maxHeartbeats 1000000 in
theorem rdec_in (s : ByteArray) (k : Nat) (hs : s.size ≤ maxLen) (w : World) (hk : k < s.size) (b : UInt8) (hb : s[k] = b) :
    Calls Tryz.prog 201 #[.string s, .int .i64 k] w fun e w' => e = .returned (decV (dec (s.data.toList.drop k))) ∧ w = w' := by
  unfold maxLen at hs
  have hb255 := u8_le b
  have hin : k < s.data.toList.length := by simpa using hk
  have hd : Hid (dec (s.data.toList.drop k) = dec (b :: s.data.toList.drop (k + 1))) := Lib.hid (by rw [List.drop_eq_getElem_cons hin, ← hb]; rfl)
  have h31 := Lib.hid (and31 b.toNat (by omega))
  have h15 := Lib.hid (and15 b.toNat (by omega))
  have h7 := Lib.hid (and7 b.toNat (by omega))
  have hc := Lib.hid (dec_cons b (s.data.toList.drop (k + 1)))
  go_enter Tryz.func201, Tryz.ntmps201
  go_upto_block 0 with fail
  go_cut [8, 9] (fun t8 t9 wx => wx = w ∧ ∃ n r0 : Nat, 2 ≤ n ∧ n ≤ 4 ∧ t8 = .int .i64 n ∧ t9 = .int .i64 r0 ∧ r0 < top n ∧ dec (s.data.toList.drop k) = fin (n - 1) (lst n) (tl (n - 1) r0 (s.data.toList.drop (k + 1))))
  case first =>
    go_wp2_with fail
    · go_ret3
      have hv : decV (dec (s.data.toList.drop k)) = .tuple #[.int .i64 b.toNat, .int .i64 1, .bool true] := by rw [hd.out, hc.out, if_pos (by omega)]; rfl
      exact ⟨congrArg Ending.returned hv.symm, rfl⟩
    · go_meet
      exact ⟨rfl, 2, b.toNat % 32, by omega, by omega, rfl, by rw [← h31.out], by unfold top; simp; omega, by rw [hd.out, hc.out, if_neg (by omega), if_neg (by omega), if_pos (by omega)]; rfl⟩
    · go_meet
      exact ⟨rfl, 3, b.toNat % 16, by omega, by omega, rfl, by rw [← h15.out], by unfold top; simp; omega, by rw [hd.out, hc.out, if_neg (by omega), if_neg (by omega), if_neg (by omega), if_pos (by omega)]; rfl⟩
    · go_meet
      exact ⟨rfl, 4, b.toNat % 8, by omega, by omega, rfl, by rw [← h7.out], by unfold top; simp; omega, by rw [hd.out, hc.out, if_neg (by omega), if_neg (by omega), if_neg (by omega), if_neg (by omega), if_pos (by omega)]; rfl⟩
    · go_ret3
      have hv : decV (dec (s.data.toList.drop k)) = noDec := by rw [hd.out, hc.out, if_neg (by omega), if_neg (by omega), if_neg (by omega), if_neg (by omega), if_neg (by omega)]; rfl
      exact ⟨congrArg Ending.returned hv.symm, rfl⟩
    · go_ret3
      have hv : decV (dec (s.data.toList.drop k)) = noDec := by rw [hd.out, hc.out, if_neg (by omega), if_pos (by omega)]; rfl
      exact ⟨congrArg Ending.returned hv.symm, rfl⟩
  case rest =>
    obtain ⟨rfl, n, r0, hn2, hn4, rfl, rfl, hr0, hdd⟩ := hcut
    have hD := Lib.hid hdd
    clear hdd h31 h15 h7 hc hd hb hb255
    by_cases hlen : s.size - k < n
    · have hz : Hid (decV (dec (s.data.toList.drop k)) = noDec) := Lib.hid (by rw [hD.out, tl_short _ _ _ (by simp; omega)]; rfl)
      go_wp2
      all_goals go_ret3
      all_goals exact ⟨congrArg Ending.returned hz.out.symm, rfl⟩
    · have htop := top_le n
      go_wp2
      go_loop [9, 10] (fun t i => ∃ j acc : Nat, j + 1 ≤ n ∧ i = .int .i64 ((j + 1 : Nat) : Int) ∧ t = .int .i64 acc ∧ acc < 32 * 64 ^ j ∧ tl (n - 1) r0 (s.data.toList.drop (k + 1)) = tl (n - 1 - j) acc (s.data.toList.drop (k + 1 + j))) (fun _ i => n - (intOf i).toNat)
      case atStart => exact ⟨0, r0, by omega, rfl, rfl, by simp; omega, rfl⟩
      case round =>
        obtain ⟨j, acc, hj, rfl, rfl, hacc, htl0⟩ := hrel
        have htl := Lib.hid htl0
        clear htl0
        by_cases hlt : j + 1 < n
        · have hkj : k + (j + 1) < s.size := by omega
          have hin2 : k + 1 + j < s.data.toList.length := by rw [Array.length_toList]; show k + 1 + j < s.size; omega
          obtain ⟨c, hcc⟩ : ∃ c, s[k + (j + 1)] = c := ⟨_, rfl⟩
          have hcl : s.data.toList[k + 1 + j] = c := by
            rw [← hcc]; show s.data.toList[k + 1 + j] = s.data.toList[k + (j + 1)]
            congr 1; omega
          have hc255 := u8_le c
          have hsp : Hid (tl (n - 1) r0 (s.data.toList.drop (k + 1)) = if 128 ≤ c.toNat ∧ c.toNat ≤ 191 then tl (n - 1 - (j + 1)) (acc * 64 + c.toNat % 64) (s.data.toList.drop (k + 1 + (j + 1))) else none) := Lib.hid (by
            rw [htl.out, show n - 1 - j = n - 1 - (j + 1) + 1 from by omega, tl_step _ _ _ _ hin2, hcl]; rfl)
          have ha2 : acc < 16777216 := by
            have : 64 ^ j ≤ 64 ^ 2 := Nat.pow_le_pow_right (by omega) (by omega)
            omega
          have hpw : Hid (64 ^ (j + 1) = 64 ^ j * 64) := Lib.hid (Nat.pow_succ _ _)
          have h63 := Lib.hid (and63 c.toNat (by omega))
          have hor := Lib.hid (or64 acc (c.toNat % 64) (by omega) (by omega))
          clear hcl hin2
          by_cases hcin : 128 ≤ c.toNat ∧ c.toNat < 192
          · obtain ⟨g1, g2⟩ := hcin
            go_wp2
            go_round
            case rel =>
              refine ⟨j + 1, acc * 64 + c.toNat % 64, by omega, by go_num, ?_, ?_, ?_⟩
              · rw [h63.out, ← hor.out]; congr 2
              · rw [hpw.out]; omega
              · rw [hsp.out, if_pos ⟨g1, by omega⟩]
            case measure => simp [intOf]; omega
          · have hno : Hid (decV (dec (s.data.toList.drop k)) = noDec) := Lib.hid (by rw [hD.out, hsp.out, if_neg (by omega)]; rfl)
            by_cases g1 : c.toNat < 128
            all_goals
              have g2 : 192 ≤ c.toNat ∨ c.toNat < 128 := by omega
              go_wp2
              all_goals go_ret3
              all_goals exact ⟨congrArg Ending.returned hno.out.symm, rfl⟩
        · have hacc2 : Hid (tl (n - 1) r0 (s.data.toList.drop (k + 1)) = some acc) := Lib.hid (by rw [htl.out, show n - 1 - j = 0 from by omega]; rfl)
          have hfs := Lib.hid (fin_size n r0 acc _ hn2 hn4 hr0 hacc2.out)
          by_cases hsz : sz acc = n
          · have hv : Hid (decV (dec (s.data.toList.drop k)) = .tuple #[.int .i64 acc, .int .i64 n, .bool true]) := Lib.hid (by rw [hD.out, hacc2.out, hfs.out, if_pos hsz]; rfl)
            have hbq : (((sz acc : Nat) : Int) != ((n : Nat) : Int)) = false := by simp [hsz]
            have HB := Lib.hid hsz
            clear hsz
            go_wp2_with (go_at_call 202; refine (size_any _ _).mono ?_; rintro e w' ⟨rfl, rfl⟩)
            all_goals go_ret3
            all_goals exact ⟨congrArg Ending.returned hv.out.symm, rfl⟩
          · have hv : Hid (decV (dec (s.data.toList.drop k)) = noDec) := Lib.hid (by rw [hD.out, hacc2.out, hfs.out, if_neg hsz]; rfl)
            have hbq : (((sz acc : Nat) : Int) != ((n : Nat) : Int)) = true := by simp; omega
            go_wp2_with (go_at_call 202; refine (size_any _ _).mono ?_; rintro e w' ⟨rfl, rfl⟩)
            all_goals go_ret3
            all_goals exact ⟨congrArg Ending.returned hv.out.symm, rfl⟩
theorem rdec_any (s : ByteArray) (k : Nat) (hs : s.size ≤ maxLen) (w : World) :
    Calls Tryz.prog 201 #[.string s, .int .i64 k] w fun e w' => e = .returned (decV (dec (s.data.toList.drop k))) ∧ w = w' := by
  by_cases hk : k < s.size
  · exact rdec_in s k hs w hk _ rfl
  · unfold maxLen at hs
    have hd : Hid (decV (dec (s.data.toList.drop k)) = .tuple #[.int .i64 0, .int .i64 0, .bool false]) := Lib.hid (by
      rw [List.drop_eq_nil_of_le (by simp; omega)]; rfl)
    go_enter Tryz.func201, Tryz.ntmps201
    go_wp2
    go_ret3
    exact ⟨congrArg Ending.returned hd.out.symm, rfl⟩
end Go.Proofs.YtgdnkankleoaoaaGreatDoor
