import Derived.Test.YtoleoimmpggldaaGreatDoorRows
import Derived.Test.YtoleoimmpggldaaGreatDoorQA
import Derived.Test.YtoleoimmpggldaaGreatDoorQB
import Derived.WalkKit
import Derived.Lib.Hide
import Derived.WalkSpells
import Derived.WalkLawsBesides
import Derived.Deep.CutBlock
import Derived.Deep.DeepCutAuto
set_option linter.unusedVariables false
set_option linter.unusedSectionVars false
set_option linter.unusedSimpArgs false
set_option maxHeartbeats 1000000
set_option maxRecDepth 100000
namespace Go.Proofs.YtoleoimmpggldaaGreatDoor
open Go.RowKit
theorem isCp (r : Int) (w : World) :
 Calls Tryz.prog 127 #[ι r] w fun e w' => e = .returned (.bool (cp r)) ∧ w = w' := by
 go_enter Tryz.func127, Tryz.ntmps127
 go_wp2
 all_goals go_ret
 all_goals exact ⟨ret_bool (by unfold cp; simp; omega), rfl⟩

theorem tail_any (r : Nat) (hr : r < 4294967296) (w : World) :
 Calls Tryz.prog 134 #[ι r] w fun e w' => e = .returned (.int .u8 ((128 + r % 64 : Nat) : Int)) ∧ w = w' := by
 have h1 := hI (and63 r hr);have h2 := hI (u8or128 (r % 64) (by omega))
 go_enter Tryz.func134, Tryz.ntmps134
 go_wp2
 go_ret
 refine ⟨ret_int ?_, rfl⟩;rw [h1.out, show (((r % 64 : Nat) : Int) % 256) = ((r % 64 : Nat) : Int) from by omega, h2.out]

theorem size_any (r : Int) (w : World) :
 Calls Tryz.prog 101 #[ι r] w fun e w' => e = .returned (ι (sz r)) ∧ w = w' := by
 go_enter Tryz.func101, Tryz.ntmps101
 go_wp2
 all_goals go_ret
 all_goals refine ⟨ret_int ?_, rfl⟩
 all_goals unfold sz cp
 all_goals simp
 all_goals (repeat' split)
 all_goals omega

theorem tail_loop (s : ByteArray) (b n l : Nat) (hb : b < 256) (hn : n ≤ 3) (_hl : l ≤ 65536) (hs : s.size ≤ maxLen) (w : World) :
 Calls Tryz.prog 122 #[.string s, ι b, ι n, ι l] w fun e w' => e = .returned (decV (fin n l (tl n b s.data.toList))) ∧ w = w' := by
 unfold maxLen at hs
 by_cases hsz : s.size < n
 · have hx := hI (tl_short n b s.data.toList (by simpa using hsz))
   go_enter Tryz.func122, Tryz.ntmps122
   go_wp2
   go_ret3
   exact ⟨by rw [hx.out]; rfl, rfl⟩
 · go_enter Tryz.func122, Tryz.ntmps122
   go_wp2
   go_loop [1, 18] (fun t i => ∃ k acc : Nat, k ≤ n ∧ i = ι k ∧ t = ι acc ∧ acc < 256 * 64 ^ k ∧ tl n b s.data.toList = tl (n - k) acc (s.data.toList.drop k)) (fun _ i => n - (intOf i).toNat)
   case atStart => exact ⟨0, b, Nat.zero_le _, rfl, rfl, by simpa using hb, rfl⟩
   case round =>
    obtain ⟨k, acc, hk, rfl, rfl, hacc, htl0⟩ := hrel;have htl := hI htl0;clear htl0
    by_cases hlt : k < n
    · have hks : k < s.size := by omega
      have hin : k < s.data.toList.length := by simpa using hks
      have hsp : Hid (tl n b s.data.toList = if 128 ≤ s[k].toNat ∧ s[k].toNat ≤ 191 then tl (n - (k + 1)) (acc * 64 + s[k].toNat % 64) (s.data.toList.drop (k + 1)) else none) := hI (by
       rw [htl.out, show n - k = n - (k + 1) + 1 from by omega, tl_step _ _ _ k hin]; rfl)
      have ha2 : acc < 16777216 := by
       have : 64 ^ k ≤ 64 ^ 2 := Nat.pow_le_pow_right (by omega) (by omega);omega
      have hpw : Hid (64 ^ (k + 1) = 64 ^ k * 64) := hI (Nat.pow_succ _ _);have hor := hI (or64 acc (s[k].toNat % 64) (by omega) (by omega))
      by_cases hin : 128 ≤ s[k].toNat ∧ s[k].toNat ≤ 191
      · obtain ⟨h1, h2⟩ := hin
        go_wp2
        go_round
        case rel =>
         refine ⟨k + 1, acc * 64 + s[k].toNat % 64, by omega, by go_num, ?_, ?_, ?_⟩
         · rw [← hor.out]; congr 2
         · rw [hpw.out]; omega
         · rw [hsp.out, if_pos ⟨h1, h2⟩]
        case measure => simp [intOf]; omega
      · have hno := hI (hsp.out.trans (if_neg hin))
        by_cases h1 : s[k].toNat < 128
        all_goals
         have h2 : 191 < s[k].toNat ∨ s[k].toNat < 128 := by omega
         go_wp2
         go_ret3
         exact ⟨by rw [hno.out]; rfl, rfl⟩
    · have hkn : Hid (tl n b s.data.toList = some acc) := hI (by rw [htl.out, show n - k = 0 from by omega]; rfl);have hv : Hid (decV (fin n l (tl n b s.data.toList)) = decV (fin n l (some acc))) := hI (by rw [hkn.out])
      by_cases hl1 : acc < l
      · have hv2 : Hid (decV (fin n l (some acc)) = .tuple #[ι 0, ι 0, .bool false]) := hI (by unfold fin; simp only []; rw [if_pos (.inl hl1)]; rfl)
        go_wp2_with (go_at_call 127; refine (isCp _ _).mono ?_; rintro e w' ⟨rfl, rfl⟩)
        go_ret3
        exact ⟨congrArg Ending.returned (hv.out.trans hv2.out).symm, rfl⟩
      · cases hc : cp acc
        · have hv2 : Hid (decV (fin n l (some acc)) = .tuple #[ι 0, ι 0, .bool false]) := hI (by unfold fin; simp only []; rw [if_pos (.inr hc)]; rfl)
          go_wp2_with (go_at_call 127; refine (isCp _ _).mono ?_; rintro e w' ⟨rfl, rfl⟩)
          go_ret3
          exact ⟨congrArg Ending.returned (hv.out.trans hv2.out).symm, rfl⟩
        · have hv2 : Hid (decV (fin n l (some acc)) = .tuple #[ι acc, ι (n + 1), .bool true]) := hI (by unfold fin; simp only []; rw [if_neg (by simp [hc, hl1])]; rfl)
          go_wp2_with (go_at_call 127; refine (isCp _ _).mono ?_; rintro e w' ⟨rfl, rfl⟩)
          go_ret3
          exact ⟨congrArg Ending.returned (hv.out.trans hv2.out).symm, rfl⟩

theorem drop_extract (s : ByteArray) (k : Nat) : (s.extract k s.size).data.toList = s.data.toList.drop k := by
 obtain ⟨⟨l⟩⟩ := s;rw [ByteArray.extract_mk];simp [ByteArray.size];exact List.take_of_length_le (by simp)
theorem wb (b : UInt8) : wrap64 (b.toNat : Int) = (b.toNat : Int) := by
 have := UInt8.toNat_lt b;exact IntWalk.wrap64_in _ (by omega)
theorem dec_none_of {f : FuncId} {args : Array Value} {w : World} {o : Option (Nat × Nat)} (h : Calls Tryz.prog f args w fun e w' => e = .returned (decV o) ∧ w = w') (ho : o = none) :
 Calls Tryz.prog f args w fun e w' => e = .returned (.tuple #[ι 0, ι 0, .bool false]) ∧ w = w' := by subst ho; exact h
theorem dec_some_of {f : FuncId} {args : Array Value} {w : World} {o : Option (Nat × Nat)} (h : Calls Tryz.prog f args w fun e w' => e = .returned (decV o) ∧ w = w') (r n : Nat) (ho : o = some (r, n)) :
 Calls Tryz.prog f args w fun e w' => e = .returned (.tuple #[ι r, ι n, .bool true]) ∧ w = w' := by subst ho; exact h
theorem drop_size (s : ByteArray) (k : Nat) : (s.extract k s.size).size = s.size - k := by
 simp

theorem dec_any (s : ByteArray) (k : Nat) (hs : s.size ≤ maxLen) (w : World) :
 Calls Tryz.prog 111 #[.string s, ι k] w fun e w' => e = .returned (decV (dec (s.data.toList.drop k))) ∧ w = w' := by
 unfold maxLen at hs
 by_cases hk : k < s.size
 · have hin : k < s.data.toList.length := by simpa using hk
   have hd : Hid (dec (s.data.toList.drop k) = dec (s[k] :: s.data.toList.drop (k + 1))) := hI (by rw [List.drop_eq_getElem_cons hin]; rfl);have hb : Hid (s[k].toNat < 256) := hI (UInt8.toNat_lt _);have h31 := hI (and31 s[k].toNat (by have := hb.out; omega));have h15 := hI (and15 s[k].toNat (by have := hb.out; omega));have h7 := hI (and7 s[k].toNat (by have := hb.out; omega));have hdr := hI (drop_extract s (k + 1));have hc := hI (dec_cons s[k] (s.data.toList.drop (k + 1)))
   go_enter Tryz.func111, Tryz.ntmps111
   have hsz : (s.extract (k + 1) s.size).size ≤ maxLen := by rw [drop_size]; unfold maxLen; omega
   have T1 := hI (fun (W : World) => tail_loop (s.extract (k + 1) s.size) (s[k].toNat % 32) 1 128 (by omega) (by omega) (by omega) hsz W);have T2 := hI (fun (W : World) => tail_loop (s.extract (k + 1) s.size) (s[k].toNat % 16) 2 2048 (by omega) (by omega) (by omega) hsz W);have T3 := hI (fun (W : World) => tail_loop (s.extract (k + 1) s.size) (s[k].toNat % 8) 3 65536 (by omega) (by omega) (by omega) hsz W);rw [hdr.out] at T1 T2 T3;clear hsz;go_wp2_with fail
   · simp only [wb] at *
     go_ret3
     have hv : decV (dec (s.data.toList.drop k)) = .tuple #[ι s[k].toNat, ι 1, .bool true] := by rw [hd.out, hc.out, if_pos (by omega)]; rfl
     exact ⟨congrArg Ending.returned hv.symm, rfl⟩
   · simp only [wb] at *
     go_ret3
     have hv : decV (dec (s.data.toList.drop k)) = .tuple #[ι 0, ι 0, .bool false] := by rw [hd.out, hc.out, if_neg (by omega), if_pos (by omega)]; rfl
     exact ⟨congrArg Ending.returned hv.symm, rfl⟩
   · simp only [wb] at *
     rw [h31.out]
     cases hx : fin 1 128 (tl 1 (s[k].toNat % 32) (s.data.toList.drop (k + 1))) with
     | none =>
      have hX := hI hx;clear hx;have hv : Hid (decV (dec (s.data.toList.drop k)) = .tuple #[ι 0, ι 0, .bool false]) := hI (by rw [hd.out, hc.out, if_neg (by omega), if_neg (by omega), if_pos (by omega), hX.out]; rfl);refine (dec_none_of (T1.out w) hX.out).mono ?_;rintro e w' ⟨rfl, rfl⟩
      go_wp2
      go_ret3
      exact ⟨congrArg Ending.returned hv.out.symm, rfl⟩
     | some rn =>
      obtain ⟨r, n⟩ := rn;have hX := hI hx;clear hx;have hv : Hid (decV (dec (s.data.toList.drop k)) = .tuple #[ι r, ι n, .bool true]) := hI (by rw [hd.out, hc.out, if_neg (by omega), if_neg (by omega), if_pos (by omega), hX.out]; rfl);refine (dec_some_of (T1.out w) r n hX.out).mono ?_;rintro e w' ⟨rfl, rfl⟩
      go_wp2
      go_ret3
      exact ⟨congrArg Ending.returned hv.out.symm, rfl⟩
   · simp only [wb] at *
     rw [h15.out]
     cases hx : fin 2 2048 (tl 2 (s[k].toNat % 16) (s.data.toList.drop (k + 1))) with
     | none =>
      have hX := hI hx;clear hx;have hv : Hid (decV (dec (s.data.toList.drop k)) = .tuple #[ι 0, ι 0, .bool false]) := hI (by rw [hd.out, hc.out, if_neg (by omega), if_neg (by omega), if_neg (by omega), if_pos (by omega), hX.out]; rfl);refine (dec_none_of (T2.out w) hX.out).mono ?_;rintro e w' ⟨rfl, rfl⟩
      go_wp2
      go_ret3
      exact ⟨congrArg Ending.returned hv.out.symm, rfl⟩
     | some rn =>
      obtain ⟨r, n⟩ := rn;have hX := hI hx;clear hx;have hv : Hid (decV (dec (s.data.toList.drop k)) = .tuple #[ι r, ι n, .bool true]) := hI (by rw [hd.out, hc.out, if_neg (by omega), if_neg (by omega), if_neg (by omega), if_pos (by omega), hX.out]; rfl);refine (dec_some_of (T2.out w) r n hX.out).mono ?_;rintro e w' ⟨rfl, rfl⟩
      go_wp2
      go_ret3
      exact ⟨congrArg Ending.returned hv.out.symm, rfl⟩
   · simp only [wb] at *
     rw [h7.out]
     cases hx : fin 3 65536 (tl 3 (s[k].toNat % 8) (s.data.toList.drop (k + 1))) with
     | none =>
      have hX := hI hx;clear hx;have hv : Hid (decV (dec (s.data.toList.drop k)) = .tuple #[ι 0, ι 0, .bool false]) := hI (by rw [hd.out, hc.out, if_neg (by omega), if_neg (by omega), if_neg (by omega), if_neg (by omega), if_pos (by omega), hX.out]; rfl);refine (dec_none_of (T3.out w) hX.out).mono ?_;rintro e w' ⟨rfl, rfl⟩
      go_wp2
      go_ret3
      exact ⟨congrArg Ending.returned hv.out.symm, rfl⟩
     | some rn =>
      obtain ⟨r, n⟩ := rn;have hX := hI hx;clear hx;have hv : Hid (decV (dec (s.data.toList.drop k)) = .tuple #[ι r, ι n, .bool true]) := hI (by rw [hd.out, hc.out, if_neg (by omega), if_neg (by omega), if_neg (by omega), if_neg (by omega), if_pos (by omega), hX.out]; rfl);refine (dec_some_of (T3.out w) r n hX.out).mono ?_;rintro e w' ⟨rfl, rfl⟩
      go_wp2
      go_ret3
      exact ⟨congrArg Ending.returned hv.out.symm, rfl⟩
   · simp only [wb] at *
     go_ret3
     have hv : decV (dec (s.data.toList.drop k)) = .tuple #[ι 0, ι 0, .bool false] := by
      rw [hd.out, hc.out, if_neg (by omega), if_neg (by omega), if_neg (by omega), if_neg (by omega), if_neg (by omega)]; rfl
     exact ⟨congrArg Ending.returned hv.symm, rfl⟩
 · have hd : Hid (decV (dec (s.data.toList.drop k)) = .tuple #[ι 0, ι 0, .bool false]) := hI (by
    rw [List.drop_eq_nil_of_le (by simp; omega)]; rfl)
   go_enter Tryz.func111, Tryz.ntmps111
   go_wp2
   go_ret3
   exact ⟨congrArg Ending.returned hd.out.symm, rfl⟩
end Go.Proofs.YtoleoimmpggldaaGreatDoor
namespace Go.Proofs.YtoleoimmpggldaaGreatDoor
open Go.RowKit
theorem u8_le (b : UInt8) : b.toNat ≤ 255 := by have := UInt8.toNat_lt b; omega
def noDec : Value := .tuple #[ι 0, ι 0, .bool false]
theorem rdec_in (s : ByteArray) (k : Nat) (hs : s.size ≤ maxLen) (w : World) (hk : k < s.size) (b : UInt8) (hb : s[k] = b) :
 Calls Tryz.prog 83 #[.string s, ι k] w fun e w' => e = .returned (decV (dec (s.data.toList.drop k))) ∧ w = w' := by
 unfold maxLen at hs;have hb255 := u8_le b;have hin : k < s.data.toList.length := by simpa using hk
 have hd : Hid (dec (s.data.toList.drop k) = dec (b :: s.data.toList.drop (k + 1))) := hI (by rw [List.drop_eq_getElem_cons hin, ← hb]; rfl);have h31 := hI (and31 b.toNat (by omega));have h15 := hI (and15 b.toNat (by omega));have h7 := hI (and7 b.toNat (by omega));have hc := hI (dec_cons b (s.data.toList.drop (k + 1)))
 go_enter Tryz.func83, Tryz.ntmps83
 go_upto_block 0 with fail
 go_cut [8, 9] (fun t8 t9 wx => wx = w ∧ ∃ n r0 : Nat, 2 ≤ n ∧ n ≤ 4 ∧ t8 = ι n ∧ t9 = ι r0 ∧ r0 < top n ∧ dec (s.data.toList.drop k) = fin (n - 1) (lst n) (tl (n - 1) r0 (s.data.toList.drop (k + 1))))
 case first =>
  go_wp2_with fail
  · go_ret3
    have hv : decV (dec (s.data.toList.drop k)) = .tuple #[ι b.toNat, ι 1, .bool true] := by rw [hd.out, hc.out, if_pos (by omega)]; rfl
    exact ⟨congrArg Ending.returned hv.symm, rfl⟩
  · go_meet
    exact ⟨rfl, 2, b.toNat % 32, by omega, by omega, rfl, by rw [← h31.out], by unfold top; simp; omega, by rw [hd.out, hc.out, if_neg (by omega), if_neg (by omega), if_pos (by omega)]; rfl⟩
  · go_meet
    exact ⟨rfl, 3, b.toNat % 16, by omega, by omega, rfl, by rw [← h15.out], by unfold top; simp; omega, by rw [hd.out, hc.out, if_neg (by omega), if_neg (by omega), if_neg (by omega), if_pos (by omega)]; rfl⟩
  · go_meet
    exact ⟨rfl, 4, b.toNat % 8, by omega, by omega, rfl, by rw [← h7.out], by unfold top; simp; omega, by rw [hd.out, hc.out, if_neg (by omega), if_neg (by omega), if_neg (by omega), if_neg (by omega), if_pos (by omega)]; rfl⟩
  · go_ret3
    have hv : decV (dec (s.data.toList.drop k)) = noDec := by rw [hd.out, hc.out, if_neg (by omega), if_neg (by omega), if_neg (by omega), if_neg (by omega), if_neg (by omega)]; rfl
    exact ⟨congrArg Ending.returned hv.symm, rfl⟩
  · go_ret3
    have hv : decV (dec (s.data.toList.drop k)) = noDec := by rw [hd.out, hc.out, if_neg (by omega), if_pos (by omega)]; rfl
    exact ⟨congrArg Ending.returned hv.symm, rfl⟩
 case rest =>
  obtain ⟨rfl, n, r0, hn2, hn4, rfl, rfl, hr0, hdd⟩ := hcut;have hD := hI hdd;clear hdd h31 h15 h7 hc hd hb hb255
  by_cases hlen : s.size - k < n
  · have hz : Hid (decV (dec (s.data.toList.drop k)) = noDec) := hI (by rw [hD.out, tl_short _ _ _ (by simp; omega)]; rfl)
    go_wp2
    all_goals go_ret3
    all_goals exact ⟨congrArg Ending.returned hz.out.symm, rfl⟩
  · have htop := top_le n
    go_wp2
    go_loop [9, 10] (fun t i => ∃ j acc : Nat, j + 1 ≤ n ∧ i = ι ((j + 1 : Nat) : Int) ∧ t = ι acc ∧ acc < 32 * 64 ^ j ∧ tl (n - 1) r0 (s.data.toList.drop (k + 1)) = tl (n - 1 - j) acc (s.data.toList.drop (k + 1 + j))) (fun _ i => n - (intOf i).toNat)
    case atStart => exact ⟨0, r0, by omega, rfl, rfl, by simp; omega, rfl⟩
    case round =>
     obtain ⟨j, acc, hj, rfl, rfl, hacc, htl0⟩ := hrel;have htl := hI htl0;clear htl0
     by_cases hlt : j + 1 < n
     · have hkj : k + (j + 1) < s.size := by omega
       have hin2 : k + 1 + j < s.data.toList.length := by rw [Array.length_toList]; show k + 1 + j < s.size; omega
       obtain ⟨c, hcc⟩ : ∃ c, s[k + (j + 1)] = c := ⟨_, rfl⟩
       have hcl : s.data.toList[k + 1 + j] = c := by
        rw [← hcc]; show s.data.toList[k + 1 + j] = s.data.toList[k + (j + 1)]
        congr 1; omega
       have hc255 := u8_le c;have hsp : Hid (tl (n - 1) r0 (s.data.toList.drop (k + 1)) = if 128 ≤ c.toNat ∧ c.toNat ≤ 191 then tl (n - 1 - (j + 1)) (acc * 64 + c.toNat % 64) (s.data.toList.drop (k + 1 + (j + 1))) else none) := hI (by
        rw [htl.out, show n - 1 - j = n - 1 - (j + 1) + 1 from by omega, tl_step _ _ _ _ hin2, hcl]; rfl)
       have ha2 : acc < 16777216 := by
        have : 64 ^ j ≤ 64 ^ 2 := Nat.pow_le_pow_right (by omega) (by omega);omega
       have hpw : Hid (64 ^ (j + 1) = 64 ^ j * 64) := hI (Nat.pow_succ _ _);have h63 := hI (and63 c.toNat (by omega));have hor := hI (or64 acc (c.toNat % 64) (by omega) (by omega));clear hcl hin2
       by_cases hcin : 128 ≤ c.toNat ∧ c.toNat < 192
       · obtain ⟨g1, g2⟩ := hcin
         go_wp2
         go_round
         case rel =>
          refine ⟨j + 1, acc * 64 + c.toNat % 64, by omega, by go_num, ?_, ?_, ?_⟩
          · rw [h63.out, ← hor.out]; congr 2
          · rw [hpw.out]; omega
          · rw [hsp.out, if_pos ⟨g1, by omega⟩]
         case measure => simp [intOf]; omega
       · have hno : Hid (decV (dec (s.data.toList.drop k)) = noDec) := hI (by rw [hD.out, hsp.out, if_neg (by omega)]; rfl)
         by_cases g1 : c.toNat < 128
         all_goals
          have g2 : 192 ≤ c.toNat ∨ c.toNat < 128 := by omega
          go_wp2
          all_goals go_ret3
          all_goals exact ⟨congrArg Ending.returned hno.out.symm, rfl⟩
     · have hacc2 : Hid (tl (n - 1) r0 (s.data.toList.drop (k + 1)) = some acc) := hI (by rw [htl.out, show n - 1 - j = 0 from by omega]; rfl);have hfs := hI (fin_size n r0 acc _ hn2 hn4 hr0 hacc2.out)
       by_cases hsz : sz acc = n
       · have hv : Hid (decV (dec (s.data.toList.drop k)) = .tuple #[ι acc, ι n, .bool true]) := hI (by rw [hD.out, hacc2.out, hfs.out, if_pos hsz]; rfl);have hbq : (((sz acc : Nat) : Int) != ((n : Nat) : Int)) = false := by simp [hsz]
         have HB := hI hsz;clear hsz
         go_wp2_with (go_at_call 101; refine (size_any _ _).mono ?_; rintro e w' ⟨rfl, rfl⟩)
         all_goals go_ret3
         all_goals exact ⟨congrArg Ending.returned hv.out.symm, rfl⟩
       · have hv : Hid (decV (dec (s.data.toList.drop k)) = noDec) := hI (by rw [hD.out, hacc2.out, hfs.out, if_neg hsz]; rfl);have hbq : (((sz acc : Nat) : Int) != ((n : Nat) : Int)) = true := by simp; omega
         go_wp2_with (go_at_call 101; refine (size_any _ _).mono ?_; rintro e w' ⟨rfl, rfl⟩)
         all_goals go_ret3
         all_goals exact ⟨congrArg Ending.returned hv.out.symm, rfl⟩
theorem rdec_any (s : ByteArray) (k : Nat) (hs : s.size ≤ maxLen) (w : World) :
 Calls Tryz.prog 83 #[.string s, ι k] w fun e w' => e = .returned (decV (dec (s.data.toList.drop k))) ∧ w = w' := by
 by_cases hk : k < s.size
 · exact rdec_in s k hs w hk _ rfl
 · unfold maxLen at hs;have hd : Hid (decV (dec (s.data.toList.drop k)) = .tuple #[ι 0, ι 0, .bool false]) := hI (by
    rw [List.drop_eq_nil_of_le (by simp; omega)]; rfl)
   go_enter Tryz.func83, Tryz.ntmps83
   go_wp2
   go_ret3
   exact ⟨congrArg Ending.returned hd.out.symm, rfl⟩
end Go.Proofs.YtoleoimmpggldaaGreatDoor
namespace Go.Proofs.YtoleoimmpggldaaGreatDoor
open Go.RowKit
theorem inf_u8 : (Tryz.prog.info? 5).map (fun i => (i.zero, i.size, i.bytes)) = some (some (.int .u8 0), 1, 1) := by kernel_rfl
def bv (l : List UInt8) : List Value := l.map fun b => Value.int .u8 (b.toNat : Int)
theorem bv_append (l m : List UInt8) : bv (l ++ m) = bv l ++ bv m := by simp [bv]
theorem bv_length (l : List UInt8) : (bv l).length = l.length := by simp [bv]
theorem bv_one (l : List UInt8) : ∀ u ∈ bv l, u.oneCell' = true := by
 intro u hu; simp only [bv, List.mem_map] at hu; obtain ⟨b, _, rfl⟩ := hu; rfl
theorem tail_z (z : Int) (h0 : 0 ≤ z) (h1 : z < 4294967296) (w : World) :
 Calls Tryz.prog 134 #[ι z] w fun e w' => e = .returned (.int .u8 (128 + z % 64)) ∧ w = w' := by
 obtain ⟨r, rfl⟩ := Int.eq_ofNat_of_zero_le h0;have h := tail_any r (by omega) w;rw [show ((128 + r % 64 : Nat) : Int) = 128 + (r : Int) % 64 from by omega] at h;exact h
theorem u8v {n : Nat} {z : Int} (h : n < 256) (hz : z = n) : Value.int .u8 z = Value.int .u8 ((UInt8.ofNat n).toNat : Int) := by
 rw [toNat_ofNat h, hz]
theorem new_cells (w : World) (t : TypeId) (l : List Value) : ∀ (j : Nat) (u : Value), l[j]? = some u → (w.alloc (.cells l.toArray t)).cell? ((⟨w.heap.size, 0, none⟩ : Addr).add j) = some u := by
 intro j u hj;have h1 : (w.alloc (.cells l.toArray t)).heap[w.heap.size]? = some (.cells l.toArray t) := by
  exact (MapKept.heap_alloc w _).1
 have h2 := cell_of_row (w.alloc (.cells l.toArray t)) w.heap.size j l.toArray t (0, 0) h1;have h3 : ((⟨w.heap.size, 0, none⟩ : Addr).add j) = ⟨w.heap.size, j, none⟩ := by
  unfold Addr.add
  by_cases h : j = 0 <;> simp [h]
 rw [h3, h2]
 simpa using hj
def AppPost (B : Nat) (base : Nat) (n : Nat) (xs : List Value) (w : World) (e : Ending) (w' : World) : Prop :=
 ∃ v', e = .returned v' ∧ w'.ownsRow base 5 1 v' n xs ∧ Below B w w' 
theorem AppPost.mk {B base n : Nat} {xs : List Value} {w w' : World} {e : Ending} {v' : Value} (he : e = .returned v') (ho : w'.ownsRow base 5 1 v' n xs) (hb : Below B w w') : AppPost B base n xs w e w' := ⟨v', he, ho, hb⟩
theorem app_1 (sl : Value) (r : Int) (h0 : 0 ≤ r) (h1 : r < 128) (w : World) (base n : Nat) (xs : List Value) (hown : w.ownsRow base 5 1 sl n xs) (hn : n ≤ 4294967296) (hB : base ≤ w.heap.size) :
 Calls Tryz.prog 128 #[sl, ι r] w fun e w' => AppPost base base (n + (enc r.toNat).length) (xs ++ bv (enc r.toNat)) w e w' := by
 have he : enc r.toNat = [UInt8.ofNat r.toNat] := by
  unfold enc; rw [if_pos (by omega)]
 have hl : Hid (([.int .u8 (r)] : List Value) = bv (enc r.toNat)) := hI (by
  rw [he];simp only [bv, List.map_cons, List.map_nil];rw [u8v (n := r.toNat) (z := r) (by omega) (by omega)])
 have hk : Hid ((enc r.toNat).length = 1) := hI (by rw [he]; rfl);clear he;obtain ⟨i0, hi, hz0, hz1, hz2⟩ := info_parts inf_u8;have HO := hI hown;clear hown
 go_enter Tryz.func128, Tryz.ntmps128
 go_wp2_with (first
  | (go_at_call 134; refine (tail_z _ (by omega) (by omega) _).mono ?_; rintro e w' ⟨rfl, rfl⟩)
  | (at_builtin; refine wpList_append_own _ rfl _ _ 93 rfl base 5 i0 (.int .u8 0) 1 1 Tryz.underlying93 hi hz0 hz1 hz2 rfl (by decide) _ _ _ rfl (HO.out.alloc _) ⟨w.heap.size, 0, none⟩ 1 1 [.int .u8 (r)] rfl rfl (new_cells w 5 [.int .u8 (r)]) ?c2 ?c3 ?c4 ?c5 ?_))
 case c2 => rw [hl.out]; exact bv_one _
 case c3 => unfold maxLen; omega
 case c4 => omega
 case c5 => simp; omega
 intro v' w1 hown' hgrow _;have hb : Below base w w1 := ((Below.refl base w).alloc hB _).grown hgrow (by simp; omega) (fun j hj => (HO.out.lt j hj).1);rw [hl.out] at hown';clear hgrow;have HO2 := hI hown';have HB := hI hb;clear hown' hb
 go_wp2
 go_ret
 rw [hk.out];exact AppPost.mk rfl HO2.out HB.out
theorem app_2 (sl : Value) (r : Int) (h1 : 128 ≤ r) (h2 : r < 2048) (w : World) (base n : Nat) (xs : List Value) (hown : w.ownsRow base 5 1 sl n xs) (hn : n ≤ 4294967296) (hB : base ≤ w.heap.size) :
 Calls Tryz.prog 128 #[sl, ι r] w fun e w' => AppPost base base (n + (enc r.toNat).length) (xs ++ bv (enc r.toNat)) w e w' := by
 have he : enc r.toNat = [UInt8.ofNat (192 + r.toNat / 64), UInt8.ofNat (128 + r.toNat % 64)] := by
  unfold enc; rw [if_neg (by omega), if_pos (by omega)]
 have hl : Hid (([.int .u8 (192 + r / 64), .int .u8 (128 + r % 64)] : List Value) = bv (enc r.toNat)) := hI (by
  rw [he];simp only [bv, List.map_cons, List.map_nil];rw [u8v (n := 192 + r.toNat / 64) (z := 192 + r / 64) (by omega) (by omega), u8v (n := 128 + r.toNat % 64) (z := 128 + r % 64) (by omega) (by omega)])
 have hk : Hid ((enc r.toNat).length = 2) := hI (by rw [he]; rfl);clear he;obtain ⟨i0, hi, hz0, hz1, hz2⟩ := info_parts inf_u8;have HO := hI hown;clear hown
 go_enter Tryz.func128, Tryz.ntmps128
 go_wp2_with (first
  | (go_at_call 134; refine (tail_z _ (by omega) (by omega) _).mono ?_; rintro e w' ⟨rfl, rfl⟩)
  | (at_builtin; refine wpList_append_own _ rfl _ _ 93 rfl base 5 i0 (.int .u8 0) 1 1 Tryz.underlying93 hi hz0 hz1 hz2 rfl (by decide) _ _ _ rfl (HO.out.alloc _) ⟨w.heap.size, 0, none⟩ 2 2 [.int .u8 (192 + r / 64), .int .u8 (128 + r % 64)] rfl rfl (new_cells w 5 [.int .u8 (192 + r / 64), .int .u8 (128 + r % 64)]) ?c2 ?c3 ?c4 ?c5 ?_))
 case c2 => rw [hl.out]; exact bv_one _
 case c3 => unfold maxLen; omega
 case c4 => omega
 case c5 => simp; omega
 intro v' w1 hown' hgrow _;have hb : Below base w w1 := ((Below.refl base w).alloc hB _).grown hgrow (by simp; omega) (fun j hj => (HO.out.lt j hj).1);rw [hl.out] at hown';clear hgrow;have HO2 := hI hown';have HB := hI hb;clear hown' hb
 go_wp2
 go_ret
 rw [hk.out];exact AppPost.mk rfl HO2.out HB.out
theorem app_3 (sl : Value) (r : Int) (h2 : 2048 ≤ r) (h3 : r < 65536) (w : World) (base n : Nat) (xs : List Value) (hown : w.ownsRow base 5 1 sl n xs) (hn : n ≤ 4294967296) (hB : base ≤ w.heap.size) :
 Calls Tryz.prog 128 #[sl, ι r] w fun e w' => AppPost base base (n + (enc r.toNat).length) (xs ++ bv (enc r.toNat)) w e w' := by
 have he : enc r.toNat = [UInt8.ofNat (224 + r.toNat / 4096), UInt8.ofNat (128 + r.toNat / 64 % 64), UInt8.ofNat (128 + r.toNat % 64)] := by
  unfold enc; rw [if_neg (by omega), if_neg (by omega), if_pos (by omega)]
 have hl : Hid (([.int .u8 (224 + r / 4096), .int .u8 (128 + r / 64 % 64), .int .u8 (128 + r % 64)] : List Value) = bv (enc r.toNat)) := hI (by
  rw [he];simp only [bv, List.map_cons, List.map_nil];rw [u8v (n := 224 + r.toNat / 4096) (z := 224 + r / 4096) (by omega) (by omega), u8v (n := 128 + r.toNat / 64 % 64) (z := 128 + r / 64 % 64) (by omega) (by omega), u8v (n := 128 + r.toNat % 64) (z := 128 + r % 64) (by omega) (by omega)])
 have hk : Hid ((enc r.toNat).length = 3) := hI (by rw [he]; rfl);clear he;obtain ⟨i0, hi, hz0, hz1, hz2⟩ := info_parts inf_u8;have HO := hI hown;clear hown
 go_enter Tryz.func128, Tryz.ntmps128
 go_wp2_with (first
  | (go_at_call 134; refine (tail_z _ (by omega) (by omega) _).mono ?_; rintro e w' ⟨rfl, rfl⟩)
  | (at_builtin; refine wpList_append_own _ rfl _ _ 93 rfl base 5 i0 (.int .u8 0) 1 1 Tryz.underlying93 hi hz0 hz1 hz2 rfl (by decide) _ _ _ rfl (HO.out.alloc _) ⟨w.heap.size, 0, none⟩ 3 3 [.int .u8 (224 + r / 4096), .int .u8 (128 + r / 64 % 64), .int .u8 (128 + r % 64)] rfl rfl (new_cells w 5 [.int .u8 (224 + r / 4096), .int .u8 (128 + r / 64 % 64), .int .u8 (128 + r % 64)]) ?c2 ?c3 ?c4 ?c5 ?_))
 case c2 => rw [hl.out]; exact bv_one _
 case c3 => unfold maxLen; omega
 case c4 => omega
 case c5 => simp; omega
 intro v' w1 hown' hgrow _;have hb : Below base w w1 := ((Below.refl base w).alloc hB _).grown hgrow (by simp; omega) (fun j hj => (HO.out.lt j hj).1);rw [hl.out] at hown';clear hgrow;have HO2 := hI hown';have HB := hI hb;clear hown' hb
 go_wp2
 go_ret
 rw [hk.out];exact AppPost.mk rfl HO2.out HB.out
theorem app_4 (sl : Value) (r : Int) (h3 : 65536 ≤ r) (hr : r ≤ 1114111) (w : World) (base n : Nat) (xs : List Value) (hown : w.ownsRow base 5 1 sl n xs) (hn : n ≤ 4294967296) (hB : base ≤ w.heap.size) :
 Calls Tryz.prog 128 #[sl, ι r] w fun e w' => AppPost base base (n + (enc r.toNat).length) (xs ++ bv (enc r.toNat)) w e w' := by
 have he : enc r.toNat = [UInt8.ofNat (240 + r.toNat / 262144), UInt8.ofNat (128 + r.toNat / 4096 % 64), UInt8.ofNat (128 + r.toNat / 64 % 64), UInt8.ofNat (128 + r.toNat % 64)] := by
  unfold enc; rw [if_neg (by omega), if_neg (by omega), if_neg (by omega)]
 have hl : Hid (([.int .u8 (240 + r / 262144), .int .u8 (128 + r / 4096 % 64), .int .u8 (128 + r / 64 % 64), .int .u8 (128 + r % 64)] : List Value) = bv (enc r.toNat)) := hI (by
  rw [he];simp only [bv, List.map_cons, List.map_nil];rw [u8v (n := 240 + r.toNat / 262144) (z := 240 + r / 262144) (by omega) (by omega), u8v (n := 128 + r.toNat / 4096 % 64) (z := 128 + r / 4096 % 64) (by omega) (by omega), u8v (n := 128 + r.toNat / 64 % 64) (z := 128 + r / 64 % 64) (by omega) (by omega), u8v (n := 128 + r.toNat % 64) (z := 128 + r % 64) (by omega) (by omega)])
 have hk : Hid ((enc r.toNat).length = 4) := hI (by rw [he]; rfl);clear he;obtain ⟨i0, hi, hz0, hz1, hz2⟩ := info_parts inf_u8;have HO := hI hown;clear hown
 go_enter Tryz.func128, Tryz.ntmps128
 go_wp2_with (first
  | (go_at_call 134; refine (tail_z _ (by omega) (by omega) _).mono ?_; rintro e w' ⟨rfl, rfl⟩)
  | (at_builtin; refine wpList_append_own _ rfl _ _ 93 rfl base 5 i0 (.int .u8 0) 1 1 Tryz.underlying93 hi hz0 hz1 hz2 rfl (by decide) _ _ _ rfl (HO.out.alloc _) ⟨w.heap.size, 0, none⟩ 4 4 [.int .u8 (240 + r / 262144), .int .u8 (128 + r / 4096 % 64), .int .u8 (128 + r / 64 % 64), .int .u8 (128 + r % 64)] rfl rfl (new_cells w 5 [.int .u8 (240 + r / 262144), .int .u8 (128 + r / 4096 % 64), .int .u8 (128 + r / 64 % 64), .int .u8 (128 + r % 64)]) ?c2 ?c3 ?c4 ?c5 ?_))
 case c2 => rw [hl.out]; exact bv_one _
 case c3 => unfold maxLen; omega
 case c4 => omega
 case c5 => simp; omega
 intro v' w1 hown' hgrow _;have hb : Below base w w1 := ((Below.refl base w).alloc hB _).grown hgrow (by simp; omega) (fun j hj => (HO.out.lt j hj).1);rw [hl.out] at hown';clear hgrow;have HO2 := hI hown';have HB := hI hb;clear hown' hb
 go_wp2
 go_ret
 rw [hk.out];exact AppPost.mk rfl HO2.out HB.out
theorem app_any (sl : Value) (r : Int) (h0 : 0 ≤ r) (hr : r ≤ 1114111) (w : World) (base n : Nat) (xs : List Value) (hown : w.ownsRow base 5 1 sl n xs) (hn : n ≤ 4294967296) (hB : base ≤ w.heap.size) :
 Calls Tryz.prog 128 #[sl, ι r] w fun e w' => AppPost base base (n + (enc r.toNat).length) (xs ++ bv (enc r.toNat)) w e w' := by
 by_cases h1 : r < 128
 · exact app_1 sl r h0 h1 w base n xs hown hn hB
 by_cases h2 : r < 2048
 · exact app_2 sl r (by omega) h2 w base n xs hown hn hB
 by_cases h3 : r < 65536
 · exact app_3 sl r (by omega) h3 w base n xs hown hn hB
 · exact app_4 sl r (by omega) hr w base n xs hown hn hB
end Go.Proofs.YtoleoimmpggldaaGreatDoor
namespace Go.Proofs.YtoleoimmpggldaaGreatDoor
open Go.RowKit
theorem conv_nil {P : Program} (w : World) (src dst e : TypeId) (c : Nat) (hs : P.underlying src = some (.slice e)) (he : P.underlying e = some (.int .u8)) (hd : P.underlying dst = some .string) :
 (convert src dst (.slice none 0 c)).run P w = .ok eS w := by
 rw [run_convert_bytes_string w src dst e none 0 c hs he hd];simp [Conv.bytesToString]; rfl
theorem conv_rd {P : Program} {w : World} {B : Nat} {A : Option Addr} {l : List UInt8} (h : Rd w B A (bv l)) (src dst e : TypeId) (c : Nat) (hs : P.underlying src = some (.slice e)) (he : P.underlying e = some (.int .u8)) (hd : P.underlying dst = some .string) :
 (convert src dst (.slice A l.length c)).run P w = .ok (.string ⟨l.toArray⟩) w := by
 cases A with
 | none =>
  cases l with
  | nil => exact conv_nil w src dst e c hs he hd
  | cons b t => obtain ⟨b1, o, h1, _⟩ := h 0 (.int .u8 b.toNat) (by simp [bv]); cases h1
 | some a =>
  refine run_convert_bytes_back w src dst e a c l hs he hd fun j hj => ?_
  obtain ⟨b, o, h1, _, h2⟩ := h j (.int .u8 l[j].toNat) (by simp [bv, hj]);injection h1 with h1
  subst h1;have h3 : ((⟨b, o, none⟩ : Addr).add j) = ⟨b, o + j, none⟩ := by
   unfold Addr.add
   by_cases h : j = 0 <;> simp [h]
  rw [h3, h2]
theorem conv_own {w : World} {base n : Nat} {v : Value} {l : List UInt8} (h : w.ownsRow base 5 1 v n (bv l)) : (convert 93 9 v).run Tryz.prog w = .ok (.string ⟨l.toArray⟩) w := by
 obtain ⟨A, c, rfl, hl, hr⟩ := own_slice h;rw [bv_length] at hl;subst hl;exact conv_rd hr _ _ 5 c Tryz.underlying93 Tryz.underlying5 Tryz.underlying9
def pre (zs : List Int) (k : Nat) : List UInt8 := encs ((zs.take k).map Int.toNat)
theorem cp_range_int {z : Int} (h : cp z = true) : 0 ≤ z ∧ z ≤ 1114111 := by
 unfold cp at h; simp at h; omega
end Go.Proofs.YtoleoimmpggldaaGreatDoor
namespace Go.Proofs.YtoleoimmpggldaaGreatDoor
open Go.RowKit
theorem zand63 (z : Int) (h0 : 0 ≤ z) (h1 : z < 4294967296) : bits .and .i64 z 63 = z % 64 := by
 obtain ⟨r, rfl⟩ := Int.eq_ofNat_of_zero_le h0;rw [and63 r (by omega)]; omega
theorem zor (k a : Nat) (z : Int) (hk : k ≤ 8) (ha : a < 256) (h0 : 0 ≤ z) (h1 : z < ((2 ^ k : Nat) : Int)) : bits .or .i64 ((2 ^ k * a : Nat) : Int) z = ((2 ^ k * a : Nat) : Int) + z := by
 obtain ⟨r, rfl⟩ := Int.eq_ofNat_of_zero_le h0;rw [i64or k a r hk ha (by omega)]; omega
theorem zor192 (z : Int) (h0 : 0 ≤ z) (h1 : z < 64) : bits .or .i64 192 z = 192 + z := zor 6 3 z (by omega) (by omega) h0 h1
theorem zor224 (z : Int) (h0 : 0 ≤ z) (h1 : z < 32) : bits .or .i64 224 z = 224 + z := zor 5 7 z (by omega) (by omega) h0 h1
theorem zor240 (z : Int) (h0 : 0 ≤ z) (h1 : z < 16) : bits .or .i64 240 z = 240 + z := zor 4 15 z (by omega) (by omega) h0 h1
theorem zor128 (z : Int) (h0 : 0 ≤ z) (h1 : z < 128) : bits .or .i64 128 z = 128 + z := zor 7 1 z (by omega) (by omega) h0 h1
def EncPost (z : Int) (w : World) (e : Ending) (w' : World) : Prop :=
 match cp z with
 | false => e = .returned (.tuple #[nL, .bool false]) ∧ w = w'
 | true => e = .returned (.tuple #[.slice (some ⟨w.heap.size, 0, none⟩) (enc z.toNat).length (enc z.toNat).length, .bool true]) ∧ w' = w.alloc (.cells (bv (enc z.toNat)).toArray 5)
theorem sz_val (z : Int) (hc : cp z = true) : sz z = (enc z.toNat).length := by
 have h := cp_range_int hc;have e := sz_enc (r := z.toNat) (by rw [show ((z.toNat : Nat) : Int) = z from by omega]; exact hc);rw [show ((z.toNat : Nat) : Int) = z from by omega] at e;exact e
theorem renc_1 (r : Int) (hc : cp r = true) (h0 : 0 ≤ r) (h1 : r < 128) (w : World) :
 Calls Tryz.prog 82 #[ι r] w fun e w' => EncPost r w e w' := by
 have he : enc r.toNat = [UInt8.ofNat r.toNat] := by
  unfold enc; rw [if_pos (by omega)]
 have hl : Hid (([.int .u8 (r)] : List Value) = bv (enc r.toNat)) := hI (by
  rw [he];simp only [bv, List.map_cons, List.map_nil];rw [u8v (n := r.toNat) (z := r) (by omega) (by omega)])
 have hk : Hid ((enc r.toNat).length = 1) := hI (by rw [he]; rfl);have hsz : sz r = 1 := by rw [sz_val r hc, hk.out]
 have hs1 : (((sz r : Nat) : Int) == 1) = true := by rw [hsz]; rfl
 have HC := hI hc

 clear he hsz hc
 go_enter Tryz.func82, Tryz.ntmps82
 go_wp2_with (go_at_call 101; refine (size_any _ _).mono ?_; rintro e w' ⟨rfl, rfl⟩)
 go_ret2
 unfold EncPost;rw [HC.out];simp only [];rw [hk.out, ← hl.out];exact ⟨rfl, rfl⟩
theorem renc_2 (r : Int) (hc : cp r = true) (h1 : 128 ≤ r) (h2 : r < 2048) (w : World) :
 Calls Tryz.prog 82 #[ι r] w fun e w' => EncPost r w e w' := by
 have he : enc r.toNat = [UInt8.ofNat (192 + r.toNat / 64), UInt8.ofNat (128 + r.toNat % 64)] := by
  unfold enc; rw [if_neg (by omega), if_pos (by omega)]
 have hl : Hid (([.int .u8 (192 + r / 64), .int .u8 (128 + r % 64)] : List Value) = bv (enc r.toNat)) := hI (by
  rw [he];simp only [bv, List.map_cons, List.map_nil];rw [u8v (n := 192 + r.toNat / 64) (z := 192 + r / 64) (by omega) (by omega), u8v (n := 128 + r.toNat % 64) (z := 128 + r % 64) (by omega) (by omega)])
 have hk : Hid ((enc r.toNat).length = 2) := hI (by rw [he]; rfl);have hsz : sz r = 2 := by rw [sz_val r hc, hk.out]
 have hs1 : (((sz r : Nat) : Int) == 1) = false := by rw [hsz]; rfl
 have hs2 : (((sz r : Nat) : Int) == 2) = true := by rw [hsz]; rfl
 have HC := hI hc;have f1 := zand63 r (by omega) (by omega);have f2 := zor192 (r / 64) (by omega) (by omega);have f3 := zor128 (r % 64) (by omega) (by omega);clear he hsz hc
 go_enter Tryz.func82, Tryz.ntmps82
 go_wp2_with (go_at_call 101; refine (size_any _ _).mono ?_; rintro e w' ⟨rfl, rfl⟩)
 go_ret2
 unfold EncPost;rw [HC.out];simp only [];rw [hk.out, ← hl.out];exact ⟨rfl, rfl⟩
theorem renc_3 (r : Int) (hc : cp r = true) (h2 : 2048 ≤ r) (h3 : r < 65536) (w : World) :
 Calls Tryz.prog 82 #[ι r] w fun e w' => EncPost r w e w' := by
 have he : enc r.toNat = [UInt8.ofNat (224 + r.toNat / 4096), UInt8.ofNat (128 + r.toNat / 64 % 64), UInt8.ofNat (128 + r.toNat % 64)] := by
  unfold enc; rw [if_neg (by omega), if_neg (by omega), if_pos (by omega)]
 have hl : Hid (([.int .u8 (224 + r / 4096), .int .u8 (128 + r / 64 % 64), .int .u8 (128 + r % 64)] : List Value) = bv (enc r.toNat)) := hI (by
  rw [he];simp only [bv, List.map_cons, List.map_nil];rw [u8v (n := 224 + r.toNat / 4096) (z := 224 + r / 4096) (by omega) (by omega), u8v (n := 128 + r.toNat / 64 % 64) (z := 128 + r / 64 % 64) (by omega) (by omega), u8v (n := 128 + r.toNat % 64) (z := 128 + r % 64) (by omega) (by omega)])
 have hk : Hid ((enc r.toNat).length = 3) := hI (by rw [he]; rfl);have hsz : sz r = 3 := by rw [sz_val r hc, hk.out]
 have hs1 : (((sz r : Nat) : Int) == 1) = false := by rw [hsz]; rfl
 have hs2 : (((sz r : Nat) : Int) == 2) = false := by rw [hsz]; rfl
 have hs3 : (((sz r : Nat) : Int) == 3) = true := by rw [hsz]; rfl
 have HC := hI hc;have f1 := zand63 r (by omega) (by omega);have f2 := zor224 (r / 4096) (by omega) (by omega);have f3 := zor128 (r % 64) (by omega) (by omega);have f4 := zand63 (r / 64) (by omega) (by omega);have f5 := zor128 (r / 64 % 64) (by omega) (by omega);clear he hsz hc
 go_enter Tryz.func82, Tryz.ntmps82
 go_wp2_with (go_at_call 101; refine (size_any _ _).mono ?_; rintro e w' ⟨rfl, rfl⟩)
 go_ret2
 unfold EncPost;rw [HC.out];simp only [];rw [hk.out, ← hl.out];exact ⟨rfl, rfl⟩
theorem renc_4 (r : Int) (hc : cp r = true) (h3 : 65536 ≤ r) (hr : r ≤ 1114111) (w : World) :
 Calls Tryz.prog 82 #[ι r] w fun e w' => EncPost r w e w' := by
 have he : enc r.toNat = [UInt8.ofNat (240 + r.toNat / 262144), UInt8.ofNat (128 + r.toNat / 4096 % 64), UInt8.ofNat (128 + r.toNat / 64 % 64), UInt8.ofNat (128 + r.toNat % 64)] := by
  unfold enc; rw [if_neg (by omega), if_neg (by omega), if_neg (by omega)]
 have hl : Hid (([.int .u8 (240 + r / 262144), .int .u8 (128 + r / 4096 % 64), .int .u8 (128 + r / 64 % 64), .int .u8 (128 + r % 64)] : List Value) = bv (enc r.toNat)) := hI (by
  rw [he];simp only [bv, List.map_cons, List.map_nil];rw [u8v (n := 240 + r.toNat / 262144) (z := 240 + r / 262144) (by omega) (by omega), u8v (n := 128 + r.toNat / 4096 % 64) (z := 128 + r / 4096 % 64) (by omega) (by omega), u8v (n := 128 + r.toNat / 64 % 64) (z := 128 + r / 64 % 64) (by omega) (by omega), u8v (n := 128 + r.toNat % 64) (z := 128 + r % 64) (by omega) (by omega)])
 have hk : Hid ((enc r.toNat).length = 4) := hI (by rw [he]; rfl);have hsz : sz r = 4 := by rw [sz_val r hc, hk.out]
 have hs1 : (((sz r : Nat) : Int) == 1) = false := by rw [hsz]; rfl
 have hs2 : (((sz r : Nat) : Int) == 2) = false := by rw [hsz]; rfl
 have hs3 : (((sz r : Nat) : Int) == 3) = false := by rw [hsz]; rfl
 have hs4 : (((sz r : Nat) : Int) == 4) = true := by rw [hsz]; rfl
 have HC := hI hc;have f1 := zand63 r (by omega) (by omega);have f2 := zor240 (r / 262144) (by omega) (by omega);have f3 := zor128 (r % 64) (by omega) (by omega);have f4 := zand63 (r / 64) (by omega) (by omega);have f5 := zor128 (r / 64 % 64) (by omega) (by omega);have f6 := zand63 (r / 4096) (by omega) (by omega);have f7 := zor128 (r / 4096 % 64) (by omega) (by omega);clear he hsz hc
 go_enter Tryz.func82, Tryz.ntmps82
 go_wp2_with (go_at_call 101; refine (size_any _ _).mono ?_; rintro e w' ⟨rfl, rfl⟩)
 go_ret2
 unfold EncPost;rw [HC.out];simp only [];rw [hk.out, ← hl.out];exact ⟨rfl, rfl⟩
theorem renc_no (r : Int) (hc : cp r = false) (w : World) :
 Calls Tryz.prog 82 #[ι r] w fun e w' => EncPost r w e w' := by
 have hsz : sz r = 0 := by unfold sz; rw [if_pos hc]
 have hs1 : (((sz r : Nat) : Int) == 1) = false := by rw [hsz]; rfl
 have hs2 : (((sz r : Nat) : Int) == 2) = false := by rw [hsz]; rfl
 have hs3 : (((sz r : Nat) : Int) == 3) = false := by rw [hsz]; rfl
 have hs4 : (((sz r : Nat) : Int) == 4) = false := by rw [hsz]; rfl
 have HC := hI hc;clear hsz hc
 go_enter Tryz.func82, Tryz.ntmps82
 go_wp2_with (go_at_call 101; refine (size_any _ _).mono ?_; rintro e w' ⟨rfl, rfl⟩)
 go_ret2
 unfold EncPost;rw [HC.out];exact ⟨rfl, rfl⟩
theorem renc_any (r : Int) (w : World) : Calls Tryz.prog 82 #[ι r] w fun e w' => EncPost r w e w' := by
 cases hc : cp r with
 | false => exact renc_no r hc w
 | true =>
  have h := cp_range_int hc
  by_cases h1 : r < 128
  · exact renc_1 r hc h.1 h1 w
  by_cases h2 : r < 2048
  · exact renc_2 r hc (by omega) h2 w
  by_cases h3 : r < 65536
  · exact renc_3 r hc (by omega) h3 w
  · exact renc_4 r hc (by omega) h.2 w
theorem renc_true (r : Int) (hc : cp r = true) (w : World) : Calls Tryz.prog 82 #[ι r] w fun e w' =>
 e = .returned (.tuple #[.slice (some ⟨w.heap.size, 0, none⟩) (enc r.toNat).length (enc r.toNat).length, .bool true]) ∧ w' = w.alloc (.cells (bv (enc r.toNat)).toArray 5) := by
 refine (renc_any r w).mono fun e w' h => ?_
 unfold EncPost at h; rw [hc] at h; exact h
end Go.Proofs.YtoleoimmpggldaaGreatDoor
namespace Go.Proofs.YtoleoimmpggldaaGreatDoor
open Go.RowKit
def AppendPost (l : List UInt8) (r : Int) (w : World) (e : Ending) (w' : World) : Prop :=
 Below w.heap.size w w' ∧ match cp r with
 | false => e = .returned (.tuple #[nL, .bool false])
 | true => ∃ v, e = .returned (.tuple #[v, .bool true]) ∧ w'.ownsRow w.heap.size 5 1 v (l ++ enc r.toNat).length (bv (l ++ enc r.toNat))
theorem AppendPost.no {l : List UInt8} {r : Int} {w w' : World} {e : Ending} (hc : cp r = false) (hb : Below w.heap.size w w') (he : e = .returned (.tuple #[nL, .bool false])) : AppendPost l r w e w' := by
 refine ⟨hb, ?_⟩; rw [hc]; exact he
theorem AppendPost.yes {l : List UInt8} {r : Int} {w w' : World} {e : Ending} (hc : cp r = true) (hb : Below w.heap.size w w') {v : Value} (he : e = .returned (.tuple #[v, .bool true]))
 (ho : w'.ownsRow w.heap.size 5 1 v (l.length + (enc r.toNat).length) (bv l ++ bv (enc r.toNat))) : AppendPost l r w e w' := by
 refine ⟨hb, ?_⟩; rw [hc]; exact ⟨v, he, by rw [List.length_append, bv_append]; exact ho⟩
theorem append_any (A : Option Addr) (c : Nat) (l : List UInt8) (r : Int) (B : Nat) (w : World) (hr : Rd w B A (bv l)) (hB : B ≤ w.heap.size) (hnil : A = none → c = 0) (hlen : l.length ≤ 16777216) :
 Calls Tryz.prog 121 #[.slice A l.length c, ι r] w fun e w' => AppendPost l r w e w' := by
 have HR := hI hr;have HN := hI hnil;clear hr hnil;obtain ⟨i0, hi, hz0, hz1, hz2⟩ := info_parts inf_u8
 cases hc : cp r with
 | false =>
  go_enter Tryz.func121, Tryz.ntmps121
  go_wp2_with (go_at_call 127; refine (isCp _ _).mono ?_; rintro e w' ⟨rfl, rfl⟩)
  go_ret2
  exact AppendPost.no hc (Below.refl _ _) rfl
 | true =>
  have hcr := cp_range_int hc;have hlb := bv_length l;have HL := hI hlb;clear hlb
  go_enter Tryz.func121, Tryz.ntmps121
  go_wp2_with (first
   | (go_at_call 127; refine (isCp _ _).mono ?_; rintro e w' ⟨rfl, rfl⟩)
   | (at_make; refine wpList_make_own _ rfl _ _ 93 rfl w.heap.size 5 i0 (.int .u8 0) 1 Tryz.underlying93 hi hz0 hz1 .i64 .i64 _ (l.length + 4) rfl rfl (by omega) (by rw [hz2]; omega) (by unfold maxLen; omega) (Nat.le_refl _) ?_; intro w0 hown0 hgrow0)
   | (at_builtin; refine wpList_append_rd _ rfl _ _ 93 rfl w.heap.size 5 i0 (.int .u8 0) 1 Tryz.underlying93 hi hz0 hz1 hz2 rfl _ _ _ rfl hown0 B A c (bv l) (by rw [HL.out]; rfl) (HR.out.grown hgrow0 hB (fun _ h => by cases h)) HN.out (bv_one _) (by rw [HL.out]; unfold maxLen; omega) (by rw [HL.out]; omega) hgrow0.size ?_; intro v1 w1 hown1 hgrow1))
  have hb0 : Below w.heap.size w w0 := (Below.refl _ _).grown hgrow0 (Nat.le_refl _) (fun _ h => by cases h);have hb1 : Below w.heap.size w w1 := hb0.grown hgrow1 hgrow0.size (fun j hj => (hown0.lt j hj).1);rw [HL.out] at hown1;simp only [Nat.zero_add, List.nil_append] at hown1;clear hgrow0 hgrow1 hown0 hb0;refine (app_any v1 r hcr.1 hcr.2 _ w.heap.size l.length (bv l) hown1 (by omega) hb1.size).mono ?_;rintro e w2 ⟨v2, rfl, hown2, hb2⟩;have hb3 := hb1.trans hb2;clear hown1 hb1 hb2
  go_wp2
  go_ret2
  exact AppendPost.yes hc hb3 rfl hown2
