/- The contracts of the small functions of the layer utf and of its reference that make no memory. -/
import Derived.Test.YtnokmlclephjgaaRows
import Derived.Test.YtnokmlclephjgaaUtfPlain
import Derived.Test.YtnokmlclephjgaaMem
import Derived.WalkKit
import Derived.Lib.Hide
import Derived.WalkSpells
import Derived.WalkLawsBesides
set_option linter.unusedVariables false
set_option linter.unusedSimpArgs false
namespace Go.Proofs.Ytnokmlclephjgaa
open Go.RowKit
set_option maxHeartbeats 400000 in
theorem isCp (r : Int) (w : World) :
    Calls Try.prog 36 #[.int .i64 r] w fun e w' => e = .returned (.bool (cp r)) ∧ w = w' := by
  go_enter Try.func36, Try.ntmps36
  go_wp2
  all_goals go_ret
  all_goals exact ⟨ret_bool (by unfold cp; simp; omega), rfl⟩

set_option maxHeartbeats 400000 in
theorem tail_loop (s : ByteArray) (b n l : Nat) (hb : b < 256) (hn : n ≤ 3) (_hl : l ≤ 65536) (hs : s.size ≤ maxLen) (w : World) :
    Calls Try.prog 47 #[.string s, .int .i64 b, .int .i64 n, .int .i64 l] w fun e w' => e = .returned (decV (fin n l (tl n b s.data.toList))) ∧ w = w' := by
  unfold maxLen at hs
  by_cases hsz : s.size < n
  · have hx := Lib.hid (tl_short n b s.data.toList (by simpa using hsz))
    go_enter Try.func47, Try.ntmps47
    go_wp2
    go_ret3
    exact ⟨by rw [hx.out]; rfl, rfl⟩
  · go_enter Try.func47, Try.ntmps47
    go_wp2
    go_loop [1, 18] (fun t i => ∃ k acc : Nat, k ≤ n ∧ i = .int .i64 k ∧ t = .int .i64 acc ∧ acc < 256 * 64 ^ k ∧ tl n b s.data.toList = tl (n - k) acc (s.data.toList.drop k)) (fun _ i => n - (intOf i).toNat)
    case atStart => exact ⟨0, b, Nat.zero_le _, rfl, rfl, by simpa using hb, rfl⟩
    case round =>
      obtain ⟨k, acc, hk, rfl, rfl, hacc, htl0⟩ := hrel
      have htl := Lib.hid htl0
      clear htl0
      by_cases hlt : k < n
      · have hks : k < s.size := by omega
        have hin : k < s.data.toList.length := by simpa using hks
        have hsp : Hid (tl n b s.data.toList = if 128 ≤ s[k].toNat ∧ s[k].toNat ≤ 191 then tl (n - (k + 1)) (acc * 64 + s[k].toNat % 64) (s.data.toList.drop (k + 1)) else none) := Lib.hid (by
          rw [htl.out, show n - k = n - (k + 1) + 1 from by omega, tl_step _ _ _ k hin]; rfl)
        have ha2 : acc < 16777216 := by
          have : 64 ^ k ≤ 64 ^ 2 := Nat.pow_le_pow_right (by omega) (by omega)
          omega
        have hpw : Hid (64 ^ (k + 1) = 64 ^ k * 64) := Lib.hid (Nat.pow_succ _ _)
        have hor := Lib.hid (or64 acc (s[k].toNat % 64) (by omega) (by omega))
        by_cases hin : 128 ≤ s[k].toNat ∧ s[k].toNat ≤ 191
        · obtain ⟨h1, h2⟩ := hin
          go_wp2
          go_round
          case rel =>
            refine ⟨k + 1, acc * 64 + s[k].toNat % 64, by omega, by go_num, ?_, ?_, ?_⟩
            · rw [← hor.out]; congr 2
            · rw [hpw.out]; omega
            · rw [hsp.out, if_pos ⟨h1, h2⟩]
          case measure => simp [intOf]; omega
        · have hno := Lib.hid (hsp.out.trans (if_neg hin))
          by_cases h1 : s[k].toNat < 128
          all_goals
            have h2 : 191 < s[k].toNat ∨ s[k].toNat < 128 := by omega
            go_wp2
            go_ret3
            exact ⟨by rw [hno.out]; rfl, rfl⟩
      · have hkn : Hid (tl n b s.data.toList = some acc) := Lib.hid (by rw [htl.out, show n - k = 0 from by omega]; rfl)
        have hv : Hid (decV (fin n l (tl n b s.data.toList)) = decV (fin n l (some acc))) := Lib.hid (by rw [hkn.out])
        by_cases hl1 : acc < l
        · have hv2 : Hid (decV (fin n l (some acc)) = .tuple #[.int .i64 0, .int .i64 0, .bool false]) := Lib.hid (by unfold fin; simp only []; rw [if_pos (.inl hl1)]; rfl)
          go_wp2_with (go_at_call 36; refine (isCp _ _).mono ?_; rintro e w' ⟨rfl, rfl⟩)
          go_ret3
          exact ⟨congrArg Ending.returned (hv.out.trans hv2.out).symm, rfl⟩
        · cases hc : cp acc
          · have hv2 : Hid (decV (fin n l (some acc)) = .tuple #[.int .i64 0, .int .i64 0, .bool false]) := Lib.hid (by unfold fin; simp only []; rw [if_pos (.inr hc)]; rfl)
            go_wp2_with (go_at_call 36; refine (isCp _ _).mono ?_; rintro e w' ⟨rfl, rfl⟩)
            go_ret3
            exact ⟨congrArg Ending.returned (hv.out.trans hv2.out).symm, rfl⟩
          · have hv2 : Hid (decV (fin n l (some acc)) = .tuple #[.int .i64 acc, .int .i64 (n + 1), .bool true]) := Lib.hid (by unfold fin; simp only []; rw [if_neg (by simp [hc, hl1])]; rfl)
            go_wp2_with (go_at_call 36; refine (isCp _ _).mono ?_; rintro e w' ⟨rfl, rfl⟩)
            go_ret3
            exact ⟨congrArg Ending.returned (hv.out.trans hv2.out).symm, rfl⟩

theorem drop_extract (s : ByteArray) (k : Nat) : (s.extract k s.size).data.toList = s.data.toList.drop k := by
  obtain ⟨⟨l⟩⟩ := s
  rw [ByteArray.extract_mk]
  simp [ByteArray.size]
  exact List.take_of_length_le (by simp)
theorem wb (b : UInt8) : wrap64 (b.toNat : Int) = (b.toNat : Int) := by
  have := UInt8.toNat_lt b
  exact IntWalk.wrap64_in _ (by omega)
theorem dec_none_of {f : FuncId} {args : Array Value} {w : World} {o : Option (Nat × Nat)} (h : Calls Try.prog f args w fun e w' => e = .returned (decV o) ∧ w = w') (ho : o = none) :
    Calls Try.prog f args w fun e w' => e = .returned (.tuple #[.int .i64 0, .int .i64 0, .bool false]) ∧ w = w' := by subst ho; exact h
theorem dec_some_of {f : FuncId} {args : Array Value} {w : World} {o : Option (Nat × Nat)} (h : Calls Try.prog f args w fun e w' => e = .returned (decV o) ∧ w = w') (r n : Nat) (ho : o = some (r, n)) :
    Calls Try.prog f args w fun e w' => e = .returned (.tuple #[.int .i64 r, .int .i64 n, .bool true]) ∧ w = w' := by subst ho; exact h
theorem drop_size (s : ByteArray) (k : Nat) : (s.extract k s.size).size = s.size - k := by
  simp

set_option maxHeartbeats 400000 in
theorem dec_any (s : ByteArray) (k : Nat) (hs : s.size ≤ maxLen) (w : World) :
    Calls Try.prog 35 #[.string s, .int .i64 k] w fun e w' => e = .returned (decV (dec (s.data.toList.drop k))) ∧ w = w' := by
  unfold maxLen at hs
  by_cases hk : k < s.size
  · have hin : k < s.data.toList.length := by simpa using hk
    have hd : Hid (dec (s.data.toList.drop k) = dec (s[k] :: s.data.toList.drop (k + 1))) := Lib.hid (by rw [List.drop_eq_getElem_cons hin]; rfl)
    have hb : Hid (s[k].toNat < 256) := Lib.hid (UInt8.toNat_lt _)
    have h31 := Lib.hid (and31 s[k].toNat (by have := hb.out; omega))
    have h15 := Lib.hid (and15 s[k].toNat (by have := hb.out; omega))
    have h7 := Lib.hid (and7 s[k].toNat (by have := hb.out; omega))
    have hdr := Lib.hid (drop_extract s (k + 1))
    have hc := Lib.hid (dec_cons s[k] (s.data.toList.drop (k + 1)))
    go_enter Try.func35, Try.ntmps35
    have hsz : (s.extract (k + 1) s.size).size ≤ maxLen := by rw [drop_size]; unfold maxLen; omega
    have T1 := Lib.hid (fun (W : World) => tail_loop (s.extract (k + 1) s.size) (s[k].toNat % 32) 1 128 (by omega) (by omega) (by omega) hsz W)
    have T2 := Lib.hid (fun (W : World) => tail_loop (s.extract (k + 1) s.size) (s[k].toNat % 16) 2 2048 (by omega) (by omega) (by omega) hsz W)
    have T3 := Lib.hid (fun (W : World) => tail_loop (s.extract (k + 1) s.size) (s[k].toNat % 8) 3 65536 (by omega) (by omega) (by omega) hsz W)
    rw [hdr.out] at T1 T2 T3
    clear hsz
    go_wp2_with fail
    · simp only [wb] at *
      go_ret3
      have hv : decV (dec (s.data.toList.drop k)) = .tuple #[.int .i64 s[k].toNat, .int .i64 1, .bool true] := by rw [hd.out, hc.out, if_pos (by omega)]; rfl
      exact ⟨congrArg Ending.returned hv.symm, rfl⟩
    · simp only [wb] at *
      go_ret3
      have hv : decV (dec (s.data.toList.drop k)) = .tuple #[.int .i64 0, .int .i64 0, .bool false] := by rw [hd.out, hc.out, if_neg (by omega), if_pos (by omega)]; rfl
      exact ⟨congrArg Ending.returned hv.symm, rfl⟩
    · simp only [wb] at *
      rw [h31.out]
      cases hx : fin 1 128 (tl 1 (s[k].toNat % 32) (s.data.toList.drop (k + 1))) with
      | none =>
        have hX := Lib.hid hx
        clear hx
        have hv : Hid (decV (dec (s.data.toList.drop k)) = .tuple #[.int .i64 0, .int .i64 0, .bool false]) := Lib.hid (by rw [hd.out, hc.out, if_neg (by omega), if_neg (by omega), if_pos (by omega), hX.out]; rfl)
        refine (dec_none_of (T1.out w) hX.out).mono ?_
        rintro e w' ⟨rfl, rfl⟩
        go_wp2
        go_ret3
        exact ⟨congrArg Ending.returned hv.out.symm, rfl⟩
      | some rn =>
        obtain ⟨r, n⟩ := rn
        have hX := Lib.hid hx
        clear hx
        have hv : Hid (decV (dec (s.data.toList.drop k)) = .tuple #[.int .i64 r, .int .i64 n, .bool true]) := Lib.hid (by rw [hd.out, hc.out, if_neg (by omega), if_neg (by omega), if_pos (by omega), hX.out]; rfl)
        refine (dec_some_of (T1.out w) r n hX.out).mono ?_
        rintro e w' ⟨rfl, rfl⟩
        go_wp2
        go_ret3
        exact ⟨congrArg Ending.returned hv.out.symm, rfl⟩
    · simp only [wb] at *
      rw [h15.out]
      cases hx : fin 2 2048 (tl 2 (s[k].toNat % 16) (s.data.toList.drop (k + 1))) with
      | none =>
        have hX := Lib.hid hx
        clear hx
        have hv : Hid (decV (dec (s.data.toList.drop k)) = .tuple #[.int .i64 0, .int .i64 0, .bool false]) := Lib.hid (by rw [hd.out, hc.out, if_neg (by omega), if_neg (by omega), if_neg (by omega), if_pos (by omega), hX.out]; rfl)
        refine (dec_none_of (T2.out w) hX.out).mono ?_
        rintro e w' ⟨rfl, rfl⟩
        go_wp2
        go_ret3
        exact ⟨congrArg Ending.returned hv.out.symm, rfl⟩
      | some rn =>
        obtain ⟨r, n⟩ := rn
        have hX := Lib.hid hx
        clear hx
        have hv : Hid (decV (dec (s.data.toList.drop k)) = .tuple #[.int .i64 r, .int .i64 n, .bool true]) := Lib.hid (by rw [hd.out, hc.out, if_neg (by omega), if_neg (by omega), if_neg (by omega), if_pos (by omega), hX.out]; rfl)
        refine (dec_some_of (T2.out w) r n hX.out).mono ?_
        rintro e w' ⟨rfl, rfl⟩
        go_wp2
        go_ret3
        exact ⟨congrArg Ending.returned hv.out.symm, rfl⟩
    · simp only [wb] at *
      rw [h7.out]
      cases hx : fin 3 65536 (tl 3 (s[k].toNat % 8) (s.data.toList.drop (k + 1))) with
      | none =>
        have hX := Lib.hid hx
        clear hx
        have hv : Hid (decV (dec (s.data.toList.drop k)) = .tuple #[.int .i64 0, .int .i64 0, .bool false]) := Lib.hid (by rw [hd.out, hc.out, if_neg (by omega), if_neg (by omega), if_neg (by omega), if_neg (by omega), if_pos (by omega), hX.out]; rfl)
        refine (dec_none_of (T3.out w) hX.out).mono ?_
        rintro e w' ⟨rfl, rfl⟩
        go_wp2
        go_ret3
        exact ⟨congrArg Ending.returned hv.out.symm, rfl⟩
      | some rn =>
        obtain ⟨r, n⟩ := rn
        have hX := Lib.hid hx
        clear hx
        have hv : Hid (decV (dec (s.data.toList.drop k)) = .tuple #[.int .i64 r, .int .i64 n, .bool true]) := Lib.hid (by rw [hd.out, hc.out, if_neg (by omega), if_neg (by omega), if_neg (by omega), if_neg (by omega), if_pos (by omega), hX.out]; rfl)
        refine (dec_some_of (T3.out w) r n hX.out).mono ?_
        rintro e w' ⟨rfl, rfl⟩
        go_wp2
        go_ret3
        exact ⟨congrArg Ending.returned hv.out.symm, rfl⟩
    · simp only [wb] at *
      go_ret3
      have hv : decV (dec (s.data.toList.drop k)) = .tuple #[.int .i64 0, .int .i64 0, .bool false] := by
        rw [hd.out, hc.out, if_neg (by omega), if_neg (by omega), if_neg (by omega), if_neg (by omega), if_neg (by omega)]; rfl
      exact ⟨congrArg Ending.returned hv.symm, rfl⟩
  · have hd : Hid (decV (dec (s.data.toList.drop k)) = .tuple #[.int .i64 0, .int .i64 0, .bool false]) := Lib.hid (by
      rw [List.drop_eq_nil_of_le (by simp; omega)]; rfl)
    go_enter Try.func35, Try.ntmps35
    go_wp2
    go_ret3
    exact ⟨congrArg Ending.returned hd.out.symm, rfl⟩
end Go.Proofs.Ytnokmlclephjgaa
