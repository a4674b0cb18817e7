/- The walk of UtfParts. -/
import Derived.Test.YtfabdodkjohldaaSlice2
namespace Go.Proofs.Ytfabdodkjohldaa
open Go.RowKit
theorem sel_parts (xs : List Nat) (a b : Int) (_h0 : 0 ≤ a) (h1 : a ≤ b) (h2 : b ≤ xs.length) : sel xs 0 a ++ (sel xs a b ++ sel xs b xs.length) = xs := by
  unfold sel
  rw [show (0 : Int).toNat = 0 from rfl, List.drop_zero, show (((xs.length : Nat) : Int)).toNat = xs.length from by omega, List.take_length]
  have e1 : (xs.take b.toNat).drop a.toNat ++ xs.drop b.toNat = xs.drop a.toNat := by
    have e2 := List.take_append_drop b.toNat xs
    conv => rhs; rw [← e2]
    rw [List.drop_append_of_le_length (by simp; omega)]
  rw [e1, List.take_append_drop]
theorem sel_count (xs : List Nat) (a b : Int) (h0 : 0 ≤ a) (h1 : a ≤ b) (h2 : b ≤ xs.length) : ((sel xs a b).length : Int) = b - a := by
  unfold sel; simp; omega
theorem sel_mem {xs : List Nat} {a b : Int} {r : Nat} (h : r ∈ sel xs a b) : r ∈ xs := List.mem_of_mem_take (List.mem_of_mem_drop h)
theorem enc_parts (s : ByteArray) (xs : List Nat) (a b : Int) (h0 : 0 ≤ a) (h1 : a ≤ b) (h2 : b ≤ xs.length) (hx : encs xs = s.data.toList) :
    (⟨(encs (sel xs 0 a)).toArray⟩ : ByteArray) ++ ⟨(encs (sel xs a b)).toArray⟩ ++ ⟨(encs (sel xs b xs.length)).toArray⟩ = s := by
  have h := congrArg encs (sel_parts xs a b h0 h1 h2)
  rw [encs_append, encs_append, hx] at h
  rw [ByteArray.mk_append_mk, ByteArray.mk_append_mk]
  obtain ⟨⟨l⟩⟩ := s
  simp only [List.append_assoc]
  rw [h]
theorem cnt_some (s : ByteArray) (xs : List Nat) (hs : s.size ≤ maxLen) (h : runes s.data.toList = some xs) (m : Int) (hm : (xs.length : Int) = m) (w : World) :
    Calls Try.prog 12 #[.string s] w fun e w' => e = .returned (.tuple #[.int .i64 m, .bool true]) ∧ w = w' := by
  have h2 := cnt_any s hs w
  rw [h] at h2
  subst hm; exact h2
theorem cnt_none (s : ByteArray) (hs : s.size ≤ maxLen) (h : runes s.data.toList = none) (w : World) :
    Calls Try.prog 12 #[.string s] w fun e w' => e = .returned (.tuple #[.int .i64 0, .bool false]) ∧ w = w' := by
  have h2 := cnt_any s hs w
  rw [h] at h2; exact h2
/-- Behind the choice of the two bounds. -/
def Ord (i k a b : Int) : Prop := (k < i ∧ a = k ∧ b = i) ∨ (i ≤ k ∧ a = i ∧ b = k)
set_option maxRecDepth 100000 in
set_option maxHeartbeats 2000000 in
theorem parts_mid (s : ByteArray) (xs : List Nat) (x y i k a b : Int) (hs : s.size ≤ 200) (hy : runes s.data.toList = some xs) (hi : x % (xs.length + 1) = i) (hk : y % (xs.length + 1) = k) (ho : Ord i k a b) (w : World) :
    Calls Try.prog 7 #[.string s, .int .i64 x, .int .i64 y] w fun e w' => e = .returned (.bool true) ∧ Below w.heap.size w w' := by
  have hxl : xs.length ≤ 200 := by have h1 := runes_length hy; simp at h1; omega
  have hX := Lib.hid (encs_runes _ _ (Nat.le_refl _) xs hy)
  have hi0 : 0 ≤ i ∧ i ≤ xs.length := by
    have h1 := Int.emod_nonneg x (show ((xs.length : Int) + 1) ≠ 0 by omega)
    have h2 := Int.emod_lt_of_pos x (show 0 < ((xs.length : Int) + 1) by omega)
    omega
  have hk0 : 0 ≤ k ∧ k ≤ xs.length := by
    have h1 := Int.emod_nonneg y (show ((xs.length : Int) + 1) ≠ 0 by omega)
    have h2 := Int.emod_lt_of_pos y (show 0 < ((xs.length : Int) + 1) by omega)
    omega
  have hs1 : Hid (s.size ≤ 1048576) := Lib.hid (by omega)
  have hs2 : Hid (s.size ≤ maxLen) := Lib.hid (by unfold maxLen; omega)
  have hM1 : Hid (∀ w : World, Calls Try.prog 25 #[.int .i64 x, .int .i64 (xs.length + 1)] w fun e w' => e = .returned (.int .i64 i) ∧ w = w') := Lib.hid fun w => by
    have h := mod_any x (xs.length + 1) (by omega) (by omega) w
    rw [hi] at h; exact h
  have hM2 : Hid (∀ w : World, Calls Try.prog 25 #[.int .i64 y, .int .i64 (xs.length + 1)] w fun e w' => e = .returned (.int .i64 k) ∧ w = w') := Lib.hid fun w => by
    have h := mod_any y (xs.length + 1) (by omega) (by omega) w
    rw [hk] at h; exact h
  have hab : 0 ≤ a ∧ a ≤ b ∧ b ≤ xs.length := by unfold Ord at ho; omega
  obtain ⟨ha0, hab1, hb1⟩ := hab
  have hcat := enc_parts s xs a b ha0 hab1 hb1 hX.out.1
  have hcount := sel_count xs a b ha0 hab1 hb1
  have hC := Lib.hid (fun w => cnt_some s xs hs2.out hy _ rfl w)
  have hS1 := Lib.hid (fun w => sl_some_of (slice_any s 0 a hs1.out w) xs hy)
  have hS2 := Lib.hid (fun w => sl_some_of (slice_any s a b hs1.out w) xs hy)
  have hS3 := Lib.hid (fun w => sl_some_of (slice_any s b xs.length hs1.out w) xs hy)
  have hl1 : (encs (sel xs 0 a)).length ≤ 800 := by have h1 := (encs_len (sel xs 0 a)).2; have h2 := sel_len xs 0 a; omega
  have hl2 : (encs (sel xs a b)).length ≤ 800 := by have h1 := (encs_len (sel xs a b)).2; have h2 := sel_len xs a b; omega
  have hl3 : (encs (sel xs b xs.length)).length ≤ 800 := by have h1 := (encs_len (sel xs b xs.length)).2; have h2 := sel_len xs b xs.length; omega
  have hC2 := Lib.hid (fun w => cnt_some ⟨(encs (sel xs a b)).toArray⟩ (sel xs a b) (by rw [arr_size]; unfold maxLen; omega) (runes_encs (fun r hr => hX.out.2 r (sel_mem hr))) _ hcount w)
  generalize hg1 : (⟨(encs (sel xs 0 a)).toArray⟩ : ByteArray) = s1 at hcat hS1
  generalize hg2 : (⟨(encs (sel xs a b)).toArray⟩ : ByteArray) = s2 at hcat hS2 hC2
  generalize hg3 : (⟨(encs (sel xs b xs.length)).toArray⟩ : ByteArray) = s3 at hcat hS3
  have z1 : s1.size ≤ 800 := by rw [← hg1, arr_size]; exact hl1
  have z2 : s2.size ≤ 800 := by rw [← hg2, arr_size]; exact hl2
  have z3 : s3.size ≤ 800 := by rw [← hg3, arr_size]; exact hl3
  have q1 : ∀ W : World, (Op.stringOp .add s1 s2).run Try.prog W = .ok (.string (s1 ++ s2)) W := fun W => run_string_add_sum W s1 s2 (by omega)
  have q2 : ∀ W : World, (Op.stringOp .add (s1 ++ s2) s3).run Try.prog W = .ok (.string (s1 ++ s2 ++ s3)) W := fun W => run_string_add_sum W _ _ (by rw [ByteArray.size_append]; omega)
  rw [hcat] at q2
  clear hg1 hg2 hg3 hl1 hl2 hl3 hcount hi hk hy hcat
  obtain ⟨hi1, hi2⟩ := hi0
  obtain ⟨hk1, hk2⟩ := hk0
  rcases ho with ⟨hik, rfl, rfl⟩ | ⟨hik, rfl, rfl⟩
  · go_enter Try.func7, Try.ntmps7
    go_wp2_with fail
    refine (hC.out _).mono ?_
    rintro e w' ⟨rfl, rfl⟩
    go_wp2_with fail
    refine (hM1.out _).mono ?_
    rintro e w' ⟨rfl, rfl⟩
    go_wp2_with fail
    refine (hM2.out _).mono ?_
    rintro e w' ⟨rfl, rfl⟩
    go_wp2_with fail
    refine (hS1.out _).mono ?_
    rintro e w1 ⟨rfl, b1⟩
    go_wp2_with fail
    refine (hS2.out _).mono ?_
    rintro e w2 ⟨rfl, b2⟩
    go_wp2_with fail
    refine (hS3.out _).mono ?_
    rintro e w3 ⟨rfl, b3⟩
    go_wp2_with fail
    refine (hC2.out _).mono ?_
    rintro e w' ⟨rfl, rfl⟩
    go_wp2_with (go_at_call 9; refine (awake_any _).mono ?_; rintro e w' ⟨rfl, rfl⟩)
    go_ret
    exact ⟨rfl, chain b1 (chain b2 b3)⟩
  · go_enter Try.func7, Try.ntmps7
    go_wp2_with fail
    refine (hC.out _).mono ?_
    rintro e w' ⟨rfl, rfl⟩
    go_wp2_with fail
    refine (hM1.out _).mono ?_
    rintro e w' ⟨rfl, rfl⟩
    go_wp2_with fail
    refine (hM2.out _).mono ?_
    rintro e w' ⟨rfl, rfl⟩
    go_wp2_with fail
    refine (hS1.out _).mono ?_
    rintro e w1 ⟨rfl, b1⟩
    go_wp2_with fail
    refine (hS2.out _).mono ?_
    rintro e w2 ⟨rfl, b2⟩
    go_wp2_with fail
    refine (hS3.out _).mono ?_
    rintro e w3 ⟨rfl, b3⟩
    go_wp2_with fail
    refine (hC2.out _).mono ?_
    rintro e w' ⟨rfl, rfl⟩
    go_wp2_with (go_at_call 9; refine (awake_any _).mono ?_; rintro e w' ⟨rfl, rfl⟩)
    go_ret
    exact ⟨rfl, chain b1 (chain b2 b3)⟩
set_option maxRecDepth 100000 in
set_option maxHeartbeats 2000000 in
theorem parts_walk (s : ByteArray) (x y : Int) (hs : s.size ≤ maxLen) (w : World) :
    Calls Try.prog 7 #[.string s, .int .i64 x, .int .i64 y] w fun e w' => e = .returned (.bool true) ∧ Below w.heap.size w w' := by
  cases hy : runes s.data.toList with
  | none =>
    have hC := Lib.hid (fun w => cnt_none s hs hy w)
    clear hs hy
    go_enter Try.func7, Try.ntmps7
    go_wp2_with (first
      | (go_at_call 12; refine (hC.out _).mono ?_; rintro e w' ⟨rfl, rfl⟩)
      | (go_at_call 9; refine (awake_any _).mono ?_; rintro e w' ⟨rfl, rfl⟩))
    all_goals go_ret
    all_goals exact ⟨rfl, Below.refl _ _⟩
  | some xs =>
    by_cases hbig : 200 < s.size
    · have hC := Lib.hid (fun w => cnt_some s xs hs hy _ rfl w)
      clear hs hy
      go_enter Try.func7, Try.ntmps7
      go_wp2_with (first
        | (go_at_call 12; refine (hC.out _).mono ?_; rintro e w' ⟨rfl, rfl⟩)
        | (go_at_call 9; refine (awake_any _).mono ?_; rintro e w' ⟨rfl, rfl⟩))
      all_goals go_ret
      all_goals exact ⟨rfl, Below.refl _ _⟩
    · by_cases h : y % (xs.length + 1) < x % (xs.length + 1)
      · exact parts_mid s xs x y _ _ (y % (xs.length + 1)) (x % (xs.length + 1)) (by omega) hy rfl rfl (.inl ⟨h, rfl, rfl⟩) w
      · exact parts_mid s xs x y _ _ (x % (xs.length + 1)) (y % (xs.length + 1)) (by omega) hy rfl rfl (.inr ⟨by omega, rfl, rfl⟩) w
end Go.Proofs.Ytfabdodkjohldaa
