/- The reference's canonical text of a number. -/
import Derived.Test.YtmagdlddaoonmaaDoorDgD
set_option linter.unusedVariables false
set_option linter.unusedSimpArgs false
namespace Go.Proofs.YtmagdlddaoonmaaDoor
open Go.RowKit
theorem num_cells (n : Int) : Lib.strCells ⟨(numL n).toArray⟩ = bv (numL n) := by
  unfold Lib.strCells bv
  rfl
theorem num_size (n : Int) : (⟨(numL n).toArray⟩ : ByteArray).size = (numL n).length := by simp [ByteArray.size]
theorem pow10_le (k : Nat) (h : k ≤ 19) : 10 ^ k ≤ 10 ^ 19 := Nat.pow_le_pow_right (by omega) h
theorem digN_len : ∀ (k v : Nat), v < 10 ^ k → (digN v).length ≤ k
  | 0, v, h => by
    have : v = 0 := by simpa using h
    subst this
    exact Nat.le_refl _
  | k + 1, v, h => by
    by_cases h0 : v = 0
    · subst h0; exact Nat.zero_le _
    · rw [digN_pos h0, List.length_append]
      have := digN_len k (v / 10) (by rw [Nat.pow_succ] at h; exact Nat.div_lt_of_lt_mul (by rw [Nat.mul_comm]; exact h))
      simp; omega
theorem numL_len {n : Int} (hn : -9223372036854775808 ≤ n ∧ n ≤ 9223372036854775807) : 1 ≤ (numL n).length ∧ (numL n).length ≤ 21 := by
  have h := digN_len 20 n.natAbs (by simp; omega)
  obtain ⟨-, -, h3, -⟩ := magL_spec n.natAbs
  have h4 : (magL n.natAbs).length ≤ 20 := by
    unfold magL
    split
    · simp
    · exact h
  unfold numL
  split
  · simp; omega
  · omega
set_option maxHeartbeats 4000000 in
set_option maxRecDepth 100000 in
theorem write_num (n : Int) (hn : -9223372036854775808 ≤ n ∧ n ≤ 9223372036854775807) (w : World) : Calls Tryd.prog 33 #[.slice none 0 0, numV n] w fun e w' => ∃ A c, e = .returned (.slice A (numL n).length c) ∧ w'.ownsRow w.heap.size 5 1 (.slice A (numL n).length c) (numL n).length (bv (numL n)) ∧ Below w.heap.size w w' := by
  unfold numV
  have hlen := numL_len hn
  have HD := Lib.hid (fun W => digits_any n hn W)
  have HC := Lib.hid (num_cells n)
  have HS := Lib.hid (num_size n)
  obtain ⟨i0, hi, hz0, hz1, hz2⟩ := info_parts inf_u8
  obtain ⟨l1, l2⟩ := hlen
  clear hn
  go_enter Tryd.func33, Tryd.ntmps33
  go_wp2_with (first
    | (go_at_call 46; refine (HD.out _).mono ?_; rintro e w1 ⟨rfl, hb1⟩; have HB1 := Lib.hid (chain ((Below.refl _ _).alloc (Nat.le_refl _) _) hb1))
    | (at_builtin; refine Lib.wpList_append_own_string _ rfl (.tmp 23) (.tmp 26) 46 9 rfl w.heap.size 5 i0 Tryd.underlying46 Tryd.underlying9 hi hz0 hz1 hz2 (.slice none 0 0) 0 [] rfl (World.ownsRow_nil _ _ _ _) ⟨(numL n).toArray⟩ rfl (by rw [HS.out]; unfold maxLen; omega) (by rw [HS.out]; omega) HB1.out.size ?_; intro v2 w2 hown2 hgrow2 _; rw [HC.out, HS.out, Nat.zero_add, List.nil_append] at hown2; obtain ⟨A2, c2, rfl, hl2, -⟩ := own_slice hown2))
  go_ret
  exact ⟨A2, c2, rfl, hown2, HB1.out.grown hgrow2 HB1.out.size (fun j hj => by cases hj)⟩
set_option maxHeartbeats 4000000 in
set_option maxRecDepth 100000 in
theorem text_num (n : Int) (hn : -9223372036854775808 ≤ n ∧ n ≤ 9223372036854775807) (w : World) : Calls Tryd.prog 16 #[numV n] w fun e w' => e = .returned (.string ⟨(numL n).toArray⟩) ∧ Below w.heap.size w w' := by
  have HV := Lib.hid (fun W => valid_num n W)
  have HWR := Lib.hid (fun W => write_num n hn W)
  unfold numV at HV HWR ⊢
  obtain ⟨W1, hW1⟩ : ∃ X, X = w.alloc (.cells #[.int .i64 3, .int .i64 n, .string ⟨#[]⟩, .slice none 0 0, .slice none 0 0] 38) := ⟨_, rfl⟩
  have HBX := Lib.hid (show Box W1 w.heap.size 38 #[.int .i64 3, .int .i64 n, .string ⟨#[]⟩, .slice none 0 0, .slice none 0 0] by rw [hW1]; exact Box.laid w _ _)
  have HBW := Lib.hid (show Below w.heap.size w W1 by rw [hW1]; exact (Below.refl _ _).alloc (Nat.le_refl _) _)
  have HW1 := Lib.hid hW1
  obtain ⟨t0, t1, t2, t3, t4⟩ := box5 HBX.out
  clear hW1
  go_enter Tryd.func16, Tryd.ntmps16
  go_upto_region 1 with fail
  rw [← HW1.out]
  go_wp2_with (first
    | (go_at_call 32; refine (HV.out _).mono ?_; rintro e w2 ⟨rfl, hb2⟩; clear t0 t1 t2 t3 t4; have HB2 := Lib.hid (chain HBW.out hb2); obtain ⟨t0, t1, t2, t3, t4⟩ := box5 (HBX.out.below hb2 HBX.out.lt))
    | (go_at_call 33; refine (HWR.out _).mono ?_; rintro e w3 ⟨A, c, rfl, hown, hb3⟩; have hcv := conv_own hown; have HB3 := Lib.hid (chain HB2.out hb3)))
  go_ret
  exact ⟨rfl, HB3.out⟩
end Go.Proofs.YtmagdlddaoonmaaDoor
