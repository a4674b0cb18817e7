/- JsonlexNext answers true for every text, every offset and every byte. -/
import Derived.Test.YtmagdlddaoonmaaDoorRnX
import Derived.Test.YtmagdlddaoonmaaDoorJlA
set_option linter.unusedVariables false
set_option linter.unusedSimpArgs false
namespace Go.Proofs.YtmagdlddaoonmaaDoor
open Go.RowKit
theorem byte_range {z : Int} (h : (Lit.int .u8 z).wf = true) : 0 ≤ z ∧ z ≤ 255 := by
  have e1 : IntKind.u8.min = 0 := rfl
  have e2 : IntKind.u8.max = 255 := rfl
  simp [Lit.wf, e1, e2] at h
  omega
theorem skip_int (s : ByteArray) (k : Int) (hs : s.size ≤ maxLen) : ∃ r : Int, (∀ w, Calls Tryd.prog 13 #[.string s, .int .i64 k] w fun e w' => e = .returned (.int .i64 r) ∧ w = w') ∧ (∀ w, Calls Tryd.prog 14 #[.string s, .int .i64 k] w fun e w' => e = .returned (.int .i64 r) ∧ w = w') := by
  by_cases h : k < 0 ∨ (s.size : Int) < k
  · exact ⟨k, fun w => skip_any_out s k hs h w, fun w => rskip_any_out s k hs h w⟩
  · obtain ⟨n, rfl⟩ : ∃ n : Nat, k = (n : Int) := ⟨k.toNat, by omega⟩
    exact ⟨_, fun w => skip_any s n hs (by omega) w, fun w => rskip_any s n hs (by omega) w⟩
set_option maxHeartbeats 10000000 in
set_option maxRecDepth 100000 in
theorem lexnext_walk (s : ByteArray) (k : Int) (b0 : Int) (hb0 : 0 ≤ b0 ∧ b0 ≤ 255) (w : World) (hE : ErrIn w) : Calls Tryd.prog 3 #[.string s, .int .i64 k, .int .u8 b0] w fun e w' => e = .returned (.bool true) ∧ Below w.heap.size w w' := by
  have HERR := Lib.hid hE
  have HAW := Lib.hid (fun (W : World) (h : Below w.heap.size w W) => awake_any W (hE.next h))
  clear hE
  by_cases hlen : s.size ≤ 200
  · obtain ⟨b, hb⟩ : ∃ b : UInt8, (b.toNat : Int) = b0 := ⟨UInt8.ofNat b0.toNat, by rw [toNat_ofNat (by omega)]; omega⟩
    subst hb
    obtain ⟨r, hr1, hr2⟩ := skip_int s k (by unfold maxLen; omega)
    have HS1 := Lib.hid hr1
    have HS2 := Lib.hid hr2
    have HB1 := Lib.hid (fun W => blank_any b W)
    have HB2 := Lib.hid (fun W => rblank_any b W)
    generalize blankB b = bb at HB1 HB2
    have HN1 := Lib.hid (fun (W : World) (h : Below w.heap.size w W) => lex_open (next_any s k (by omega) W (HERR.out.next h)))
    have HN2 := Lib.hid (fun (W : World) => lex_open (rnext_any s k (by omega) W))
    generalize lexP s.data.toList k = x at HN1 HN2
    obtain ⟨K, F, T, B, I, S, P, E⟩ := x
    simp only at HN1 HN2
    have hq200 : decide ((200 : Int) < (s.size : Int)) = false := by rw [decide_eq_false_iff_not]; omega
    clear hr1 hr2 hb0
    go_enter Tryd.func3, Tryd.ntmps3
    go_upto_region 4 with (go_at_call 9; refine (HN1.out _ (Below.refl _ _)).mono ?_; rintro e w1 ⟨rfl, hb1⟩)
    obtain ⟨W2, hW2⟩ : ∃ X, X = w1.alloc (.cells #[.int .i64 K, .int .i64 F, .int .i64 T, .int .u8 B, .int .i64 I, .string S] 24) := ⟨_, rfl⟩
    rw [← hW2]
    have HBX := Lib.hid (show Box W2 w1.heap.size 24 #[.int .i64 K, .int .i64 F, .int .i64 T, .int .u8 B, .int .i64 I, .string S] by rw [hW2]; exact Box.laid w1 _ _)
    have HBW := Lib.hid (show Below w.heap.size w W2 by rw [hW2]; exact hb1.alloc hb1.size _)
    clear hW2 hb1
    generalize w1.heap.size = g at *
    go_upto_region 5 with (go_at_call 10; refine (HN2.out _).mono ?_; rintro e w3 ⟨rfl, hb3⟩)
    obtain ⟨W4, hW4⟩ : ∃ X, X = w3.alloc (.cells #[.int .i64 K, .int .i64 F, .int .i64 T, .int .u8 B, .int .i64 I, .string S] 24) := ⟨_, rfl⟩
    rw [← hW4]
    have bx2 : Box W4 w3.heap.size 24 #[.int .i64 K, .int .i64 F, .int .i64 T, .int .u8 B, .int .i64 I, .string S] := by rw [hW4]; exact Box.laid w3 _ _
    have bx1 : Box W4 g 24 #[.int .i64 K, .int .i64 F, .int .i64 T, .int .u8 B, .int .i64 I, .string S] := by rw [hW4]; exact (HBX.out.below hb3 HBX.out.lt).alloc _
    have HBV := Lib.hid (show Below w.heap.size w W4 by rw [hW4]; exact chain HBW.out (hb3.alloc hb3.size _))
    obtain ⟨t0, t1, t2, t3, t4, t5⟩ := box6 bx1
    obtain ⟨v0, v1, v2, v3, v4, v5⟩ := box6 bx2
    clear bx1 bx2 hW4 hb3
    generalize w3.heap.size = g2 at *
    go_wp2_with (first
      | (go_at_call 11; refine (HB1.out _).mono ?_; rintro e w' ⟨rfl, rfl⟩)
      | (go_at_call 12; refine (HB2.out _).mono ?_; rintro e w' ⟨rfl, rfl⟩)
      | (go_at_call 13; refine (HS1.out _).mono ?_; rintro e w' ⟨rfl, rfl⟩)
      | (go_at_call 14; refine (HS2.out _).mono ?_; rintro e w' ⟨rfl, rfl⟩)
      | (go_at_call 8; refine (HAW.out _ HBV.out).mono ?_; rintro e w5 ⟨rfl, hb5⟩))
    go_ret
    exact ⟨rfl, chain HBV.out hb5⟩
  · have hi : (200 : Int) < (s.size : Int) := by omega
    go_enter Tryd.func3, Tryd.ntmps3
    go_wp2_with (go_at_call 8; refine (HAW.out _ (Below.refl _ _)).mono ?_; rintro e w1 ⟨rfl, hb1⟩)
    go_ret
    exact ⟨rfl, hb1⟩
end Go.Proofs.YtmagdlddaoonmaaDoor
