/- FlexLex answers true for every two strings. -/
import Derived.Test.YtgclmnlnbjjgkaaGreatDoorRh10
set_option linter.unusedVariables false
set_option linter.unusedSimpArgs false
namespace Go.Proofs.YtgclmnlnbjjgkaaGreatDoor
open Go.RowKit
/-- The two Lex on one text hand back the same. -/
theorem both_lex (s : ByteArray) (hs : s.size ≤ 281474976710656) (w : World) (hE : ErrIn w) (hG : SgIn w) :
    ∃ (ts : List Fk) (p q : Nat), (∀ W, Below w.heap.size w W → Calls Tryz.prog 7 #[.string s] W fun e w' => ∃ (A : Option Addr) (n c : Nat), e = .returned (.tuple #[.slice A n c, .int .i64 p, .int .i64 q]) ∧ Below W.heap.size W w' ∧ n ≤ 2049 ∧ RdT w' A n ts) ∧
      ∀ W, Calls Tryz.prog 8 #[.string s] W fun e w' => ∃ (A : Option Addr) (n c : Nat), e = .returned (.tuple #[.slice A n c, .int .i64 p, .int .i64 q]) ∧ Below W.heap.size W w' ∧ n ≤ 2049 ∧ RdT w' A n ts := by
  refine ⟨(lexFP s.data.toList).ts.getD [], (lexFP s.data.toList).p, (lexFP s.data.toList).e, fun W hW => ?_, fun W => ?_⟩
  · refine (flex_any s hs W (hE.next hW) (hG.next hW)).mono fun e w' h => ?_
    obtain ⟨hb, A, n, c, he, hn, hr⟩ := flex_rd h
    exact ⟨A, n, c, he, hb, hn, hr⟩
  · refine (rflex_any s hs W).mono fun e w' h => ?_
    obtain ⟨hb, A, n, c, he, hn, hr⟩ := flex_rd h
    exact ⟨A, n, c, he, hb, hn, hr⟩
set_option maxHeartbeats 10000000 in
set_option maxRecDepth 100000 in
theorem flexlex_walk (s t : ByteArray) (w : World) (hE : ErrIn w) (hG : SgIn w) (hz : s.size ≤ 140737488355328) (hz2 : t.size ≤ 140737488355328) : Calls Tryz.prog 3 #[.string s, .string t] w fun e w' => e = .returned (.bool true) ∧ Below w.heap.size w w' := by
  have HAW := Lib.hid (fun (W : World) (h : Below w.heap.size w W) => fawake_any W (hE.next h) (hG.next h))
  have HSH := Lib.hid (fun (g c : Nat) (W : World) (h0 : W.cell? ⟨g, 0, none⟩ = some (.string s)) (h1 : W.cell? ⟨g, 1, none⟩ = some (.string t)) => short2_any s t g c W hz hz2 h0 h1)
  obtain ⟨W1, hW1⟩ : ∃ X, X = w.alloc (.cells #[.string s, .string t] 9) := ⟨_, rfl⟩
  have HW1 := Lib.hid hW1
  have HBX := Lib.hid (show Box W1 w.heap.size 9 #[.string s, .string t] by rw [hW1]; exact Box.laid w _ _)
  have HBW := Lib.hid (show Below w.heap.size w W1 by rw [hW1]; exact (Below.refl _ _).alloc (Nat.le_refl _) _)
  have c0 : W1.cell? ⟨w.heap.size, 0, none⟩ = some (.string s) := HBX.out.cell rfl
  have c1 : W1.cell? ⟨w.heap.size, 1, none⟩ = some (.string t) := HBX.out.cell rfl
  have HS1 := Lib.hid (fun c => HSH.out w.heap.size c W1 c0 c1)
  clear hW1 c0 c1 HSH
  obtain ⟨ts, p, q, h1, h2⟩ := both_lex s (by omega) w hE hG
  have HL1 := Lib.hid h1
  have HL2 := Lib.hid h2
  clear h1 h2 hE hG
  by_cases hgo : s.size ≤ 200 ∧ t.size ≤ 200
  · rw [decide_eq_true hgo] at HS1
    have htm : t.size ≤ maxLen := by unfold maxLen; omega
    have HK1 := Lib.hid (fun W => kw_any t W)
    have HK2 := Lib.hid (fun W => rkw_any t W)
    have HN1 := Lib.hid (fun W => name_any t htm W)
    have HN2 := Lib.hid (fun W => rName_any t htm W)
    generalize kwB t.data.toList = k at HK1 HK2
    generalize nameS t.data.toList = nm at HN1 HN2
    clear hgo htm
    go_enter Tryz.func3, Tryz.ntmps3
    go_wp2_with fail
    rw [← HW1.out]
    go_upto_region 4 with (first
      | (go_at_call 5; refine (HS1.out _).mono ?_; rintro e w' ⟨rfl, rfl⟩)
      | (go_at_call 7; refine (HL1.out _ HBW.out).mono ?_; rintro e w2 ⟨A, n, c, rfl, hb2, hn, hr⟩))
    have HB2 := Lib.hid (chain HBW.out hb2)
    have HR := Lib.hid hr
    clear hb2 hr
    go_upto_region 5 with (go_at_call 8; refine (HL2.out _).mono ?_; rintro e w3 ⟨B, m, d, rfl, hb3, hm, hr3⟩)
    have HB3 := Lib.hid (chain HB2.out hb3)
    have HT := Lib.hid (tokens_any A B n m c d ts w3 (by omega) (HR.out.below hb3) hr3)
    clear hb3 hr3
    go_wp2_with (first
      | (go_at_call 9; refine HT.out.mono ?_; rintro e w' ⟨rfl, q0, rfl⟩)
      | (go_at_call 10; refine (HK1.out _).mono ?_; rintro e w' ⟨rfl, rfl⟩)
      | (go_at_call 11; refine (HK2.out _).mono ?_; rintro e w' ⟨rfl, rfl⟩)
      | (go_at_call 12; refine (HN1.out _).mono ?_; rintro e w' ⟨rfl, rfl⟩)
      | (go_at_call 13; refine (HN2.out _).mono ?_; rintro e w' ⟨rfl, rfl⟩)
      | (go_at_call 6; refine (HAW.out _ (below_drewN10 HB3.out q0)).mono ?_; rintro e w5 ⟨rfl, hb5⟩))
    all_goals go_ret
    all_goals exact ⟨rfl, chain (below_drewN10 HB3.out q0) hb5⟩
  · rw [decide_eq_false hgo] at HS1
    clear hgo
    go_enter Tryz.func3, Tryz.ntmps3
    go_wp2_with fail
    rw [← HW1.out]
    go_wp2_with (first
      | (go_at_call 5; refine (HS1.out _).mono ?_; rintro e w' ⟨rfl, rfl⟩)
      | (go_at_call 6; refine (HAW.out _ HBW.out).mono ?_; rintro e w5 ⟨rfl, hb5⟩))
    go_ret
    exact ⟨rfl, chain HBW.out hb5⟩
end Go.Proofs.YtgclmnlnbjjgkaaGreatDoor
