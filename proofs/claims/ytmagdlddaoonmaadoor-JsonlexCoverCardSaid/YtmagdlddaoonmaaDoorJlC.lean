/- JsonlexCover answers true for every text. -/
import Derived.Test.YtmagdlddaoonmaaDoorJlA
import Derived.Deep.CutBlock
import Derived.Deep.DeepCutAuto
set_option linter.unusedVariables false
set_option linter.unusedSimpArgs false
namespace Go.Proofs.YtmagdlddaoonmaaDoor
open Go.RowKit
set_option maxHeartbeats 10000000 in
set_option maxRecDepth 100000 in
theorem cover_walk (s : ByteArray) (w : World) (hE : ErrIn w) (hs63 : s.size ≤ 140737488355328) : Calls Tryd.prog 6 #[.string s] w fun e w' => e = .returned (.bool true) ∧ Below w.heap.size w w' := by
  have HERR := Lib.hid hE
  have HAW := Lib.hid (fun (W : World) (h : Below w.heap.size w W) => awake_any W (hE.next h))
  clear hE
  by_cases hlen : s.size ≤ 200
  · have hl : s.data.toList.length = s.size := by simp
    have HL := Lib.hid hl
    clear hl hs63
    have hq200 : decide ((200 : Int) < (s.size : Int)) = false := by rw [decide_eq_false_iff_not]; omega
    have HNX := Lib.hid (fun (W : World) (at_ : Nat) (h : Below w.heap.size w W) => lex_open (next_any s (at_ : Int) (by omega) W (HERR.out.next h)))
    go_enter Tryd.func6, Tryd.ntmps6
    go_wp2
    go_loopw [3, 4] (fun ta ti wr => ∃ at_ i : Nat, i ≤ at_ ∧ at_ ≤ s.size ∧ ta = .int .i64 at_ ∧ ti = .int .i64 i ∧ Below w.heap.size w wr) (fun _ ti _ => s.size + 2 - (intOf ti).toNat)
    case atStart => exact ⟨0, 0, Nat.le_refl _, Nat.zero_le _, rfl, rfl, Below.refl _ _⟩
    case round =>
      obtain ⟨at_, i, hia, has, rfl, rfl, hbel⟩ := hrel
      have HBE := Lib.hid hbel
      clear hbel
      have hnx := HNX.out wr at_ HBE.out
      have hok := lexP_ok (l := s.data.toList) (k := at_) (by rw [HL.out]; exact has)
      generalize lexP s.data.toList (at_ : Int) = x at hnx hok
      obtain ⟨K, F, T, B, I, S, P, E⟩ := x
      simp only at hnx hok
      have HN := Lib.hid hnx
      have HOK := Lib.hid hok
      clear hnx hok
      by_cases hE0 : E = 0
      · obtain ⟨h1, ⟨-, h2, h3, h4⟩, h5⟩ := HOK.out hE0
        simp only at h2 h3 h4
        rw [HL.out] at h3 h4
        subst h2
        have hFT : F ≤ P := by omega
        have HBL := Lib.hid h5
        have H4 := Lib.hid h4
        have qe : ((E : Int) != 0) = false := by rw [hE0]; rfl
        clear h4 h5 HOK hE0
        go_upto_region 8 with (go_at_call 9; refine HN.out.mono ?_; rintro e w1 ⟨rfl, hb1⟩)
        obtain ⟨W2, hW2⟩ : ∃ X, X = w1.alloc (.cells #[.int .i64 K, .int .i64 F, .int .i64 P, .int .u8 B, .int .i64 I, .string S] 24) := ⟨_, rfl⟩
        rw [← hW2]
        have bx : Box W2 w1.heap.size 24 #[.int .i64 K, .int .i64 F, .int .i64 P, .int .u8 B, .int .i64 I, .string S] := by rw [hW2]; exact Box.laid w1 _ _
        have HBW := Lib.hid (show Below w.heap.size w W2 by rw [hW2]; exact chain HBE.out (hb1.alloc hb1.size _))
        obtain ⟨t0, t1, t2, t3, t4, t5⟩ := box6 bx
        clear bx hW2 hb1
        generalize w1.heap.size = g at *
        have q1 : decide ((F : Int) < (at_ : Int)) = false := by rw [decide_eq_false_iff_not]; omega
        have q1' : decide (F < at_) = false := by rw [decide_eq_false_iff_not]; omega
        have q2 : decide ((P : Int) < (F : Int)) = false := by rw [decide_eq_false_iff_not]; omega
        have q2' : decide (P < F) = false := by rw [decide_eq_false_iff_not]; omega
        have q3 : decide ((s.size : Int) < (P : Int)) = false := by rw [decide_eq_false_iff_not]; omega
        have q3' : decide (s.size < P) = false := by rw [decide_eq_false_iff_not]; omega
        go_wp2
        go_loop [8] (fun t => ∃ k : Nat, at_ ≤ k ∧ k ≤ F ∧ t = .int .i64 k) (fun t => F - (intOf t).toNat)
        case atStart => exact ⟨at_, Nat.le_refl _, h1, rfl⟩
        case round =>
          obtain ⟨k, hk1, hk2, rfl⟩ := hrel
          by_cases hkf : k < F
          · have hks : k < s.size := by omega
            obtain ⟨b, hb⟩ : ∃ b, s[k] = b := ⟨_, rfl⟩
            have hbl : blankB b = true := by
              have h := HBL.out k (by rw [HL.out]; exact hks) hk1 hkf
              rw [← hb]; exact h
            have HB := Lib.hid (by have h := blank_any b W2; rw [hbl] at h; exact h)
            clear hbl
            go_wp2_with (go_at_call 11; refine HB.out.mono ?_; rintro e w' ⟨rfl, rfl⟩)
            go_round
            case rel => exact ⟨k + 1, by omega, by omega, by go_num⟩
            case measure => simp [intOf]; omega
          · have qk : decide ((k : Int) < (F : Int)) = false := by rw [decide_eq_false_iff_not]; omega
            rcases H4.out with ⟨h6, h7, h8⟩ | ⟨h6, h7⟩
            · have q4 : ((K : Int) == 0) = true := by rw [beq_iff_eq]; omega
              have q5 : ((F : Int) == (s.size : Int)) = true := by rw [beq_iff_eq]; omega
              have q6 : ((P : Int) == (s.size : Int)) = true := by rw [beq_iff_eq]; omega
              clear h6 h7 h8
              go_wp2_with (go_at_call 8; refine (HAW.out _ HBW.out).mono ?_; rintro e w3 ⟨rfl, hb3⟩)
              go_ret
              exact ⟨rfl, chain HBW.out hb3⟩
            · have q4 : ((K : Int) == 0) = false := beq_eq_false_iff_ne.2 (fun h => h6 (by omega))
              have q5 : ((P : Int) == (F : Int)) = false := beq_eq_false_iff_ne.2 (fun h => by omega)
              clear h6
              go_wp2_with fail
              go_roundw
              case rel => exact ⟨P, i + 1, by omega, by omega, rfl, by go_num, HBW.out⟩
              case measure => simp [intOf]; omega
      · have qe : ((E : Int) != 0) = true := by rw [bne_iff_ne]; omega
        clear HOK hE0
        go_wp2_with (first
          | (go_at_call 9; refine HN.out.mono ?_; rintro e w1 ⟨rfl, hb1⟩)
          | (go_at_call 8; refine (HAW.out _ (chain HBE.out (hb1.alloc hb1.size _))).mono ?_; rintro e w3 ⟨rfl, hb3⟩))
        go_ret
        exact ⟨rfl, chain HBE.out (chain (hb1.alloc hb1.size _) hb3)⟩
  · have hi : (200 : Int) < (s.size : Int) := by omega
    go_enter Tryd.func6, Tryd.ntmps6
    go_wp2_with (go_at_call 8; refine (HAW.out _ (Below.refl _ _)).mono ?_; rintro e w1 ⟨rfl, hb1⟩)
    go_ret
    exact ⟨rfl, hb1⟩
end Go.Proofs.YtmagdlddaoonmaaDoor
