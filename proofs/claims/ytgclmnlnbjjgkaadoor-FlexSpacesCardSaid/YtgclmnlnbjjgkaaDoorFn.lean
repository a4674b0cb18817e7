/- FlexNames answers true for every string. -/
import Derived.Test.YtgclmnlnbjjgkaaDoorFh
set_option linter.unusedVariables false
set_option linter.unusedSimpArgs false
namespace Go.Proofs.YtgclmnlnbjjgkaaDoor
open Go.RowKit
theorem bs_self (s : ByteArray) : bsF s.data.toList = s := by
  unfold bsF
  obtain ⟨⟨l⟩⟩ := s
  rfl
theorem cons_list (c : UInt8) (s : ByteArray) : ((⟨#[c]⟩ : ByteArray) ++ s).data.toList = c :: s.data.toList := by
  simp [ByteArray.data_append]
theorem cons_size (c : UInt8) (s : ByteArray) : ((⟨#[c]⟩ : ByteArray) ++ s).size = s.size + 1 := by
  rw [ByteArray.size_append]
  show 1 + s.size = _
  omega
/-- Lex at a text that is one token. -/
theorem one_any (t : ByteArray) (K : Nat) (s : ByteArray) (q : Fk) (ht : t.size ≤ 1048576) (hl : lexFP t.data.toList = ⟨some [⟨K, 0, s, 0⟩, q], 0, 0⟩) (w W : World) (hW : Below w.heap.size w W) (hE : ErrIn w) (hG : SgIn w) :
    Calls Tryd.prog 6 #[.string t] W fun e w' => ∃ g c, e = .returned (.tuple #[.slice (some ⟨g, 0, none⟩) 2 c, .int .i64 0, .int .i64 0]) ∧ Below W.heap.size W w' ∧ g < w'.heap.size ∧ w'.cell? ⟨g, 0, none⟩ = some (.int .i64 (K : Nat)) ∧ w'.cell? ⟨g, 1, none⟩ = some (.int .i64 0) ∧ w'.cell? ⟨g, 2, none⟩ = some (.string s) ∧ w'.cell? ⟨g, 3, none⟩ = some (.int .i64 0) := by
  refine (flex_any t (by omega) W (hE.next hW) (hG.next hW)).mono fun e w' h => ?_
  obtain ⟨hb, g, c, rfl, -, hlt, hc⟩ := flex_open h hl (by simp)
  exact ⟨g, c, rfl, hb, hlt, hc 0 _ rfl, hc 1 _ rfl, hc 2 _ rfl, hc 3 _ rfl⟩
set_option maxHeartbeats 10000000 in
set_option maxRecDepth 100000 in
theorem flexnames_walk (s : ByteArray) (w : World) (hE : ErrIn w) (hG : SgIn w) (hz : s.size ≤ 140737488355328) : Calls Tryd.prog 5 #[.string s] w fun e w' => e = .returned (.bool true) ∧ Below w.heap.size w w' := by
  have HAW := Lib.hid (fun (W : World) (h : Below w.heap.size w W) => fawake_any W (hE.next h) (hG.next h))
  by_cases h50 : s.size ≤ 50
  · have hsm : s.size ≤ maxLen := by unfold maxLen; omega
    have HN := Lib.hid (fun W => name_any s hsm W)
    have q50 : ¬ (50 : Int) < (s.size : Int) := by omega
    cases hn : nameS s.data.toList with
    | false =>
      rw [hn] at HN
      clear hsm hn
      go_enter Tryd.func5, Tryd.ntmps5
      go_wp2_with (first
        | (go_at_call 10; refine (HN.out _).mono ?_; rintro e w' ⟨rfl, rfl⟩)
        | (go_at_call 7; refine (HAW.out _ (Below.refl _ _)).mono ?_; rintro e w1 ⟨rfl, hb1⟩))
      go_ret
      exact ⟨rfl, hb1⟩
    | true =>
      rw [hn] at HN
      have h32 : s.size ≤ 32 := by
        have h := (nameS_split hn).2.1
        simpa using h
      have q32 : ¬ (32 : Int) < (s.size : Int) := by omega
      have qa : ¬ (1 + s.size > 9223372036854775807) := by omega
      have HKW := Lib.hid (fun W => kw_any s W)
      have hx1 := lex_name hn
      have hx2 := lex_field hn
      have hx3 := lex_var hn
      rw [bs_self] at hx1 hx2 hx3
      obtain ⟨k, hk⟩ : ∃ k, kwB s.data.toList = k := ⟨_, rfl⟩
      rw [hk] at HKW hx1
      obtain ⟨K, hK⟩ : ∃ K : Nat, (if k = true then 2 else 1) = K := ⟨_, rfl⟩
      rw [hK] at hx1
      have HL1 := Lib.hid (fun (W : World) (h : Below w.heap.size w W) => one_any s K s _ (by omega) hx1 w W h hE hG)
      have HL2 := Lib.hid (fun (W : World) (h : Below w.heap.size w W) => one_any (⟨#[46]⟩ ++ s) 4 s _ (by rw [cons_size]; omega) (by rw [cons_list]; exact hx2) w W h hE hG)
      have HL3 := Lib.hid (fun (W : World) (h : Below w.heap.size w W) => one_any (⟨#[36]⟩ ++ s) 3 s _ (by rw [cons_size]; omega) (by rw [cons_list]; exact hx3) w W h hE hG)
      clear hsm hn hk hx1 hx2 hx3 hE hG hz
      go_enter Tryd.func5, Tryd.ntmps5
      go_upto_region 4 with (first
        | (go_at_call 10; refine (HN.out _).mono ?_; rintro e w' ⟨rfl, rfl⟩)
        | (go_at_call 6; refine (HL1.out _ (Below.refl _ _)).mono ?_; rintro e w1 ⟨g1, c1, rfl, hb1, hl1, a0, a1, a2, a3⟩))
      go_upto_region 5 with (go_at_call 6; refine (HL2.out _ hb1).mono ?_; rintro e w2 ⟨g2, c2, rfl, hb2, hl2, b0, b1, b2, b3⟩)
      have HB2 := Lib.hid (chain hb1 hb2)
      go_upto_region 6 with (go_at_call 6; refine (HL3.out _ HB2.out).mono ?_; rintro e w3 ⟨g3, c3, rfl, hb3, hl3, d0, d1, d2, d3⟩)
      have HB3 := Lib.hid (chain HB2.out hb3)
      have hA : Below w1.heap.size w1 w3 := chain hb2 hb3
      have A0 := (hA.cell (p := ⟨g1, 0, none⟩) hl1).trans a0
      have A1 := (hA.cell (p := ⟨g1, 1, none⟩) hl1).trans a1
      have A2 := (hA.cell (p := ⟨g1, 2, none⟩) hl1).trans a2
      have A3 := (hA.cell (p := ⟨g1, 3, none⟩) hl1).trans a3
      have B0 := (hb3.cell (p := ⟨g2, 0, none⟩) hl2).trans b0
      have B1 := (hb3.cell (p := ⟨g2, 1, none⟩) hl2).trans b1
      have B2 := (hb3.cell (p := ⟨g2, 2, none⟩) hl2).trans b2
      have B3 := (hb3.cell (p := ⟨g2, 3, none⟩) hl2).trans b3
      clear hA a0 a1 a2 a3 b0 b1 b2 b3 hb1 hb2 hb3 hl1 hl2 hl3
      cases k
      all_goals
        simp only [Bool.false_eq_true, if_false, if_true] at hK
        subst hK
        go_wp2_with (first
          | (go_at_call 11; refine (HKW.out _).mono ?_; rintro e w' ⟨rfl, rfl⟩)
          | (go_at_call 7; refine (HAW.out _ HB3.out).mono ?_; rintro e w5 ⟨rfl, hb5⟩))
        all_goals go_ret
        all_goals exact ⟨rfl, chain HB3.out hb5⟩
  · have hi : (50 : Int) < (s.size : Int) := by omega
    go_enter Tryd.func5, Tryd.ntmps5
    go_wp2_with (go_at_call 7; refine (HAW.out _ (Below.refl _ _)).mono ?_; rintro e w1 ⟨rfl, hb1⟩)
    go_ret
    exact ⟨rfl, hb1⟩
end Go.Proofs.YtgclmnlnbjjgkaaDoor
