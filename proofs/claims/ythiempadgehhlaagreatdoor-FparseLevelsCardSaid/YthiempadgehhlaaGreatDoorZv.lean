/- FparseLevels: it answers true for every two ints. -/
import Derived.Test.YthiempadgehhlaaGreatDoorZva
import Derived.Test.YthiempadgehhlaaGreatDoorZvb
import Derived.Test.YthiempadgehhlaaGreatDoorZvc
set_option linter.unusedVariables false
set_option linter.unusedSimpArgs false
set_option linter.unusedSectionVars false
namespace Go.Proofs.YthiempadgehhlaaGreatDoor
open Go.RowKit
theorem levels_walk (z k : Int) (w : World) (hE : ErrIn w) (hG : SgIn w) : Calls Tryz.prog 5 #[.int .i64 z, .int .i64 k] w fun e w' => e = .returned (.bool true) ∧ Below w.heap.size w w' := by
  obtain ⟨d, hd, hm1⟩ := kmod_nat z 9 (by omega) (by omega)
  obtain ⟨e, he, hm2⟩ := kmod_nat k 9 (by omega) (by omega)
  obtain ⟨hb, hS, hN⟩ := lv_mem w
  obtain ⟨q61, q60, q124, q47⟩ := lv_eq d hd
  have hsz : ((⟨#[49, 32]⟩ : ByteArray) ++ bsF (lvO d) ++ (⟨#[32, 50, 32]⟩ : ByteArray) ++ bsF (lvO e) ++ (⟨#[32, 51]⟩ : ByteArray)).size ≤ 281474976710656 := by
    have h1 := lvO_small d
    have h2 := lvO_small e
    simp only [ByteArray.size_append, show (⟨#[49, 32]⟩ : ByteArray).size = 2 from rfl, show (⟨#[32, 50, 32]⟩ : ByteArray).size = 3 from rfl, show (⟨#[32, 51]⟩ : ByteArray).size = 2 from rfl]
    omega
  have HP0 := fun (W : World) (h : Below w.heap.size w W) => fparse_any _ hsz W (hE.next h) (hG.next h)
  rw [lvX_text] at HP0
  by_cases hn : d = e ∧ (d = 2 ∨ d = 6)
  · obtain ⟨f, a, hp⟩ := lv_err hd he hn
    have HP := HP0
    rw [hp] at HP
    obtain ⟨hde, h2⟩ := hn
    by_cases h3 : d = 2
    · exact levels_err61 d e _ _ z k w f a 0 (lvK e) (lvK d) hE hG hd he (lvO_small d) (lvO_small e) (by rw [hde]; simp) (by rw [streqc, q61]; exact decide_eq_true (by omega)) ⟨hb, hS d hd, hS e he, hN e (by omega), hN d (by omega)⟩ hm1 hm2 HP
    · exact levels_err60 d e _ _ z k w f a 0 (lvK e) (lvK d) hE hG hd he (lvO_small d) (lvO_small e) (by rw [hde]; simp) (by rw [streqc, q61]; exact decide_eq_false (by omega)) (by rw [streqc, q60]; exact decide_eq_true (by omega)) ⟨hb, hS d hd, hS e he, hN e (by omega), hN d (by omega)⟩ hm1 hm2 HP
  · obtain ⟨op, tx, v, ps, f0, f1, a, hp, rfl, hf1, hf2⟩ := lv_tree hd he hn
    have HP := HP0
    rw [hp] at HP
    by_cases hde : d = e
    · by_cases h0 : d = 0
      · have hft : lvFirst d e = true := by unfold lvFirst; simp [hde]; omega
        have hg := hf1 hft
        rw [hft] at HP
        exact levels_eq124 d e _ _ z k w tx v ps f0 f1 a (lvK d) (lvK e) (lvK d) (lvK e) hE hG hd he (lvO_small d) (lvO_small e) (by rw [hde]; simp) (by omega) (by rw [streqc, q61]; exact decide_eq_false (by omega)) (by rw [streqc, q60]; exact decide_eq_false (by omega)) (by rw [streqc, q124]; exact decide_eq_true (by omega)) hg.1 hg.2.1 hg.2.2 ⟨hb, hS d hd, hS e he, hN d (by omega), hN e (by omega)⟩ hm1 hm2 HP
      · by_cases h3 : d = 3
        · have hft : lvFirst d e = true := by unfold lvFirst; simp [hde]; omega
          have hg := hf1 hft
          rw [hft] at HP
          exact levels_eq47 d e _ _ z k w tx v ps f0 f1 a (lvK d) (lvK e) (lvK d) (lvK e) hE hG hd he (lvO_small d) (lvO_small e) (by rw [hde]; simp) (by omega) (by rw [streqc, q61]; exact decide_eq_false (by omega)) (by rw [streqc, q60]; exact decide_eq_false (by omega)) (by rw [streqc, q124]; exact decide_eq_false (by omega)) (by rw [streqc, q47]; exact decide_eq_true (by omega)) hg.1 hg.2.1 hg.2.2 ⟨hb, hS d hd, hS e he, hN d (by omega), hN e (by omega)⟩ hm1 hm2 HP
        · have hft : lvFirst d e = false := by unfold lvFirst; simp [hde]; omega
          have hg := hf2 hft
          rw [hft] at HP
          exact levels_eqx d e _ _ z k w tx v ps f0 f1 a (lvK e) (lvK d) (lvK e) (lvK d) hE hG hd he (lvO_small d) (lvO_small e) (by rw [hde]; simp) (by omega) (by rw [streqc, q61]; exact decide_eq_false (by omega)) (by rw [streqc, q60]; exact decide_eq_false (by omega)) (by rw [streqc, q124]; exact decide_eq_false (by omega)) (by rw [streqc, q47]; exact decide_eq_false (by omega)) hg.1 hg.2.1 hg.2.2 ⟨hb, hS d hd, hS e he, hN e (by omega), hN d (by omega)⟩ hm1 hm2 HP
    · by_cases hlt : d < e
      · have hft : lvFirst d e = true := by unfold lvFirst; simp [hlt]
        have hg := hf1 hft
        rw [hft] at HP
        exact levels_lt d e _ _ z k w tx v ps f0 f1 a (lvK d) (lvK e) (lvK d) (lvK e) hE hG hd he (lvO_small d) (lvO_small e) (beq_eq_false_iff_ne.2 (fun h => hde (by omega))) hlt hg.1 hg.2.1 hg.2.2 ⟨hb, hS d hd, hS e he, hN d (by omega), hN e (by omega)⟩ hm1 hm2 HP
      · have hft : lvFirst d e = false := by unfold lvFirst; simp [hlt, hde]
        have hg := hf2 hft
        rw [hft] at HP
        exact levels_gt d e _ _ z k w tx v ps f0 f1 a (lvK e) (lvK d) (lvK e) (lvK d) hE hG hd he (lvO_small d) (lvO_small e) (beq_eq_false_iff_ne.2 (fun h => hde (by omega))) (by omega) hg.1 hg.2.1 hg.2.2 ⟨hb, hS d hd, hS e he, hN e (by omega), hN d (by omega)⟩ hm1 hm2 HP
end Go.Proofs.YthiempadgehhlaaGreatDoor
