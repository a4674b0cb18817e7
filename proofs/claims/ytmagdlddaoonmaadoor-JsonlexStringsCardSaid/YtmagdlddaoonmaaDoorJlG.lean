/- JsonlexStrings answers true for every list of ints, every string and every bool. -/
import Derived.Test.YtmagdlddaoonmaaDoorJlW
import Derived.Test.YtmagdlddaoonmaaDoorKmod
import Derived.Test.YtmagdlddaoonmaaDoorEncA
import Derived.Deep.CutBlock
import Derived.Deep.DeepCutAuto
set_option linter.unusedVariables false
set_option linter.unusedSimpArgs false
namespace Go.Proofs.YtmagdlddaoonmaaDoor
open Go.RowKit
def parts24 : List ByteArray := [⟨#[97]⟩, ⟨#[92, 110]⟩, ⟨#[92, 34]⟩, ⟨#[92, 92]⟩, ⟨#[92, 47]⟩, ⟨#[92, 98]⟩, ⟨#[92, 102]⟩, ⟨#[92, 114]⟩, ⟨#[92, 116]⟩, ⟨#[92, 117, 48, 48, 52, 49]⟩, ⟨#[92, 117, 48, 48, 101, 57]⟩, ⟨#[92, 117, 100, 56, 51, 100, 92, 117, 100, 101, 48, 48]⟩, ⟨#[92, 117, 100, 56, 51, 100]⟩, ⟨#[92, 117, 100, 101, 48, 48]⟩, ⟨#[92, 117, 68, 56, 51, 68, 92, 117, 68, 69, 48, 48]⟩, ⟨#[92, 117, 49, 50]⟩, ⟨#[92, 120]⟩, ⟨#[195, 169]⟩, ⟨#[255]⟩, ⟨#[10]⟩, ⟨#[92, 117, 100, 56, 51, 100, 92, 117, 48, 48, 52, 49]⟩, ⟨#[92, 117, 70, 70, 70, 70]⟩, ⟨#[92, 117, 48, 48, 48, 48]⟩, ⟨#[122]⟩]
def cells24 : Array Value := #[.string ⟨#[97]⟩, .string ⟨#[92, 110]⟩, .string ⟨#[92, 34]⟩, .string ⟨#[92, 92]⟩, .string ⟨#[92, 47]⟩, .string ⟨#[92, 98]⟩, .string ⟨#[92, 102]⟩, .string ⟨#[92, 114]⟩, .string ⟨#[92, 116]⟩, .string ⟨#[92, 117, 48, 48, 52, 49]⟩, .string ⟨#[92, 117, 48, 48, 101, 57]⟩, .string ⟨#[92, 117, 100, 56, 51, 100, 92, 117, 100, 101, 48, 48]⟩, .string ⟨#[92, 117, 100, 56, 51, 100]⟩, .string ⟨#[92, 117, 100, 101, 48, 48]⟩, .string ⟨#[92, 117, 68, 56, 51, 68, 92, 117, 68, 69, 48, 48]⟩, .string ⟨#[92, 117, 49, 50]⟩, .string ⟨#[92, 120]⟩, .string ⟨#[195, 169]⟩, .string ⟨#[255]⟩, .string ⟨#[10]⟩, .string ⟨#[92, 117, 100, 56, 51, 100, 92, 117, 48, 48, 52, 49]⟩, .string ⟨#[92, 117, 70, 70, 70, 70]⟩, .string ⟨#[92, 117, 48, 48, 48, 48]⟩, .string ⟨#[122]⟩]
theorem parts_ok : (parts24.all fun x => decide (x.size ≤ 12)) = true := by decide
theorem cells_at {j : Nat} (h : j < 24) : ∃ y : ByteArray, cells24[j]? = some (.string y) ∧ y.size ≤ 12 := by
  have hl : parts24.length = 24 := rfl
  have hy : parts24[j]? = some parts24[j] := List.getElem?_eq_getElem (by omega)
  refine ⟨parts24[j], ?_, ?_⟩
  · have hc : cells24 = (parts24.map Value.string).toArray := rfl
    rw [hc]
    simp only [List.getElem?_toArray, List.getElem?_map, hy, Option.map_some]
  · have h := List.all_eq_true.1 parts_ok _ (List.mem_of_getElem? hy)
    simpa using h
set_option maxHeartbeats 10000000 in
set_option maxRecDepth 100000 in
theorem lexstrings_walk (A : Option Addr) (c : Nat) (zs : List Int) (tl : ByteArray) (cl : Bool) (w : World) (hE : ErrIn w) (hr : Rd w w.heap.size A (zs.map (Value.int .i64))) (hzm : zs.length ≤ maxLen) (htm : tl.size ≤ 140737488355328) :
    Calls Tryd.prog 4 #[.slice A zs.length c, .string tl, .bool cl] w fun e w' => e = .returned (.bool true) ∧ Below w.heap.size w w' := by
  have HERR := Lib.hid hE
  have HAW := Lib.hid (fun (W : World) (h : Below w.heap.size w W) => awake_any W (hE.next h))
  have HR := Lib.hid hr
  unfold maxLen at hzm
  clear hE hr
  by_cases h30 : zs.length ≤ 30
  · have hq30 : decide ((30 : Int) < (zs.length : Int)) = false := by rw [decide_eq_false_iff_not]; omega
    by_cases h20 : tl.size ≤ 20
    · have hq20 : decide ((20 : Int) < (tl.size : Int)) = false := by rw [decide_eq_false_iff_not]; omega
      have HN1 := Lib.hid (fun (X : ByteArray) (hX : X.size ≤ 1048576) (W : World) (h : Below w.heap.size w W) => lex_open (next_any X 0 hX W (HERR.out.next h)))
      have HN2 := Lib.hid (fun (X : ByteArray) (hX : X.size ≤ 1048576) (W : World) => lex_open (rnext_any X 0 hX W))
      go_enter Tryd.func4, Tryd.ntmps4
      go_wp2
      go_loopw [7, 8] (fun tx ti wr => ∃ (i : Nat) (x : ByteArray), i ≤ zs.length ∧ x.size ≤ 1 + 12 * i ∧ tx = .string x ∧ ti = .int .i64 i ∧ Below w.heap.size w wr) (fun _ ti _ => zs.length - (intOf ti).toNat)
      case atStart => exact ⟨0, ⟨#[34]⟩, Nat.zero_le _, by decide, rfl, rfl, Below.refl _ _⟩
      case round =>
        obtain ⟨i, x, hi, hx, rfl, rfl, hbel⟩ := hrel
        have HBE := Lib.hid hbel
        by_cases hlt : i < zs.length
        · obtain ⟨z, hz⟩ : ∃ z, zs[i]? = some z := ⟨_, List.getElem?_eq_getElem hlt⟩
          obtain ⟨b1, o1, rfl, hb1, hc1⟩ := HR.out.at_ (j := i) (u := .int .i64 z) (by simp [hz])
          have hc2 : wr.cell? ⟨b1, o1 + i, none⟩ = some (.int .i64 z) := (hbel.cell hb1).trans hc1
          have hb1r : b1 < wr.heap.size := Nat.lt_of_lt_of_le hb1 hbel.size
          obtain ⟨m, hm24, hmod⟩ := kmod_nat z 24 (by omega) (by omega)
          have HMOD := Lib.hid hmod
          have hi0 : (0 : Int) ≤ (i : Int) := by omega
          have hi1 : (i : Int) < (zs.length : Int) := by omega
          clear hmod hc1 hz hbel
          go_upto_region 9 with (go_at_call 15; refine (HMOD.out _).mono ?_; rintro e w' ⟨rfl, rfl⟩)
          obtain ⟨W2, hW2⟩ : ∃ X, X = wr.alloc (.cells #[.string ⟨#[97]⟩, .string ⟨#[92, 110]⟩, .string ⟨#[92, 34]⟩, .string ⟨#[92, 92]⟩, .string ⟨#[92, 47]⟩, .string ⟨#[92, 98]⟩, .string ⟨#[92, 102]⟩, .string ⟨#[92, 114]⟩, .string ⟨#[92, 116]⟩, .string ⟨#[92, 117, 48, 48, 52, 49]⟩, .string ⟨#[92, 117, 48, 48, 101, 57]⟩, .string ⟨#[92, 117, 100, 56, 51, 100, 92, 117, 100, 101, 48, 48]⟩, .string ⟨#[92, 117, 100, 56, 51, 100]⟩, .string ⟨#[92, 117, 100, 101, 48, 48]⟩, .string ⟨#[92, 117, 68, 56, 51, 68, 92, 117, 68, 69, 48, 48]⟩, .string ⟨#[92, 117, 49, 50]⟩, .string ⟨#[92, 120]⟩, .string ⟨#[195, 169]⟩, .string ⟨#[255]⟩, .string ⟨#[10]⟩, .string ⟨#[92, 117, 100, 56, 51, 100, 92, 117, 48, 48, 52, 49]⟩, .string ⟨#[92, 117, 70, 70, 70, 70]⟩, .string ⟨#[92, 117, 48, 48, 48, 48]⟩, .string ⟨#[122]⟩] 9) := ⟨_, rfl⟩
          rw [← hW2]
          have hbx : Box W2 wr.heap.size 9 cells24 := by rw [hW2]; exact Box.laid wr _ _
          have hc3 : W2.cell? ⟨b1, o1 + i, none⟩ = some (.int .i64 z) := by rw [hW2]; exact (World.cell?_alloc_lt _ _ _ (by simpa using hb1r)).trans hc2
          have HBW := Lib.hid (show Below w.heap.size w W2 by rw [hW2]; exact HBE.out.alloc HBE.out.size _)
          have HBX := Lib.hid hbx
          clear hbx hW2 hc2 hb1r
          generalize wr.heap.size = g at *
          have hcase : m < 12 ∨ 20 < m ∨ m = 14 ∨ m = 17 ∨ (12 ≤ m ∧ m ≤ 20 ∧ m ≠ 14 ∧ m ≠ 17 ∧ z.tmod 5 ≠ 0) ∨ (12 ≤ m ∧ m ≤ 20 ∧ m ≠ 14 ∧ m ≠ 17 ∧ z.tmod 5 = 0) := by omega
          rcases hcase with h | h | h | h | ⟨h1, h2, h3, h4, h5⟩ | ⟨h1, h2, h3, h4, h5⟩
          · have q1 : ¬ (12 : Int) ≤ (m : Int) := by omega
            clear h
            obtain ⟨y, hy, hy12⟩ := cells_at (j := m) (by omega)
            have hcy := HBX.out.cell hy
            have hm0 : (0 : Int) ≤ (m : Int) := by omega
            have hm1 : (m : Int) < 24 := by omega
            clear hy
            go_wp2_with fail
            go_roundw
            case rel => exact ⟨i + 1, x ++ y, by omega, by simp; omega, rfl, by go_num, HBW.out⟩
            case measure => simp [intOf]; omega
          · have q1 : (12 : Int) ≤ (m : Int) := by omega
            have q2 : ¬ (m : Int) ≤ 20 := by omega
            clear h
            obtain ⟨y, hy, hy12⟩ := cells_at (j := m) (by omega)
            have hcy := HBX.out.cell hy
            have hm0 : (0 : Int) ≤ (m : Int) := by omega
            have hm1 : (m : Int) < 24 := by omega
            clear hy
            go_wp2_with fail
            go_roundw
            case rel => exact ⟨i + 1, x ++ y, by omega, by simp; omega, rfl, by go_num, HBW.out⟩
            case measure => simp [intOf]; omega
          · subst h
            obtain ⟨y, hy, hy12⟩ := cells_at (j := 14) (by omega)
            have hcy := HBX.out.cell hy
            have hm0 : (0 : Int) ≤ (14 : Int) := by omega
            have hm1 : (14 : Int) < 24 := by omega
            clear hy
            go_wp2_with fail
            go_roundw
            case rel => exact ⟨i + 1, x ++ y, by omega, by simp; omega, rfl, by go_num, HBW.out⟩
            case measure => simp [intOf]; omega
          · subst h
            obtain ⟨y, hy, hy12⟩ := cells_at (j := 17) (by omega)
            have hcy := HBX.out.cell hy
            have hm0 : (0 : Int) ≤ (17 : Int) := by omega
            have hm1 : (17 : Int) < 24 := by omega
            clear hy
            go_wp2_with fail
            go_roundw
            case rel => exact ⟨i + 1, x ++ y, by omega, by simp; omega, rfl, by go_num, HBW.out⟩
            case measure => simp [intOf]; omega
          · have q1 : (12 : Int) ≤ (m : Int) := by omega
            have q2 : (m : Int) ≤ 20 := by omega
            have q3 : ((m : Int) != 14) = true := by rw [bne_iff_ne]; omega
            have q4 : ((m : Int) != 17) = true := by rw [bne_iff_ne]; omega
            have q5 : (z.tmod 5 != 0) = true := by rw [bne_iff_ne]; exact h5
            clear h1 h2 h3 h4 h5
            obtain ⟨y, hy, hy12⟩ := cells_at (j := 0) (by omega)
            have hcy := HBX.out.cell hy
            have hm0 : (0 : Int) ≤ (0 : Int) := by omega
            have hm1 : (0 : Int) < 24 := by omega
            clear hy
            go_wp2_with fail
            go_roundw
            case rel => exact ⟨i + 1, x ++ y, by omega, by simp; omega, rfl, by go_num, HBW.out⟩
            case measure => simp [intOf]; omega
          · have q1 : (12 : Int) ≤ (m : Int) := by omega
            have q2 : (m : Int) ≤ 20 := by omega
            have q3 : ((m : Int) != 14) = true := by rw [bne_iff_ne]; omega
            have q4 : ((m : Int) != 17) = true := by rw [bne_iff_ne]; omega
            have q5 : (z.tmod 5 != 0) = false := by rw [bne_eq_false_iff_eq]; exact h5
            clear h1 h2 h3 h4 h5
            obtain ⟨y, hy, hy12⟩ := cells_at (j := m) (by omega)
            have hcy := HBX.out.cell hy
            have hm0 : (0 : Int) ≤ (m : Int) := by omega
            have hm1 : (m : Int) < 24 := by omega
            clear hy
            go_wp2_with fail
            go_roundw
            case rel => exact ⟨i + 1, x ++ y, by omega, by simp; omega, rfl, by go_num, HBW.out⟩
            case measure => simp [intOf]; omega
        · clear hbel
          cases cl
          · obtain ⟨X, hX⟩ : ∃ X, x ++ tl = X := ⟨_, rfl⟩
            have hXs : X.size ≤ 1048576 := by rw [← hX, ByteArray.size_append]; omega
            have hx1 := fun W h => HN1.out X hXs W h
            have hx2 := fun W => HN2.out X hXs W
            generalize lexP X.data.toList 0 = L at hx1 hx2
            obtain ⟨K, F, T, B, I, S, P, E⟩ := L
            simp only at hx1 hx2
            have HX1 := Lib.hid hx1
            have HX2 := Lib.hid hx2
            clear hx1 hx2 hXs
            go_upto_region 16 with (go_at_call 9; refine (HX1.out _ HBE.out).mono ?_; rintro e w1 ⟨rfl, hb1⟩)
            obtain ⟨W2, hW2⟩ : ∃ Y, Y = w1.alloc (.cells #[.int .i64 K, .int .i64 F, .int .i64 T, .int .u8 B, .int .i64 I, .string S] 24) := ⟨_, rfl⟩
            rw [← hW2]
            have HBX := Lib.hid (show Box W2 w1.heap.size 24 #[.int .i64 K, .int .i64 F, .int .i64 T, .int .u8 B, .int .i64 I, .string S] by rw [hW2]; exact Box.laid w1 _ _)
            have HBW := Lib.hid (show Below w.heap.size w W2 by rw [hW2]; exact chain HBE.out (hb1.alloc hb1.size _))
            clear hW2 hb1
            generalize w1.heap.size = g at *
            go_upto_region 17 with (go_at_call 10; refine (HX2.out _).mono ?_; rintro e w3 ⟨rfl, hb3⟩)
            obtain ⟨W4, hW4⟩ : ∃ Y, Y = w3.alloc (.cells #[.int .i64 K, .int .i64 F, .int .i64 T, .int .u8 B, .int .i64 I, .string S] 24) := ⟨_, rfl⟩
            rw [← hW4]
            have bx2 : Box W4 w3.heap.size 24 #[.int .i64 K, .int .i64 F, .int .i64 T, .int .u8 B, .int .i64 I, .string S] := by rw [hW4]; exact Box.laid w3 _ _
            have bx1 : Box W4 g 24 #[.int .i64 K, .int .i64 F, .int .i64 T, .int .u8 B, .int .i64 I, .string S] := by rw [hW4]; exact (HBX.out.below hb3 HBX.out.lt).alloc _
            have HBV := Lib.hid (show Below w.heap.size w W4 by rw [hW4]; exact chain HBW.out (hb3.alloc hb3.size _))
            obtain ⟨t0, t1, t2, t3, t4, t5⟩ := box6 bx1
            obtain ⟨v0, v1, v2, v3, v4, v5⟩ := box6 bx2
            clear bx1 bx2 hW4 hb3
            generalize w3.heap.size = g2 at *
            go_wp2_with (go_at_call 8; refine (HAW.out _ HBV.out).mono ?_; rintro e w5 ⟨rfl, hb5⟩)
            go_ret
            exact ⟨rfl, chain HBV.out hb5⟩
          · obtain ⟨X, hX⟩ : ∃ X, x ++ tl ++ ⟨#[34]⟩ = X := ⟨_, rfl⟩
            have hXs : X.size ≤ 1048576 := by
              have h1 : (⟨#[34]⟩ : ByteArray).size = 1 := rfl
              rw [← hX, ByteArray.size_append, ByteArray.size_append, h1]; omega
            have hx1 := fun W h => HN1.out X hXs W h
            have hx2 := fun W => HN2.out X hXs W
            generalize lexP X.data.toList 0 = L at hx1 hx2
            obtain ⟨K, F, T, B, I, S, P, E⟩ := L
            simp only at hx1 hx2
            have HX1 := Lib.hid hx1
            have HX2 := Lib.hid hx2
            clear hx1 hx2 hXs
            go_upto_region 16 with (go_at_call 9; refine (HX1.out _ HBE.out).mono ?_; rintro e w1 ⟨rfl, hb1⟩)
            obtain ⟨W2, hW2⟩ : ∃ Y, Y = w1.alloc (.cells #[.int .i64 K, .int .i64 F, .int .i64 T, .int .u8 B, .int .i64 I, .string S] 24) := ⟨_, rfl⟩
            rw [← hW2]
            have HBX := Lib.hid (show Box W2 w1.heap.size 24 #[.int .i64 K, .int .i64 F, .int .i64 T, .int .u8 B, .int .i64 I, .string S] by rw [hW2]; exact Box.laid w1 _ _)
            have HBW := Lib.hid (show Below w.heap.size w W2 by rw [hW2]; exact chain HBE.out (hb1.alloc hb1.size _))
            clear hW2 hb1
            generalize w1.heap.size = g at *
            go_upto_region 17 with (go_at_call 10; refine (HX2.out _).mono ?_; rintro e w3 ⟨rfl, hb3⟩)
            obtain ⟨W4, hW4⟩ : ∃ Y, Y = w3.alloc (.cells #[.int .i64 K, .int .i64 F, .int .i64 T, .int .u8 B, .int .i64 I, .string S] 24) := ⟨_, rfl⟩
            rw [← hW4]
            have bx2 : Box W4 w3.heap.size 24 #[.int .i64 K, .int .i64 F, .int .i64 T, .int .u8 B, .int .i64 I, .string S] := by rw [hW4]; exact Box.laid w3 _ _
            have bx1 : Box W4 g 24 #[.int .i64 K, .int .i64 F, .int .i64 T, .int .u8 B, .int .i64 I, .string S] := by rw [hW4]; exact (HBX.out.below hb3 HBX.out.lt).alloc _
            have HBV := Lib.hid (show Below w.heap.size w W4 by rw [hW4]; exact chain HBW.out (hb3.alloc hb3.size _))
            obtain ⟨t0, t1, t2, t3, t4, t5⟩ := box6 bx1
            obtain ⟨v0, v1, v2, v3, v4, v5⟩ := box6 bx2
            clear bx1 bx2 hW4 hb3
            generalize w3.heap.size = g2 at *
            go_wp2_with (go_at_call 8; refine (HAW.out _ HBV.out).mono ?_; rintro e w5 ⟨rfl, hb5⟩)
            go_ret
            exact ⟨rfl, chain HBV.out hb5⟩
    · have hi : (20 : Int) < (tl.size : Int) := by omega
      go_enter Tryd.func4, Tryd.ntmps4
      go_wp2_with (go_at_call 8; refine (HAW.out _ (Below.refl _ _)).mono ?_; rintro e w1 ⟨rfl, hb1⟩)
      go_ret
      exact ⟨rfl, hb1⟩
  · have hi : (30 : Int) < (zs.length : Int) := by omega
    go_enter Tryd.func4, Tryd.ntmps4
    go_wp2_with (go_at_call 8; refine (HAW.out _ (Below.refl _ _)).mono ?_; rintro e w1 ⟨rfl, hb1⟩)
    go_ret
    exact ⟨rfl, hb1⟩
end Go.Proofs.YtmagdlddaoonmaaDoor
