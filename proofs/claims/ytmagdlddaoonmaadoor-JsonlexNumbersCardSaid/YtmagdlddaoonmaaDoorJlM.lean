/- JsonlexNumbers answers true for every number. -/
import Derived.Test.YtmagdlddaoonmaaDoorJlA
import Derived.Test.YtmagdlddaoonmaaDoorDgT
set_option linter.unusedVariables false
set_option linter.unusedSimpArgs false
namespace Go.Proofs.YtmagdlddaoonmaaDoor
open Go.RowKit
theorem int64_range {z : Int} (h : (Lit.int .i64 z).wf = true) : -9223372036854775808 ≤ z ∧ z ≤ 9223372036854775807 := by
  have e1 : IntKind.i64.min = -9223372036854775808 := rfl
  have e2 : IntKind.i64.max = 9223372036854775807 := rfl
  simp [Lit.wf, e1, e2] at h
  omega
set_option maxHeartbeats 10000000 in
set_option maxRecDepth 100000 in
theorem lexnumbers_walk (n : Int) (hn : -9223372036854775808 ≤ n ∧ n ≤ 9223372036854775807) (w : World) (hE : ErrIn w) : Calls Tryd.prog 5 #[.int .i64 n] w fun e w' => e = .returned (.bool true) ∧ Below w.heap.size w w' := by
  have HERR := Lib.hid hE
  have HAW := Lib.hid (fun (W : World) (h : Below w.heap.size w W) => awake_any W (hE.next h))
  have ht := fun W => text_num n hn W
  unfold numV at ht
  obtain ⟨hb1, hb2⟩ := numL_len hn
  obtain ⟨s, hs⟩ : ∃ s : ByteArray, ⟨(numL n).toArray⟩ = s := ⟨_, rfl⟩
  rw [hs] at ht
  have HT := Lib.hid ht
  have hsl : s.data.toList = numL n := by rw [← hs]
  have hsz : s.size = (numL n).length := by rw [← hs]; simp [ByteArray.size]
  obtain ⟨X2, hX2⟩ : ∃ X, s ++ ⟨#[46, 48]⟩ = X := ⟨_, rfl⟩
  obtain ⟨X3, hX3⟩ : ∃ X, s ++ ⟨#[101, 49]⟩ = X := ⟨_, rfl⟩
  obtain ⟨X4, hX4⟩ : ∃ X, (⟨#[48]⟩ : ByteArray) ++ s = X := ⟨_, rfl⟩
  have hx2 : X2.data.toList = numL n ++ [46, 48] := by rw [← hX2, ByteArray.data_append, Array.toList_append, hsl]
  have hx3 : X3.data.toList = numL n ++ [101, 49] := by rw [← hX3, ByteArray.data_append, Array.toList_append, hsl]
  have hx4 : X4.data.toList = 48 :: numL n := by rw [← hX4, ByteArray.data_append, Array.toList_append, hsl]; rfl
  have hz2 : X2.size ≤ 100 := by
    have h := congrArg List.length hx2
    have h2 : X2.data.toList.length = X2.size := by simp
    rw [h2] at h
    simp at h
    omega
  have hz3 : X3.size ≤ 100 := by
    have h := congrArg List.length hx3
    have h2 : X3.data.toList.length = X3.size := by simp
    rw [h2] at h
    simp at h
    omega
  have hz4 : X4.size ≤ 100 := by
    have h := congrArg List.length hx4
    have h2 : X4.data.toList.length = X4.size := by simp
    rw [h2] at h
    simp at h
    omega
  have hl1 : lexP s.data.toList 0 = okX 3 0 s.size 0 n ⟨#[]⟩ := by
    have h := numP_text n hn [] (fun b h => by cases h)
    rw [if_neg (by decide), List.append_nil] at h
    rw [hsl, h, hsz]
  have hl2 : lexP X2.data.toList 0 = noX 0 7 := by
    rw [hx2, numP_text n hn [46, 48] (fun b h => by simp at h; subst h; rfl)]
    exact if_pos (by decide)
  have hl3 : lexP X3.data.toList 0 = noX 0 7 := by
    rw [hx3, numP_text n hn [101, 49] (fun b h => by simp at h; subst h; rfl)]
    exact if_pos (by decide)
  have HN1 := Lib.hid (fun (W : World) (h : Below w.heap.size w W) => lex_open (lex_as (next_any s 0 (by omega) W (HERR.out.next h)) (x := lexP s.data.toList 0) hl1.symm))
  have HN2 := Lib.hid (fun (W : World) (h : Below w.heap.size w W) => lex_open (lex_as (next_any X2 0 (by omega) W (HERR.out.next h)) (x := lexP X2.data.toList 0) hl2.symm))
  have HN3 := Lib.hid (fun (W : World) (h : Below w.heap.size w W) => lex_open (lex_as (next_any X3 0 (by omega) W (HERR.out.next h)) (x := lexP X3.data.toList 0) hl3.symm))
  have hss : s.size ≤ 21 := by omega
  have HSZ := Lib.hid hsz
  clear hE ht hs hsl hb1 hb2 hsz
  by_cases hneg : n < 0
  · skip
    have hl4 : lexP X4.data.toList 0 = okX 3 0 1 0 0 ⟨#[]⟩ := by rw [hx4, numP_zero]; exact if_pos hneg
    have HN4 := Lib.hid (fun (W : World) (h : Below w.heap.size w W) => lex_open (lex_as (next_any X4 0 (by omega) W (HERR.out.next h)) (x := lexP X4.data.toList 0) hl4.symm))
    simp only [okX, noX] at HN1 HN2 HN3 HN4
    clear hl4 hl1 hl2 hl3 hx2 hx3 hx4 
    go_enter Tryd.func5, Tryd.ntmps5
    go_wp2_with (first
      | (go_at_call 16; refine (HT.out _).mono ?_; rintro e w1 ⟨rfl, hb1⟩)
      | (go_at_call 9; with_reducible refine (HN1.out _ hb1).mono ?_; rintro e w2 ⟨rfl, hb2⟩; have hc2 := chain hb1 (hb2.alloc hb2.size (.cells #[.int .i64 3, .int .i64 0, .int .i64 s.size, .int .u8 0, .int .i64 n, .string ⟨#[]⟩] 24)))
      | (go_at_call 9; with_reducible refine (HN2.out _ hc2).mono ?_; rintro e w3 ⟨rfl, hb3⟩; have hc3 := chain hc2 hb3)
      | (go_at_call 9; with_reducible refine (HN3.out _ hc3).mono ?_; rintro e w4 ⟨rfl, hb4⟩; have hc4 := chain hc3 (hb4.alloc hb4.size (.cells #[.int .i64 0, .int .i64 0, .int .i64 0, .int .u8 0, .int .i64 0, .string ⟨#[]⟩] 24)))
      | (go_at_call 9; with_reducible refine (HN4.out _ hc4).mono ?_; rintro e w5 ⟨rfl, hb5⟩; have hc5 := chain hc4 (hb5.alloc hb5.size (.cells #[.int .i64 3, .int .i64 0, .int .i64 1, .int .u8 0, .int .i64 0, .string ⟨#[]⟩] 24)))
      | (go_at_call 8; refine (HAW.out _ hc5).mono ?_; rintro e w6 ⟨rfl, hb6⟩))
    go_ret
    exact ⟨rfl, chain hc5 hb6⟩
  · skip
    have hl4 : lexP X4.data.toList 0 = noX 1 4 := by rw [hx4, numP_zero]; exact if_neg hneg
    have HN4 := Lib.hid (fun (W : World) (h : Below w.heap.size w W) => lex_open (lex_as (next_any X4 0 (by omega) W (HERR.out.next h)) (x := lexP X4.data.toList 0) hl4.symm))
    simp only [okX, noX] at HN1 HN2 HN3 HN4
    clear hl4 hl1 hl2 hl3 hx2 hx3 hx4 
    go_enter Tryd.func5, Tryd.ntmps5
    go_wp2_with (first
      | (go_at_call 16; refine (HT.out _).mono ?_; rintro e w1 ⟨rfl, hb1⟩)
      | (go_at_call 9; with_reducible refine (HN1.out _ hb1).mono ?_; rintro e w2 ⟨rfl, hb2⟩; have hc2 := chain hb1 (hb2.alloc hb2.size (.cells #[.int .i64 3, .int .i64 0, .int .i64 s.size, .int .u8 0, .int .i64 n, .string ⟨#[]⟩] 24)))
      | (go_at_call 9; with_reducible refine (HN2.out _ hc2).mono ?_; rintro e w3 ⟨rfl, hb3⟩; have hc3 := chain hc2 hb3)
      | (go_at_call 9; with_reducible refine (HN3.out _ hc3).mono ?_; rintro e w4 ⟨rfl, hb4⟩; have hc4 := chain hc3 (hb4.alloc hb4.size (.cells #[.int .i64 0, .int .i64 0, .int .i64 0, .int .u8 0, .int .i64 0, .string ⟨#[]⟩] 24)))
      | (go_at_call 9; with_reducible refine (HN4.out _ hc4).mono ?_; rintro e w5 ⟨rfl, hb5⟩; have hc5 := chain hc4 (hb5.alloc hb5.size (.cells #[.int .i64 0, .int .i64 0, .int .i64 0, .int .u8 0, .int .i64 0, .string ⟨#[]⟩] 24)))
      | (go_at_call 8; refine (HAW.out _ hc5).mono ?_; rintro e w6 ⟨rfl, hb6⟩))
    go_ret
    exact ⟨rfl, chain hc5 hb6⟩
end Go.Proofs.YtmagdlddaoonmaaDoor
