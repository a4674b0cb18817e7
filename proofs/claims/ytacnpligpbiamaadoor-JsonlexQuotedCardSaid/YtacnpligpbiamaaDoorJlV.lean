/- JsonlexQuoted answers true for every string and every int. -/
import Derived.Test.YtacnpligpbiamaaDoorJlA
import Derived.Test.YtacnpligpbiamaaDoorJlQ
import Derived.Test.YtacnpligpbiamaaDoorRq
import Derived.Test.YtacnpligpbiamaaDoorU5
import Derived.Test.YtacnpligpbiamaaDoorKmod
set_option linter.unusedVariables false
set_option linter.unusedSimpArgs false
namespace Go.Proofs.YtacnpligpbiamaaDoor
open Go.RowKit
theorem quoted_tok {s : ByteArray} {xs : List Nat} (hx : runes s.data.toList = some xs) (hl : s.size ≤ 100) : lexP (qt s.data.toList) 0 = okX 4 0 (2 + (qbs s.data.toList).length) 0 0 s := by
  obtain ⟨h1, h2⟩ := encs_runes _ _ (Nat.le_refl _) xs hx
  have h3 := quoted_whole h1 h2 (by simp; omega)
  exact h3
theorem ext_take (q : ByteArray) (k : Nat) (h : k ≤ q.size) : (q.extract 0 k).data.toList = q.data.toList.take k := by
  rw [ByteArray.data_extract]
  simp
set_option maxHeartbeats 10000000 in
set_option maxRecDepth 100000 in
theorem lexquoted_walk (s : ByteArray) (z : Int) (w : World) (hE : ErrIn w) (hz : s.size ≤ 140737488355328) : Calls Tryd.prog 3 #[.string s, .int .i64 z] w fun e w' => e = .returned (.bool true) ∧ Below w.heap.size w w' := by
  have HERR := Lib.hid hE
  have HAW := Lib.hid (fun (W : World) (h : Below w.heap.size w W) => awake_any W (hE.next h))
  clear hE
  by_cases h100 : 100 < s.size
  · have haw := HAW.out w (Below.refl _ _)
    have hq : decide (100 < s.size) = true := by simpa using h100
    have HA := Lib.hid haw
    clear haw
    go_enter Tryd.func3, Tryd.ntmps3
    go_wp2_with (go_at_call 9; refine HA.out.mono ?_; rintro e w1 ⟨rfl, hb1⟩)
    go_ret
    exact ⟨rfl, hb1⟩
  · have h100' : s.size ≤ 100 := by omega
    have hq : decide (100 < s.size) = false := by simpa using h100'
    have HV := Lib.hid (fun W => rval_any s (by omega) W)
    cases hx : runes s.data.toList with
    | none =>
      rw [hx] at HV
      have HV2 : Hid (∀ W, Calls Tryd.prog 8 #[.string s] W fun e w' => e = .returned (.bool false) ∧ Below W.heap.size W w') := HV
      clear HV hx
      go_enter Tryd.func3, Tryd.ntmps3
      go_wp2_with (first
        | (go_at_call 8; refine (HV2.out _).mono ?_; rintro e w1 ⟨rfl, hb1⟩)
        | (go_at_call 9; refine (HAW.out _ hb1).mono ?_; rintro e w2 ⟨rfl, hb2⟩))
      go_ret
      exact ⟨rfl, chain hb1 hb2⟩
    | some xs =>
      rw [hx] at HV
      have HV2 : Hid (∀ W, Calls Tryd.prog 8 #[.string s] W fun e w' => e = .returned (.bool true) ∧ Below W.heap.size W w') := HV
      have htok := quoted_tok hx h100'
      obtain ⟨he1, he2⟩ := encs_runes _ _ (Nat.le_refl _) xs hx
      have hlen := qbs_len s.data.toList
      have hsl : s.data.toList.length = s.size := by simp
      rw [hsl] at hlen
      obtain ⟨q, hqq⟩ : ∃ q : ByteArray, ⟨(qt s.data.toList).toArray⟩ = q := ⟨_, rfl⟩
      have hqd : q.data.toList = qt s.data.toList := by rw [← hqq]
      have hqs : q.size = 2 + (qbs s.data.toList).length := by
        have h1 : q.data.toList.length = q.size := by simp
        rw [← h1, hqd, qt]
        simp; omega
      rw [← hqs] at htok
      have HQ := Lib.hid (fun W => rQuote_any s (by omega) W)
      rw [hqq] at HQ
      have hq2 : 2 ≤ q.size := by omega
      have hq602 : q.size ≤ 602 := by omega
      have HN1 := Lib.hid (fun (W : World) (h : Below w.heap.size w W) => lex_open (lex_as (next_any q 0 (by omega) W (HERR.out.next h)) (y := okX 4 0 q.size 0 0 s) (by rw [hqd]; exact htok.symm)))
      obtain ⟨d, hd, hmod⟩ : ∃ d : Nat, d + 1 < q.size ∧ ∀ W, Calls Tryd.prog 12 #[.int .i64 z, .int .i64 ((q.size : Int) - 1)] W fun e w' => e = .returned (.int .i64 (d : Int)) ∧ W = w' := by
        have h1 := Int.emod_nonneg z (b := (q.size : Int) - 1) (by omega)
        have h2 := Int.emod_lt_of_pos z (b := (q.size : Int) - 1) (by omega)
        refine ⟨(z % ((q.size : Int) - 1)).toNat, by omega, fun W => ?_⟩
        rw [Int.toNat_of_nonneg h1]
        exact kmod_any z _ (by omega) (by omega) W
      obtain ⟨p, hp⟩ : ∃ p : ByteArray, q.extract 0 (d + 1) = p := ⟨_, rfl⟩
      have hpd : p.data.toList = (qt s.data.toList).take (d + 1) := by rw [← hp, ext_take q _ (by omega), hqd]
      have hps : p.size ≤ 602 := by
        have h1 : p.data.toList.length = p.size := by simp
        have h2 := congrArg List.length hpd
        rw [h1, List.length_take] at h2
        omega
      have hcut := quoted_cut he1 he2 (d + 1) (by omega) (by omega)
      have HMOD := Lib.hid hmod
      have HHP := Lib.hid hp
      have hd0 : (0 : Int) ≤ (d : Int) + 1 := by omega
      have hd1 : (d : Int) + 1 ≤ (q.size : Int) := by omega
      have hdd : ((d : Int) + 1).toNat = d + 1 := by omega
      have hlt2 : decide ((q.size : Int) < 2) = false := by simp; omega
      have hlt3 : decide (q.size < 2) = false := by simp; omega
      simp only [okX, noX] at HN1
      rcases hcut with hc | ⟨⟨pp, hc⟩, hr⟩
      · have hl2 : lexP p.data.toList 0 = noX (d + 1) 5 := by rw [hpd]; exact hc
        have HN2 := Lib.hid (fun (W : World) (h : Below w.heap.size w W) => lex_open (lex_as (next_any p 0 (by omega) W (HERR.out.next h)) (y := noX (d + 1) 5) hl2.symm))
        simp only [okX, noX, Int.natCast_add, Int.natCast_one, Int.cast_ofNat_Int] at HN2
        clear hl2 hc he1 he2 hlen hsl hqq hqd hqs hpd hmod htok hx hd HV
        go_enter Tryd.func3, Tryd.ntmps3
        go_wp2_with (first
          | (go_at_call 8; with_reducible refine (HV2.out _).mono ?_; rintro e w1 ⟨rfl, hb1⟩)
          | (go_at_call 10; refine (HQ.out _).mono ?_; rintro e w2 ⟨rfl, hb2⟩; have hc2 := chain hb1 hb2)
          | (go_at_call 11; with_reducible refine (HN1.out _ hc2).mono ?_; rintro e w3 ⟨rfl, hb3⟩; have hc3 := chain hc2 (hb3.alloc hb3.size (.cells #[.int .i64 4, .int .i64 0, .int .i64 q.size, .int .u8 0, .int .i64 0, .string s] 26)))
          | (go_at_call 12; refine (HMOD.out _).mono ?_; rintro e w4 ⟨rfl, rfl⟩)
          | (go_at_call 11; with_reducible refine (HN2.out _ hc3).mono ?_; rintro e w5 ⟨rfl, hb5⟩; have hc5 := chain hc3 hb5)
          | (go_at_call 9; refine (HAW.out _ hc5).mono ?_; rintro e w6 ⟨rfl, hb6⟩))
        go_ret
        exact ⟨rfl, chain hc5 hb6⟩
      · have hl2 : lexP p.data.toList 0 = noX pp 6 := by rw [hpd]; exact hc
        have HN2 := Lib.hid (fun (W : World) (h : Below w.heap.size w W) => lex_open (lex_as (next_any p 0 (by omega) W (HERR.out.next h)) (y := noX pp 6) hl2.symm))
        have HV0 := Lib.hid (fun W => rval_any p (by omega) W)
        rw [hpd] at HV0
        unfold qt at HV0
        rw [hr] at HV0
        have HV3 : Hid (∀ W, Calls Tryd.prog 8 #[.string p] W fun e w' => e = .returned (.bool false) ∧ Below W.heap.size W w') := HV0
        simp only [okX, noX, Int.cast_ofNat_Int] at HN2
        clear hl2 hc he1 he2 hlen hsl hqq hqd hqs hpd hmod htok hx hd HV HV0 hr
        go_enter Tryd.func3, Tryd.ntmps3
        go_wp2_with (first
          | (go_at_call 8; with_reducible refine (HV2.out _).mono ?_; rintro e w1 ⟨rfl, hb1⟩)
          | (go_at_call 10; refine (HQ.out _).mono ?_; rintro e w2 ⟨rfl, hb2⟩; have hc2 := chain hb1 hb2)
          | (go_at_call 11; with_reducible refine (HN1.out _ hc2).mono ?_; rintro e w3 ⟨rfl, hb3⟩; have hc3 := chain hc2 (hb3.alloc hb3.size (.cells #[.int .i64 4, .int .i64 0, .int .i64 q.size, .int .u8 0, .int .i64 0, .string s] 26)))
          | (go_at_call 12; refine (HMOD.out _).mono ?_; rintro e w4 ⟨rfl, rfl⟩)
          | (go_at_call 11; with_reducible refine (HN2.out _ hc3).mono ?_; rintro e w5 ⟨rfl, hb5⟩; have hc5 := chain hc3 hb5)
          | (go_at_call 8; with_reducible refine (HV3.out _).mono ?_; rintro e w7 ⟨rfl, hb7⟩; have hc7 := chain hc5 hb7)
          | (go_at_call 9; refine (HAW.out _ hc7).mono ?_; rintro e w6 ⟨rfl, hb6⟩))
        go_ret
        exact ⟨rfl, chain hc7 hb6⟩
end Go.Proofs.YtacnpligpbiamaaDoor
