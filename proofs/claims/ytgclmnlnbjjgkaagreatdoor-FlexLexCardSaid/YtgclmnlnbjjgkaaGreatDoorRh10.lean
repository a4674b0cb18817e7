/- The reference's Lex: all tokens of a filter. The statements' comparison of tokens, and the bound on two strings. -/
import Derived.Test.YtgclmnlnbjjgkaaGreatDoorRf10
import Derived.Laws.AppendOwn
import Derived.Test.YtgclmnlnbjjgkaaGreatDoorFh
import Derived.BigQuiet
set_option linter.unusedVariables false
set_option linter.unusedSimpArgs false
namespace Go.Proofs.YtgclmnlnbjjgkaaGreatDoor
open Go.RowKit
set_option maxHeartbeats 10000000 in
set_option maxRecDepth 100000 in
theorem rflex_any (s : ByteArray) (hs0 : s.size ≤ 281474976710656) (w : World) : Calls Tryz.prog 8 #[.string s] w (FlexPost (lexFP s.data.toList) w) := by
  have HL := Lib.hid (show s.data.toList.length = s.size by simp)
  by_cases h8 : 8192 < s.size
  · have HR : Hid (lexFP s.data.toList = ⟨none, 0, 2⟩) := Lib.hid (by unfold lexFP; rw [HL.out, if_pos h8])
    rw [HR.out]
    have q8 : (8192 : Int) < (s.size : Int) := by omega
    go_enter Tryz.func8, Tryz.ntmps8
    go_wp2_with fail
    refine bodyPost_ret (v := .tuple #[.slice none 0 0, .int .i64 0, .int .i64 2]) (by simp [results, Tryz.results8, go_sem]) rfl ?_
    exact flex_none rfl (Below.refl _ _)
  · have hs : s.size ≤ 1048576 := by omega
    have hsm : s.size ≤ maxLen := by unfold maxLen; omega
    obtain ⟨i0, hi, hz0, hz1, hz2⟩ := info_parts inf_ft
    have HSK := Lib.hid (fun (k : Nat) (h : k ≤ s.size) W => rgap_any s k hsm h W)
    have HNX := Lib.hid (fun (k : Nat) (h : k < s.size) (W : World) => rtoken_any s k hs h W)
    have HST := Lib.hid (FAt.start (l := s.data.toList) (by rw [HL.out]; exact h8))
    have hg0 : gapP s.data.toList 0 ≤ s.size := by rw [← HL.out]; exact gap_le _ _
    have HS0 := Lib.hid (HSK.out 0 (Nat.zero_le _))
    generalize gapP s.data.toList 0 = g0 at HST hg0 HS0
    obtain ⟨R, hR⟩ : ∃ R, lexFP s.data.toList = R := ⟨_, rfl⟩
    have HR := Lib.hid hR
    rw [hR]
    clear hs0 hsm hR
    go_enter Tryz.func8, Tryz.ntmps8
    go_wp2_with (go_at_call 17; refine (HS0.out _).mono ?_; rintro e w' ⟨rfl, rfl⟩)
    go_loopw [5, 6] (fun tv ti wr => ∃ (A : Option Addr) (c a : Nat) (ts : List Fk), a ≤ s.size ∧ ts.length ≤ 2048 ∧ tv = .slice A ts.length c ∧ ti = .int .i64 a ∧ Hid (wr.ownsRow w.heap.size 36 4 (.slice A ts.length c) ts.length (rowT ts)) ∧ Hid (Below w.heap.size w wr) ∧ Hid (FAt s.data.toList a ts)) (fun _ ti _ => s.size - (intOf ti).toNat)
    case atStart => exact ⟨none, 0, g0, [], hg0, Nat.zero_le _, rfl, rfl, Lib.hid (World.ownsRow_nil _ _ _ _), Lib.hid (Below.refl _ _), HST⟩
    case round =>
      clear HST HS0
      obtain ⟨A, c, a, ts, ha, htl, rfl, rfl, HO, HBE, HF⟩ := hrel
      by_cases hlt : a < s.size
      · by_cases hfull : ts.length = 2048
        · have HX := Lib.hid (HF.out.full (by rw [HL.out]; exact hlt) hfull)
          have qf : (2048 : Int) ≤ (ts.length : Int) := by omega
          clear hfull
          go_wp2_with fail
          refine bodyPost_ret (v := .tuple #[.slice none 0 0, .int .i64 a, .int .i64 2]) (by simp [results, Tryz.results8, go_sem]) rfl ?_
          exact flex_none (HR.out.symm.trans HX.out) HBE.out
        · have qf : ¬ (2048 : Int) ≤ (ts.length : Int) := by omega
          have hnx := HNX.out a hlt wr
          have hbad := HF.out.bad (by rw [HL.out]; exact hlt) hfull
          have hgood := HF.out.next (by rw [HL.out]; exact hlt) hfull
          have htok := tok_ok (l := s.data.toList) (a := a) (by rw [HL.out]; exact hlt)
          generalize tokP s.data.toList a = x at hnx hbad hgood htok
          clear hfull
          by_cases hE0 : x.e = 0
          · have hnx2 := rx_ok (w' := wr) hE0 hnx
            clear hnx
            obtain ⟨⟨K, O, S, I⟩, P, E⟩ := x
            simp only at hnx2 hbad hgood htok hE0
            subst hE0
            have HN := Lib.hid hnx2
            clear hnx2
            obtain ⟨g1, g2⟩ := hgood rfl
            obtain ⟨g3, g4⟩ := htok rfl
            rw [HL.out] at g4
            have HFN := Lib.hid g1
            have hgl : gapP s.data.toList P ≤ s.size := by rw [← HL.out]; exact gap_le _ _
            have HSP := Lib.hid (HSK.out P g4)
            generalize gapP s.data.toList P = a2 at HFN hgl HSP g2
            have htl2 : ts.length + 1 ≤ 2048 := by
              have h := HFN.out.2.1
              simpa using h
            clear hbad hgood htok g1
            go_upto_region 10 with (go_at_call 18; refine HN.out.mono ?_; rintro e w1 ⟨rfl, hb1⟩)
            obtain ⟨W2, hW2⟩ : ∃ X, X = w1.alloc (.cells #[.int .i64 K, .int .i64 O, .string S, .int .i64 I] 36) := ⟨_, rfl⟩
            rw [← hW2]
            have HBX := Lib.hid (show Box W2 w1.heap.size 36 #[.int .i64 K, .int .i64 O, .string S, .int .i64 I] by rw [hW2]; exact Box.laid w1 _ _)
            have HBW := Lib.hid (show Below wr.heap.size wr W2 by rw [hW2]; exact hb1.alloc hb1.size _)
            have HO2 := Lib.hid (own_keepB HO.out HBW.out)
            obtain ⟨t0, t1, t2, t3⟩ := box4 HBX.out
            clear hW2 hb1
            generalize w1.heap.size = gx at *
            have hszW : w.heap.size ≤ W2.heap.size := Nat.le_trans HBE.out.size HBW.out.size
            go_wp2_with (first
              | (at_builtin; refine wpList_append_own _ rfl _ _ 24 rfl w.heap.size 36 i0 (.agg #[.int .i64 0, .int .i64 0, .string ⟨#[]⟩, .int .i64 0]) 4 40 Tryz.underlying24 hi hz0 hz1 hz2 rfl (by decide) (.slice A ts.length c) ts.length (rowT ts) rfl (HO2.out.alloc _) ⟨W2.heap.size, 0, none⟩ 1 1 [.int .i64 K, .int .i64 O, .string S, .int .i64 I] rfl rfl (four_new _ _ _ _ _ _ _ rfl) (cs_one ⟨K, O, S, I⟩) (by unfold maxLen; omega) (by omega) (by simp; omega) ?_; intro v3 w3 hown3 hgrow3 _)
              | (go_at_call 17; refine (HSP.out _).mono ?_; rintro e w' ⟨rfl, rfl⟩))
            obtain ⟨A3, c3, rfl⟩ := own_form hown3
            have e1 : (ts ++ [(⟨K, O, S, I⟩ : Fk)]).length = ts.length + 1 := by simp
            have hbn : Below w.heap.size w w3 := ((chain HBE.out HBW.out).alloc hszW _).grown hgrow3 (by simp; omega) (fun j hj => (HO.out.lt j hj).1)
            go_roundw
            case rel => exact ⟨A3, c3, a2, ts ++ [⟨K, O, S, I⟩], hgl, by rw [e1]; exact htl2, by rw [e1], rfl, Lib.hid (by rw [e1, rowT_append, rowT_one]; exact hown3), Lib.hid hbn, HFN⟩
            case measure => simp [intOf]; omega
          · have hnx2 := rx_no (w' := wr) hE0 hnx
            clear hnx
            obtain ⟨⟨K, O, S, I⟩, P, E⟩ := x
            simp only at hnx2 hbad hgood htok hE0
            have HN := Lib.hid hnx2
            clear hnx2
            have HX := Lib.hid (hbad hE0)
            have qe : ((E : Int) != 0) = true := by rw [bne_iff_ne]; omega
            clear hbad hgood htok hE0
            go_upto_region 10 with (go_at_call 18; refine HN.out.mono ?_; rintro e w1 ⟨rfl, hb1⟩)
            have HBW := Lib.hid (chain HBE.out (hb1.alloc hb1.size (.cells #[.int .i64 K, .int .i64 O, .string S, .int .i64 I] 36)))
            clear hb1
            go_wp2_with fail
            refine bodyPost_ret (v := .tuple #[.slice none 0 0, .int .i64 P, .int .i64 E]) (by simp [results, Tryz.results8, go_sem]) rfl ?_
            exact flex_none (HR.out.symm.trans HX.out) HBW.out
      · have HX := Lib.hid (HF.out.done (by rw [HL.out]; exact hlt))
        rw [HL.out] at HX
        have hszW : w.heap.size ≤ wr.heap.size := HBE.out.size
        go_wp2_with (at_builtin; refine wpList_append_own _ rfl _ _ 24 rfl w.heap.size 36 i0 (.agg #[.int .i64 0, .int .i64 0, .string ⟨#[]⟩, .int .i64 0]) 4 40 Tryz.underlying24 hi hz0 hz1 hz2 rfl (by decide) (.slice A ts.length c) ts.length (rowT ts) rfl (HO.out.alloc _) ⟨wr.heap.size, 0, none⟩ 1 1 [.int .i64 0, .int .i64 (s.size : Int), .string ⟨#[]⟩, .int .i64 0] rfl rfl (four_new _ _ _ _ _ _ _ rfl) (cs_one ⟨0, s.size, ⟨#[]⟩, 0⟩) (by unfold maxLen; omega) (by omega) (by simp; omega) ?_; intro v3 w3 hown3 hgrow3 _)
        obtain ⟨A3, c3, rfl⟩ := own_form hown3
        have hbn : Below w.heap.size w w3 := (HBE.out.alloc hszW _).grown hgrow3 (by simp; omega) (fun j hj => (HO.out.lt j hj).1)
        have e1 : (ts ++ [(⟨0, s.size, ⟨#[]⟩, 0⟩ : Fk)]).length = ts.length + 1 := by simp
        refine bodyPost_ret (v := .tuple #[.slice A3 (ts.length + 1) c3, .int .i64 0, .int .i64 0]) (by simp [results, Tryz.results8, go_sem]) rfl ?_
        rw [← HR.out, HX.out]
        exact ⟨hbn, A3, ts.length + 1, c3, rfl, e1.symm, by rw [rowT_append, rowT_one]; exact hown3⟩
end Go.Proofs.YtgclmnlnbjjgkaaGreatDoor
namespace Go.Proofs.YtgclmnlnbjjgkaaGreatDoor
open Go.RowKit
/-- A slice reads as these tokens. -/
def RdT (w : World) (A : Option Addr) (n : Nat) (ts : List Fk) : Prop := n = ts.length ∧ ∀ i t, ts[i]? = some t → ∃ g, A = some ⟨g, 0, none⟩ ∧ g < w.heap.size ∧ w.cell? ⟨g, i * 4, none⟩ = some (.int .i64 t.k) ∧ w.cell? ⟨g, i * 4 + 1, none⟩ = some (.int .i64 t.o) ∧ w.cell? ⟨g, i * 4 + 2, none⟩ = some (.string t.s) ∧ w.cell? ⟨g, i * 4 + 3, none⟩ = some (.int .i64 t.i)
theorem RdT.below {w w' : World} {A : Option Addr} {n : Nat} {ts : List Fk} (h : RdT w A n ts) (hb : Below w.heap.size w w') : RdT w' A n ts := by
  refine ⟨h.1, fun i t ht => ?_⟩
  obtain ⟨g, e, hg, c0, c1, c2, c3⟩ := h.2 i t ht
  exact ⟨g, e, Nat.lt_of_lt_of_le hg hb.size, (hb.cell (p := ⟨g, i * 4, none⟩) hg).trans c0, (hb.cell (p := ⟨g, i * 4 + 1, none⟩) hg).trans c1, (hb.cell (p := ⟨g, i * 4 + 2, none⟩) hg).trans c2, (hb.cell (p := ⟨g, i * 4 + 3, none⟩) hg).trans c3⟩
theorem rowT_at10 {ts : List Fk} {i : Nat} {t : Fk} (h : ts[i]? = some t) (j : Nat) {u : Value} (hu : t.cs[j]? = some u) : (rowT ts)[i * 4 + j]? = some u := by
  induction ts generalizing i with
  | nil => simp at h
  | cons x r ih =>
    rw [show rowT (x :: r) = x.cs ++ rowT r from rfl]
    cases i with
    | zero =>
      simp at h
      subst h
      have hj : j < x.cs.length := (List.getElem?_eq_some_iff.1 hu).1
      rw [Nat.zero_mul, Nat.zero_add, List.getElem?_append_left hj]
      exact hu
    | succ i =>
      have hl : x.cs.length = 4 := rfl
      rw [List.getElem?_append_right (by rw [hl]; omega), hl, show (i + 1) * 4 + j - 4 = i * 4 + j by omega]
      exact ih (by simpa using h)
theorem lexF_len {l : List UInt8} : ∀ (n a : Nat) (ts us : List Fk), ts.length ≤ 2048 → (lexF l n a ts).ts = some us → us.length ≤ 2049
  | 0, a, ts, us, hl, h => by rw [lexF] at h; cases h
  | n + 1, a, ts, us, hl, h => by
    rw [lexF] at h
    split at h
    · split at h
      · cases h
      · split at h
        · exact lexF_len n _ _ us (by simp; omega) h
        · cases h
    · injection h with h
      rw [← h]
      simp
      omega
theorem lexFP_len {l : List UInt8} {us : List Fk} (h : (lexFP l).ts = some us) : us.length ≤ 2049 := by
  unfold lexFP at h
  split at h
  · cases h
  · exact lexF_len _ _ _ us (Nat.zero_le _) h
theorem flex_rd {l : List UInt8} {w w' : World} {e : Ending} (h : FlexPost (lexFP l) w e w') : Below w.heap.size w w' ∧ ∃ (A : Option Addr) (n c : Nat), e = .returned (.tuple #[.slice A n c, .int .i64 (lexFP l).p, .int .i64 (lexFP l).e]) ∧ n ≤ 2049 ∧ RdT w' A n ((lexFP l).ts.getD []) := by
  obtain ⟨hb, A, n, c, he, h1⟩ := h
  refine ⟨hb, A, n, c, he, ?_⟩
  have hlen := fun us => lexFP_len (l := l) (us := us)
  cases hq : (lexFP l).ts with
  | none =>
    rw [hq] at h1
    obtain ⟨rfl, rfl, rfl⟩ := h1
    exact ⟨Nat.zero_le _, rfl, fun i t ht => by simp at ht⟩
  | some ts =>
    rw [hq] at h1
    obtain ⟨h2, h3⟩ := h1
    have h4 := hlen _ hq
    refine ⟨by omega, h2, fun i t ht => ?_⟩
    have hi : i < ts.length := (List.getElem?_eq_some_iff.1 ht).1
    obtain ⟨g, h5, -, h7, h8⟩ := own_row h3 (by omega)
    exact ⟨g, h5, h7, h8 _ _ (rowT_at10 ht 0 rfl), h8 _ _ (rowT_at10 ht 1 rfl), h8 _ _ (rowT_at10 ht 2 rfl), h8 _ _ (rowT_at10 ht 3 rfl)⟩
set_option maxHeartbeats 4000000 in
set_option maxRecDepth 100000 in
theorem tokens_any (A B : Option Addr) (n m c d : Nat) (ts : List Fk) (w : World) (hn : n ≤ 1000000) (hA : RdT w A n ts) (hB : RdT w B m ts) : Calls Tryz.prog 9 #[.slice A n c, .slice B m d] w fun e w' => e = .returned (.bool true) ∧ ∃ q, w' = w.drewN q := by
  have hmn : m = n := hB.1.trans hA.1.symm
  subst hmn
  have HA := Lib.hid hA
  have HB := Lib.hid hB
  have HN := Lib.hid hA.1
  clear hA hB
  go_enter Tryz.func9, Tryz.ntmps9
  go_wp2_with fail
  go_loopw [5] (fun ti wr => ∃ i q : Nat, i ≤ m ∧ ti = .int .i64 i ∧ Hid (wr = w.drewN q)) (fun ti _ => m - (intOf ti).toNat)
  case atStart => exact ⟨0, 0, Nat.zero_le _, rfl, Lib.hid rfl⟩
  case round =>
    obtain ⟨i, q, hi, rfl, HW⟩ := hrel
    by_cases hlt : i < m
    · obtain ⟨t, ht⟩ : ∃ t, ts[i]? = some t := ⟨_, List.getElem?_eq_getElem (by have := HN.out; omega)⟩
      obtain ⟨g1, e1, hg1, a0, a1, a2, a3⟩ := HA.out.2 i t ht
      obtain ⟨g2, e2, hg2, b0, b1, b2, b3⟩ := HB.out.2 i t ht
      have A0 : wr.cell? ⟨g1, i * 4, none⟩ = some (.int .i64 t.k) := by rw [HW.out]; exact a0
      have A1 : wr.cell? ⟨g1, i * 4 + 1, none⟩ = some (.int .i64 t.o) := by rw [HW.out]; exact a1
      have A2 : wr.cell? ⟨g1, i * 4 + 2, none⟩ = some (.string t.s) := by rw [HW.out]; exact a2
      have A3 : wr.cell? ⟨g1, i * 4 + 3, none⟩ = some (.int .i64 t.i) := by rw [HW.out]; exact a3
      have B0 : wr.cell? ⟨g2, i * 4, none⟩ = some (.int .i64 t.k) := by rw [HW.out]; exact b0
      have B1 : wr.cell? ⟨g2, i * 4 + 1, none⟩ = some (.int .i64 t.o) := by rw [HW.out]; exact b1
      have B2 : wr.cell? ⟨g2, i * 4 + 2, none⟩ = some (.string t.s) := by rw [HW.out]; exact b2
      have B3 : wr.cell? ⟨g2, i * 4 + 3, none⟩ = some (.int .i64 t.i) := by rw [HW.out]; exact b3
      obtain ⟨K, O, S, I⟩ := t
      simp only at A0 A1 A2 A3 B0 B1 B2 B3
      subst e1 e2
      clear a0 a1 a2 a3 b0 b1 b2 b3 ht hg1 hg2
      go_wp2_with fail
      go_quiet (fail)
      go_wp2_with fail
      go_roundw
      case rel => exact ⟨i + 1, q + nq, by omega, by go_num, Lib.hid (by rw [HW.out, drewN_two10])⟩
      case measure => simp [intOf]; omega
    · go_wp2_with fail
      go_ret
      exact ⟨rfl, q, HW.out⟩
set_option maxHeartbeats 2000000 in
theorem short2_any (s t : ByteArray) (g c : Nat) (w : World) (hs : s.size ≤ 140737488355328) (ht : t.size ≤ 140737488355328) (h0 : w.cell? ⟨g, 0, none⟩ = some (.string s)) (h1 : w.cell? ⟨g, 1, none⟩ = some (.string t)) :
    Calls Tryz.prog 5 #[.int .i64 200, .slice (some ⟨g, 0, none⟩) 2 c] w fun e w' => e = .returned (.bool (decide (s.size ≤ 200 ∧ t.size ≤ 200))) ∧ w = w' := by
  go_enter Tryz.func5, Tryz.ntmps5
  go_wp2_with fail
  go_loop [5] (fun ti => ∃ i : Nat, i ≤ 2 ∧ ti = .int .i64 i ∧ (1 ≤ i → s.size ≤ 200) ∧ (2 ≤ i → t.size ≤ 200)) (fun ti => 2 - (intOf ti).toNat)
  case atStart => exact ⟨0, by omega, rfl, fun h => by omega, fun h => by omega⟩
  case round =>
    obtain ⟨i, hi, rfl, hi1, hi2⟩ := hrel
    have hi3 : i = 0 ∨ i = 1 ∨ i = 2 := by omega
    rcases hi3 with rfl | rfl | rfl
    · by_cases hx : s.size ≤ 200
      · have q : ¬ (200 : Int) < (s.size : Int) := by omega
        go_wp2_with fail
        go_round
        case rel => exact ⟨1, by omega, by first | rfl | go_num, fun _ => hx, fun h => by omega⟩
        case measure => simp [intOf]
      · have q : (200 : Int) < (s.size : Int) := by omega
        go_wp2_with fail
        go_ret
        exact ⟨ret_bool (by first | rfl | exact (decide_eq_false (fun h => hx h.1)).symm), rfl⟩
    · by_cases hx : t.size ≤ 200
      · have q : ¬ (200 : Int) < (t.size : Int) := by omega
        go_wp2_with fail
        go_round
        case rel => exact ⟨2, by omega, by first | rfl | go_num, fun _ => hi1 (by omega), fun _ => hx⟩
        case measure => simp [intOf]
      · have q : (200 : Int) < (t.size : Int) := by omega
        go_wp2_with fail
        go_ret
        exact ⟨ret_bool (by first | rfl | exact (decide_eq_false (fun h => hx h.2)).symm), rfl⟩
    · go_wp2_with fail
      go_ret
      exact ⟨ret_bool (by first | rfl | exact (decide_eq_true ⟨hi1 (by omega), hi2 (by omega)⟩).symm), rfl⟩
end Go.Proofs.YtgclmnlnbjjgkaaGreatDoor
