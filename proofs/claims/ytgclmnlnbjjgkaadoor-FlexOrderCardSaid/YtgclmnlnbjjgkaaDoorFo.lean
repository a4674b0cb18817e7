/- FlexOrder answers true for every string. -/
import Derived.Test.YtgclmnlnbjjgkaaDoorFn
import Derived.BigQuiet
set_option linter.unusedVariables false
set_option linter.unusedSimpArgs false
namespace Go.Proofs.YtgclmnlnbjjgkaaDoor
open Go.RowKit
theorem fprefix_any (s t : ByteArray) (w : World) (hs : s.size ≤ 1048576) (ht : t.size ≤ 1048576) (hp : s.size ≤ t.size ∧ t.extract 0 s.size = s) : Calls Tryd.prog 8 #[.string s, .string t] w fun e w' => e = .returned (.bool true) ∧ w' = w := by
  obtain ⟨h1, h2⟩ := hp
  have f1 : (s.toList == s.toList) = true := by simp
  have f2 : (s.size : Int) ≤ (t.size : Int) := by omega
  go_enter Tryd.func8, Tryd.ntmps8
  go_wp2_with fail
  go_ret
  exact ⟨rfl, rfl⟩
/-- A beginning of what follows an offset, as strings. -/
theorem prefix_str {a s : ByteArray} {o : Nat} (h : a.data.toList <+: s.data.toList.drop o) : a.size ≤ (s.extract o s.size).size ∧ (s.extract o s.size).extract 0 a.size = a := by
  have e1 : (s.extract o s.size).data.toList = s.data.toList.drop o := Lib.extract_to_end s o
  have e2 : ∀ x : ByteArray, x.size = x.data.toList.length := fun x => by simp
  refine ⟨by rw [e2, e2, e1]; exact h.length_le, ?_⟩
  apply ByteArray.ext
  apply Array.toList_inj.1
  rw [Lib.extract_data, e1, List.drop_zero, Nat.sub_zero, e2 a]
  exact (List.prefix_iff_eq_take.1 h).symm
theorem rowT_at {ts : List Fk} {i : Nat} {t : Fk} (h : ts[i]? = some t) (j : Nat) {u : Value} (hu : t.cs[j]? = some u) : (rowT ts)[i * 4 + j]? = some u := by
  induction ts generalizing i with
  | nil => simp at h
  | cons x r ih =>
    rw [show rowT (x :: r) = x.cs ++ rowT r from rfl]
    cases i with
    | zero =>
      simp at h
      subst h
      have hj : j < x.cs.length := (List.getElem?_eq_some_iff.1 hu).1
      rw [Nat.zero_mul, Nat.zero_add, List.getElem?_append_left hj]
      exact hu
    | succ i =>
      have hl : x.cs.length = 4 := rfl
      rw [List.getElem?_append_right (by rw [hl]; omega), hl, show (i + 1) * 4 + j - 4 = i * 4 + j by omega]
      exact ih (by simpa using h)
theorem below_cells {w W : World} {g : Nat} {xs : List Value} (hb : Below w.heap.size w W) (hg : g < w.heap.size) (h : ∀ j u, xs[j]? = some u → w.cell? ⟨g, j, none⟩ = some u) : ∀ j u, xs[j]? = some u → W.cell? ⟨g, j, none⟩ = some u :=
  fun j u hj => (hb.cell (p := ⟨g, j, none⟩) hg).trans (h j u hj)
theorem tok_cells {ts : List Fk} {i g : Nat} {t : Fk} {w : World} (h : ts[i]? = some t) (hc : ∀ j u, (rowT ts)[j]? = some u → w.cell? ⟨g, j, none⟩ = some u) :
    w.cell? ⟨g, i * 4, none⟩ = some (.int .i64 t.k) ∧ w.cell? ⟨g, i * 4 + 1, none⟩ = some (.int .i64 t.o) ∧ w.cell? ⟨g, i * 4 + 2, none⟩ = some (.string t.s) ∧ w.cell? ⟨g, i * 4 + 3, none⟩ = some (.int .i64 t.i) :=
  ⟨hc _ _ (rowT_at h 0 rfl), hc _ _ (rowT_at h 1 rfl), hc _ _ (rowT_at h 2 rfl), hc _ _ (rowT_at h 3 rfl)⟩
theorem posF_le {l : List UInt8} {vs : List Fk} (h : OAt l l.length vs) (i : Nat) : posF vs l.length i ≤ l.length := by
  by_cases hi : i < vs.length
  · have h2 := h i _ (List.getElem?_eq_getElem hi)
    rw [posF_in (List.getElem?_eq_getElem hi)]
    exact Nat.le_trans (Nat.le_of_lt h2.lt) h2.le
  · rw [posF_out (by omega)]
    exact Nat.le_refl _
/-- As many tokens as bytes at most. -/
theorem order_pos {l : List UInt8} {vs : List Fk} (h : OAt l l.length vs) : ∀ i, i ≤ vs.length → i ≤ posF vs l.length i
  | 0, _ => Nat.zero_le _
  | i + 1, hi => by
    have h1 := order_pos h i (by omega)
    have h2 := h i _ (List.getElem?_eq_getElem (show i < vs.length by omega))
    rw [posF_in (List.getElem?_eq_getElem (show i < vs.length by omega))] at h1
    have := h2.lt
    omega
theorem order_len {l : List UInt8} {vs : List Fk} (h : OAt l l.length vs) : vs.length ≤ l.length := by
  have h1 := order_pos h vs.length (Nat.le_refl _)
  rw [posF_out (Nat.le_refl _)] at h1
  exact h1
/-- A region of reads alone. -/
theorem below_drewN10 {w W : World} (h : Below w.heap.size w W) (n : Nat) : Below w.heap.size w (W.drewN n) := ⟨h.os, h.tape, h.output, h.size, h.block⟩
set_option maxHeartbeats 10000000 in
set_option maxRecDepth 100000 in
theorem flexorder_walk (s : ByteArray) (w : World) (hE : ErrIn w) (hG : SgIn w) (hz : s.size ≤ 140737488355328) : Calls Tryd.prog 3 #[.string s] w fun e w' => e = .returned (.bool true) ∧ Below w.heap.size w w' := by
  have HAW := Lib.hid (fun (W : World) (h : Below w.heap.size w W) => fawake_any W (hE.next h) (hG.next h))
  have HL := Lib.hid (show s.data.toList.length = s.size by simp)
  have hlx := flex_any s (by omega) w hE hG
  clear hE hG
  by_cases hgo : s.size ≤ 200 ∧ (lexFP s.data.toList).e = 0
  · obtain ⟨h200, he0⟩ := hgo
    obtain ⟨us, hus⟩ := lexFP_some he0
    obtain ⟨-, vs, hvs, hO⟩ := lexFP_good hus
    subst hvs
    have hlen : (vs ++ [endK s.data.toList]).length = vs.length + 1 := by simp
    have hlx2 := hlx.mono fun e w' h => flex_open h hus (by rw [hlen]; omega)
    rw [hlen] at hlx2
    have hvl : vs.length ≤ 200 := by
      have h := order_len hO
      rw [HL.out] at h
      omega
    obtain ⟨N, hN⟩ : ∃ N, vs.length + 1 = N := ⟨_, rfl⟩
    rw [hN] at hlx2
    have hNv : vs.length = N - 1 ∧ 1 ≤ N := by omega
    have hN2 : N ≤ 201 := by omega
    have HX := Lib.hid hlx2
    have HO := Lib.hid hO
    have HN := Lib.hid hNv
    clear hlx hlx2 hO hus he0 hlen hNv hN hvl
    have q200 : ¬ (200 : Int) < (s.size : Int) := by omega
    go_enter Tryd.func3, Tryd.ntmps3
    go_wp2_with (go_at_call 6; refine HX.out.mono ?_; rintro e w1 ⟨hb1, g, c, rfl, -, hg, hc⟩)
    have HB1 := Lib.hid hb1
    have HC1 := Lib.hid hc
    clear hb1 hc
    go_loopw [6, 7] (fun te ti wr => ∃ E i : Nat, i ≤ N ∧ te = .int .i64 E ∧ ti = .int .i64 i ∧ E ≤ s.size ∧ Hid (E ≤ posF vs s.size i) ∧ Hid (Below w1.heap.size w1 wr)) (fun _ ti _ => N - (intOf ti).toNat)
    case atStart => exact ⟨0, 0, by omega, rfl, rfl, Nat.zero_le _, Lib.hid (Nat.zero_le _), Lib.hid (Below.refl _ _)⟩
    case round =>
      obtain ⟨E, i, hi, rfl, rfl, hEs, HP, HB⟩ := hrel
      by_cases hlt : i < N
      · by_cases hiv : i < vs.length
        · obtain ⟨t, ht⟩ : ∃ t, vs[i]? = some t := ⟨_, List.getElem?_eq_getElem hiv⟩
          have hgd := HO.out i t ht
          rw [HL.out] at hgd
          have hpos : posF vs s.size i = t.o := posF_in ht
          have hEo : E ≤ t.o := by rw [← hpos]; exact HP.out
          obtain ⟨a0, a1, a2, a3⟩ := tok_cells (show (vs ++ [endK s.data.toList])[i]? = some t by rw [List.getElem?_append_left hiv]; exact ht) (below_cells HB.out hg HC1.out)
          have hq := posF_le HO.out (i + 1)
          rw [HL.out] at hq
          obtain ⟨q, hqe⟩ : ∃ q, posF vs s.size (i + 1) = q := ⟨_, rfl⟩
          have HQ := Lib.hid hqe
          rw [hqe] at hgd hq
          obtain ⟨K, O, S, I⟩ := t
          simp only at hgd hEo a0 a1 a2 a3
          have hk1 : 1 ≤ K := hgd.low
          have hk7 : K ≤ 7 := hgd.high
          have hOq : O < q := hgd.lt
          have htx0 : K ≠ 5 → K ≠ 6 → leadF K ++ S.data.toList <+: s.data.toList.drop O ∧ S.data.toList ≠ [] ∧ O + (leadF K).length + S.size ≤ q := hgd.text
          have HT := Lib.hid htx0
          have hne : ¬ i = N - 1 := by have := HN.out; omega
          clear ht hgd hpos hqe htx0
          go_upto_region 9 with fail
          obtain ⟨W2, hW2⟩ : ∃ X, X = wr.alloc (.cells #[.int .i64 K, .int .i64 O, .string S, .int .i64 I] 28) := ⟨_, rfl⟩
          rw [← hW2]
          have HBX := Lib.hid (show Box W2 wr.heap.size 28 #[.int .i64 K, .int .i64 O, .string S, .int .i64 I] by rw [hW2]; exact Box.laid wr _ _)
          have HBW := Lib.hid (show Below w1.heap.size w1 W2 by rw [hW2]; exact HB.out.alloc HB.out.size _)
          clear hW2 a0 a1 a2 a3
          generalize wr.heap.size = gx at *
          obtain ⟨t0, t1, t2, t3⟩ := box4 HBX.out
          have p1 : decide ((O : Int) < (E : Int)) = false := by rw [decide_eq_false_iff_not]; omega
          have p2 : decide (O < E) = false := by rw [decide_eq_false_iff_not]; omega
          have p3 : decide ((s.size : Int) < (O : Int)) = false := by rw [decide_eq_false_iff_not]; omega
          have p4 : decide (s.size < O) = false := by rw [decide_eq_false_iff_not]; omega
          have p5 : ((K : Int) == 0) = false := beq_eq_false_iff_ne.2 (fun h => by omega)
          have p6 : ((i : Int) == (N : Int) - 1) = false := beq_eq_false_iff_ne.2 (fun h => by omega)
          by_cases k3 : K = 3
          · subst k3
            have htx := HT.out (by omega) (by omega)
            rw [show leadF 3 = [36] from rfl] at htx
            obtain ⟨ht1, ht2, ht3⟩ := htx
            have hS : O + 1 + S.size ≤ q := ht3
            have HPF := Lib.hid (prefix_str (a := (⟨#[36]⟩ : ByteArray) ++ S) (s := s) (o := O) (by rw [ByteArray.data_append, Array.toList_append]; exact ht1))
            have HPX := Lib.hid (fun W => fprefix_any ((⟨#[36]⟩ : ByteArray) ++ S) (s.extract O s.size) W (by rw [ByteArray.size_append]; show 1 + S.size ≤ _; omega) (by rw [ByteArray.size_extract]; omega) HPF.out)
            have qe : S.toList.isEmpty = false := by
              rw [Lib.toList_data]
              cases hq : S.data.toList with
              | nil => exact absurd hq ht2
              | cons x r => rfl
            have qs : ¬ (1 + S.size > 9223372036854775807) := by omega

            clear ht1 ht2 ht3
            go_wp2_with fail
            go_quiet (first | (go_at_call 8; refine Calls.quiet_of_same ((HPX.out _).mono fun e w' h => ⟨h.1, h.2⟩)))
            generalize hWn : W2.drewN nq = W3 at *
            have HBY := Lib.hid (show Box W3 gx 28 #[.int .i64 (3 : Nat), .int .i64 O, .string S, .int .i64 I] by rw [← hWn]; exact HBX.out.drewN _)
            have HBV := Lib.hid (show Below w1.heap.size w1 W3 by rw [← hWn]; exact below_drewN10 HBW.out _)
            clear hWn t0 t1 t2 t3
            obtain ⟨t0, t1, t2, t3⟩ := box4 HBY.out
            go_wp2_with fail
            go_roundw
            case rel => exact ⟨O + 1 + S.size, i + 1, by omega, by go_num, by go_num, by omega, Lib.hid (by rw [HQ.out]; exact hS), HBV⟩
            case measure => simp [intOf]; omega
          · have e3 : ((K : Int) == 3) = false := beq_eq_false_iff_ne.2 (fun h => by omega)
            by_cases k4 : K = 4
            · subst k4
              have htx := HT.out (by omega) (by omega)
              rw [show leadF 4 = [46] from rfl] at htx
              obtain ⟨ht1, ht2, ht3⟩ := htx
              have hS : O + 1 + S.size ≤ q := ht3
              have HPF := Lib.hid (prefix_str (a := (⟨#[46]⟩ : ByteArray) ++ S) (s := s) (o := O) (by rw [ByteArray.data_append, Array.toList_append]; exact ht1))
              have HPX := Lib.hid (fun W => fprefix_any ((⟨#[46]⟩ : ByteArray) ++ S) (s.extract O s.size) W (by rw [ByteArray.size_append]; show 1 + S.size ≤ _; omega) (by rw [ByteArray.size_extract]; omega) HPF.out)
              have qe : S.toList.isEmpty = false := by
                rw [Lib.toList_data]
                cases hq : S.data.toList with
                | nil => exact absurd hq ht2
                | cons x r => rfl
              have qs : ¬ (1 + S.size > 9223372036854775807) := by omega

              clear ht1 ht2 ht3
              go_wp2_with fail
              go_quiet (first | (go_at_call 8; refine Calls.quiet_of_same ((HPX.out _).mono fun e w' h => ⟨h.1, h.2⟩)))
              generalize hWn : W2.drewN nq = W3 at *
              have HBY := Lib.hid (show Box W3 gx 28 #[.int .i64 (4 : Nat), .int .i64 O, .string S, .int .i64 I] by rw [← hWn]; exact HBX.out.drewN _)
              have HBV := Lib.hid (show Below w1.heap.size w1 W3 by rw [← hWn]; exact below_drewN10 HBW.out _)
              clear hWn t0 t1 t2 t3
              obtain ⟨t0, t1, t2, t3⟩ := box4 HBY.out
              go_wp2_with fail
              go_roundw
              case rel => exact ⟨O + 1 + S.size, i + 1, by omega, by go_num, by go_num, by omega, Lib.hid (by rw [HQ.out]; exact hS), HBV⟩
              case measure => simp [intOf]; omega
            · have e4 : ((K : Int) == 4) = false := beq_eq_false_iff_ne.2 (fun h => by omega)
              by_cases k5 : K = 5 ∨ K = 6
              · rcases k5 with rfl | rfl
                all_goals
                  go_wp2_with fail
                  go_roundw
                  case rel => exact ⟨O, i + 1, by omega, by go_num, by go_num, by omega, Lib.hid (by rw [HQ.out]; omega), HBW⟩
                  case measure => simp [intOf]; omega
              · have e5 : ((K : Int) == 5) = false := beq_eq_false_iff_ne.2 (fun h => by omega)
                have e6 : ((K : Int) == 6) = false := beq_eq_false_iff_ne.2 (fun h => by omega)
                have htx := HT.out (by omega) (by omega)
                rw [show leadF K = [] by unfold leadF; rw [if_neg k3, if_neg k4]] at htx
                obtain ⟨ht1, ht2, ht3⟩ := htx
                have hS : O + 0 + S.size ≤ q := ht3
                have HPF := Lib.hid (prefix_str (a := (⟨#[]⟩ : ByteArray) ++ S) (s := s) (o := O) (by rw [ByteArray.data_append, Array.toList_append]; exact ht1))
                have HPX := Lib.hid (fun W => fprefix_any ((⟨#[]⟩ : ByteArray) ++ S) (s.extract O s.size) W (by rw [ByteArray.size_append]; show 0 + S.size ≤ _; omega) (by rw [ByteArray.size_extract]; omega) HPF.out)
                have qe : S.toList.isEmpty = false := by
                  rw [Lib.toList_data]
                  cases hq : S.data.toList with
                  | nil => exact absurd hq ht2
                  | cons x r => rfl
                have qs : ¬ (0 + S.size > 9223372036854775807) := by omega

                clear ht1 ht2 ht3
                go_wp2_with fail
                go_quiet (first | (go_at_call 8; refine Calls.quiet_of_same ((HPX.out _).mono fun e w' h => ⟨h.1, h.2⟩)))
                generalize hWn : W2.drewN nq = W3 at *
                have HBY := Lib.hid (show Box W3 gx 28 #[.int .i64 K, .int .i64 O, .string S, .int .i64 I] by rw [← hWn]; exact HBX.out.drewN _)
                have HBV := Lib.hid (show Below w1.heap.size w1 W3 by rw [← hWn]; exact below_drewN10 HBW.out _)
                clear hWn t0 t1 t2 t3
                obtain ⟨t0, t1, t2, t3⟩ := box4 HBY.out
                go_wp2_with fail
                go_roundw
                case rel => exact ⟨O + 0 + S.size, i + 1, by omega, by go_num, by go_num, by omega, Lib.hid (by rw [HQ.out]; exact hS), HBV⟩
                case measure => simp [intOf]; omega
        · have hie : i = vs.length := by have := HN.out; omega
          have hE2 : E ≤ s.size := hEs
          obtain ⟨a0, a1, a2, a3⟩ := tok_cells (show (vs ++ [endK s.data.toList])[i]? = some (endK s.data.toList) by rw [hie, List.getElem?_append_right (Nat.le_refl _)]; simp) (below_cells HB.out hg HC1.out)
          unfold endK at a0 a1 a2 a3
          rw [HL.out] at a1
          have p1 : decide ((s.size : Int) < (E : Int)) = false := by rw [decide_eq_false_iff_not]; omega
          have p2 : decide (s.size < E) = false := by rw [decide_eq_false_iff_not]; omega
          have p6 : ((i : Int) == (N : Int) - 1) = true := by rw [beq_iff_eq]; have := HN.out; omega
          have hi1 : i + 1 = N := by have := HN.out; omega
          have HI1 := Lib.hid hi1
          have HIE := Lib.hid hie
          clear hie hi1 hiv
          go_upto_region 9 with fail
          obtain ⟨W2, hW2⟩ : ∃ X, X = wr.alloc (.cells #[.int .i64 0, .int .i64 s.size, .string ⟨#[]⟩, .int .i64 0] 28) := ⟨_, rfl⟩
          rw [← hW2]
          have HBX := Lib.hid (show Box W2 wr.heap.size 28 #[.int .i64 0, .int .i64 s.size, .string ⟨#[]⟩, .int .i64 0] by rw [hW2]; exact Box.laid wr _ _)
          have HBW := Lib.hid (show Below w1.heap.size w1 W2 by rw [hW2]; exact HB.out.alloc HB.out.size _)
          clear hW2 a0 a1 a2 a3
          generalize wr.heap.size = gx at *
          obtain ⟨t0, t1, t2, t3⟩ := box4 HBX.out
          go_wp2_with fail
          go_roundw
          case rel => exact ⟨s.size, i + 1, by have := HI1.out; omega, by go_num, by go_num, by omega, Lib.hid (by rw [posF_out (by have := HIE.out; omega)]; exact Nat.le_refl _), HBW⟩
          case measure => simp [intOf]; have := HI1.out; omega
      · have hiN : i = N := by omega
        subst hiN
        obtain ⟨n0, hn0⟩ : ∃ n0, i = n0 + 1 := ⟨i - 1, by have := HN.out; omega⟩
        subst hn0
        have hvn : vs.length = n0 := by have := HN.out.1; omega
        obtain ⟨a0, a1, a2, a3⟩ := tok_cells (show (vs ++ [endK s.data.toList])[n0]? = some (endK s.data.toList) by rw [← hvn, List.getElem?_append_right (Nat.le_refl _)]; simp) (below_cells HB.out hg HC1.out)
        unfold endK at a1
        rw [HL.out] at a1
        have HBW := Lib.hid (chain HB1.out HB.out)
        clear a0 a2 a3 hvn
        go_wp2_with (go_at_call 7; refine (HAW.out _ HBW.out).mono ?_; rintro e w3 ⟨rfl, hb3⟩)
        all_goals go_ret
        all_goals exact ⟨rfl, chain HBW.out hb3⟩
  · by_cases h200 : s.size ≤ 200
    · have he : ¬ (lexFP s.data.toList).e = 0 := fun h => hgo ⟨h200, h⟩
      obtain ⟨R, hR⟩ : ∃ R, lexFP s.data.toList = R := ⟨_, rfl⟩
      rw [hR] at hlx he
      have HX := Lib.hid hlx
      have qe : ((R.e : Int) != 0) = true := by rw [bne_iff_ne]; omega
      have q200 : ¬ (200 : Int) < (s.size : Int) := by omega
      clear hlx hgo hR
      go_enter Tryd.func3, Tryd.ntmps3
      go_wp2_with (first
        | (go_at_call 6; refine HX.out.mono ?_; rintro e w1 ⟨hb1, A, n, c, rfl, -⟩)
        | (go_at_call 7; refine (HAW.out _ hb1).mono ?_; rintro e w3 ⟨rfl, hb3⟩))
      go_ret
      exact ⟨rfl, chain hb1 hb3⟩
    · have HX := Lib.hid hlx
      have q200 : (200 : Int) < (s.size : Int) := by omega
      generalize lexFP s.data.toList = R at HX
      clear hlx hgo
      go_enter Tryd.func3, Tryd.ntmps3
      go_wp2_with (first
        | (go_at_call 6; refine HX.out.mono ?_; rintro e w1 ⟨hb1, A, n, c, rfl, -⟩)
        | (go_at_call 7; refine (HAW.out _ hb1).mono ?_; rintro e w3 ⟨rfl, hb3⟩))
      go_ret
      exact ⟨rfl, chain hb1 hb3⟩
end Go.Proofs.YtgclmnlnbjjgkaaDoor
