/- Numbers and strings of a filter: the contracts of number and quoted. -/
import Derived.Test.YtgclmnlnbjjgkaaDoorFc
import Derived.Test.YtgclmnlnbjjgkaaDoorJlN
set_option linter.unusedVariables false
set_option linter.unusedSimpArgs false
namespace Go.Proofs.YtgclmnlnbjjgkaaDoor
open Go.RowKit
theorem atoi_dig {l : List UInt8} {a t : Nat} (ha : a < l.length) (ht : span digB l a = t) (hat : a < t) : Lib.atoiAll (sub l a t) = endP (fitP false (natF 0 (sub l a t))) := by
  refine atoi_digits (fun e => ?_) (by rw [← ht]; exact sub_digits l a)
  have h := congrArg List.length e
  rw [sub_len (by rw [← ht]; exact span_le (Nat.le_of_lt ha))] at h
  simp at h
  omega
theorem numFP_a {l : List UInt8} {a t : Nat} (ht : span digB l a = t) (h : byt l a = 48 ∧ a + 1 < t) : numFP l a = noF a 4 := by
  unfold numFP; rw [ht, if_pos h]
theorem numFP_b {l : List UInt8} {a t : Nat} (ht : span digB l a = t) (h : ¬ (byt l a = 48 ∧ a + 1 < t)) (h2 : (atF nameB l t || fracB l t) = true) : numFP l a = noF a 7 := by
  unfold numFP; rw [ht, if_neg h, if_pos h2]
theorem numFP_c {l : List UInt8} {a t : Nat} (ht : span digB l a = t) (h : ¬ (byt l a = 48 ∧ a + 1 < t)) (h2 : (atF nameB l t || fracB l t) = false) (ho : fitP false (natF 0 (sub l a t)) = none) : numFP l a = noF a 7 := by
  unfold numFP; rw [ht, if_neg h, if_neg (by rw [h2]; exact Bool.false_ne_true), ho]
theorem numFP_d {l : List UInt8} {a t : Nat} {v : Int} (ht : span digB l a = t) (h : ¬ (byt l a = 48 ∧ a + 1 < t)) (h2 : (atF nameB l t || fracB l t) = false) (ho : fitP false (natF 0 (sub l a t)) = some v) : numFP l a = okF 5 a ⟨#[]⟩ v t := by
  unfold numFP; rw [ht, if_neg h, if_neg (by rw [h2]; exact Bool.false_ne_true), ho]
set_option maxHeartbeats 10000000 in
set_option maxRecDepth 100000 in
theorem fnumber_any (s : ByteArray) (a : Nat) (hs : s.size ≤ 1048576) (ha : a < s.size) (hd : atF digB s.data.toList a = true) (w : World) (hE : ErrIn w) : Calls Tryd.prog 21 #[.string s, .int .i64 a] w (FxPost (numFP s.data.toList a) w) := by
  have hsm : s.size ≤ maxLen := by unfold maxLen; omega
  have hl : s.data.toList.length = s.size := by simp
  have HL := Lib.hid hl
  have HSM := Lib.hid hsm
  obtain ⟨t, hts⟩ : ∃ t, span digB s.data.toList a = t := ⟨_, rfl⟩
  have hat : a < t := by have := (dig_step hd).2; omega
  have htl : t ≤ s.size := by rw [← hl, ← hts]; exact span_le (by omega)
  have HE := Lib.hid hts
  obtain ⟨b0, hb0⟩ : ∃ b0, s[a] = b0 := ⟨_, rfl⟩
  have HB0 := Lib.hid (at_list ha hb0)
  have HERR := Lib.hid hE
  have HP := Lib.hid (fun (W : World) (h : ErrIn W) => parse_any (s.extract a t) (fitP false (natF 0 (sub s.data.toList a t))) (by have e := ext_sub s a t; rw [Lib.toList_data] at e; rw [e]; exact atoi_dig (by omega) hts hat) (ext_size s a t hs) W h)
  have HFR := Lib.hid (fun W => frac_any s t hs htl W)
  have HNM := Lib.hid (fun W => fbegins_any s t hsm W)
  obtain ⟨W1, hW1⟩ : ∃ X, X = w.alloc (.cells #[.int .i64 0, .int .i64 0, .string ⟨#[]⟩, .int .i64 0] 28) := ⟨_, rfl⟩
  have HW1 := Lib.hid hW1
  have HBX : Hid (Box W1 w.heap.size 28 #[.int .i64 0, .int .i64 0, .string ⟨#[]⟩, .int .i64 0]) := Lib.hid (by rw [hW1]; exact Box.laid w _ _)
  have HBL : Hid (Below w.heap.size w W1) := Lib.hid (by rw [hW1]; exact (Below.refl _ _).alloc (Nat.le_refl _) _)
  clear hW1 hts hd hE hsm hl
  go_enter Tryd.func21, Tryd.ntmps21
  go_upto_region 1 with fail
  rw [← HW1.out]
  go_upto_block 0 with fail
  go_cut [7] (fun t7 wx => wx = W1 ∧ t7 = .int .i64 (t : Nat))
  case first => as_aux_lemma =>
    go_wp2
    go_loop [7] (fun t7 => ∃ i : Nat, a ≤ i ∧ i ≤ s.size ∧ t7 = .int .i64 i ∧ span digB s.data.toList a = span digB s.data.toList i) (fun t7 => s.size - (intOf t7).toNat)
    case atStart => exact ⟨a, Nat.le_refl _, by omega, rfl, rfl⟩
    case round =>
      obtain ⟨i, hfi, hi, rfl, hsp⟩ := hrel
      have HS := Lib.hid hsp
      clear hsp
      by_cases hlt : i < s.size
      · obtain ⟨b, hb⟩ : ∃ b, s[i] = b := ⟨_, rfl⟩
        have H3 := Lib.hid (at_list hlt hb)
        cases hc : digB b with
        | true =>
          have HN := Lib.hid (span_inq H3.out hc)
          go_wp2_with (go_at_call 20; refine (fdig_any _ _).mono ?_; rw [hc]; rintro e w' ⟨rfl, rfl⟩)
          go_round
          case rel => exact ⟨i + 1, by omega, by omega, by go_num, HS.out.trans HN.out⟩
          case measure => simp [intOf]; omega
        | false =>
          have HN := Lib.hid (span_noq H3.out hc)
          go_wp2_with (go_at_call 20; refine (fdig_any _ _).mono ?_; rw [hc]; rintro e w' ⟨rfl, rfl⟩)
          go_meet
          exact ⟨rfl, by rw [← HE.out, HS.out, HN.out]⟩
      · have HN := Lib.hid (span_end (p := digB) (l := s.data.toList) (k := i) (by rw [HL.out]; omega))
        go_wp2
        all_goals go_meet
        all_goals exact ⟨rfl, by rw [← HE.out, HS.out, HN.out]⟩
  case rest =>
    obtain ⟨hweq, rfl⟩ := hcut
    have hweq := hweq.symm
    subst hweq
    by_cases h1 : b0.toNat = 48 ∧ a + 1 < t
    · have HW := Lib.hid (numFP_a HE.out (l := s.data.toList) (by rw [bytq HB0.out]; exact h1))
      have q1 : ((b0.toNat : Int) == 48) = true := by rw [beq_iff_eq]; omega
      have q2 : a + 1 < t := h1.2
      clear h1
      go_wp2_with (go_at_call 27; refine (ffail_any _ _ _).mono ?_; rintro e w' ⟨rfl, hb'⟩; have bx := HBX.out.below hb' HBX.out.lt; obtain ⟨t0, t1, t2, t3⟩ := box4 bx; obtain ⟨f0, f1, f2, f3⟩ := free4 bx)
      all_goals first | (exfalso; omega) | (rw [HW.out]; exact fx_ret Tryd.results21 rfl rfl rfl rfl (put4 bx _ _ _ _) (below_four (Nat.le_refl _) (HBL.out.trans (hb'.mono HBL.out.size)) _ _ _ _))
    · have HN1 : Hid (¬ (byt s.data.toList a = 48 ∧ a + 1 < t)) := Lib.hid (by rw [bytq HB0.out]; exact h1)
      obtain ⟨z, hz⟩ : ∃ z : Bool, (decide (b0.toNat = 48) && decide (a + 1 < t)) = z := ⟨_, rfl⟩
      have hzf : z = false := by rw [← hz]; simp; intro h; have := h1; omega
      have HA := HNM
      have HF := HFR
      obtain ⟨x1, hx1⟩ : ∃ x, atF nameB s.data.toList t = x := ⟨_, rfl⟩
      obtain ⟨x2, hx2⟩ : ∃ x, fracB s.data.toList t = x := ⟨_, rfl⟩
      rw [hx1] at HA
      rw [hx2] at HF
      have HX1 := Lib.hid hx1
      have HX2 := Lib.hid hx2
      obtain ⟨q, hq⟩ : ∃ q : Bool, ((b0.toNat : Int) == 48) = q := ⟨_, rfl⟩
      have hor : q = false ∨ (q = true ∧ ¬ a + 1 < t) := by
        cases q with
        | false => exact .inl rfl
        | true =>
          rw [beq_iff_eq] at hq
          exact .inr ⟨rfl, fun h => h1 ⟨by omega, h⟩⟩
      clear h1 hz hzf hx1 hx2 HNM HFR
      by_cases hb : (x1 || x2) = true
      · have HW := Lib.hid (numFP_b HE.out HN1.out (by rw [HX1.out, HX2.out]; exact hb))
        have hc : x1 = true ∨ (x1 = false ∧ x2 = true) := by cases x1 <;> simp_all
        clear hb
        rcases hor with rfl | ⟨rfl, q2⟩
        all_goals
          rcases hc with rfl | ⟨rfl, rfl⟩
          all_goals
            go_wp2_with (first
              | (go_at_call 14; refine (HA.out _).mono ?_; rintro e w' ⟨rfl, rfl⟩)
              | (go_at_call 29; refine (HF.out _).mono ?_; rintro e w' ⟨rfl, rfl⟩)
              | (go_at_call 27; refine (ffail_any _ _ _).mono ?_; rintro e w' ⟨rfl, hb'⟩; have bx := HBX.out.below hb' HBX.out.lt; obtain ⟨t0, t1, t2, t3⟩ := box4 bx; obtain ⟨f0, f1, f2, f3⟩ := free4 bx))
            all_goals first | (exfalso; omega) | (rw [HW.out]; exact fx_ret Tryd.results21 rfl rfl rfl rfl (put4 bx _ _ _ _) (below_four (Nat.le_refl _) (HBL.out.trans (hb'.mono HBL.out.size)) _ _ _ _))
      · have hbf : (x1 || x2) = false := by simpa using hb
        have hc : x1 = false ∧ x2 = false := by cases x1 <;> cases x2 <;> simp_all
        obtain ⟨rfl, rfl⟩ := hc
        clear hb hbf
        cases ho : fitP false (natF 0 (sub s.data.toList a t)) with
        | none =>
          have HW := Lib.hid (numFP_c HE.out HN1.out (by rw [HX1.out, HX2.out]; rfl) ho)
          have HPN := Lib.hid (fun (W : World) (h : ErrIn W) => parse_none (HP.out W h) ho)
          clear ho HP
          have HER1 := Lib.hid (HERR.out.next HBL.out)
          rcases hor with rfl | ⟨rfl, q2⟩
          all_goals
            go_wp2_with (first
              | (go_at_call 14; refine (HA.out _).mono ?_; rintro e w' ⟨rfl, rfl⟩)
              | (go_at_call 29; refine (HF.out _).mono ?_; rintro e w' ⟨rfl, rfl⟩)
              | (go_at_call 30; refine (HPN.out _ HER1.out).mono ?_; rintro e w' ⟨n0, te, pe, rfl, hb1⟩)
              | (go_at_call 27; refine (ffail_any _ _ _).mono ?_; rintro e w' ⟨rfl, hb'⟩; have bx := (HBX.out.below hb1 HBX.out.lt).below hb' (Nat.lt_of_lt_of_le HBX.out.lt hb1.size); obtain ⟨t0, t1, t2, t3⟩ := box4 bx; obtain ⟨f0, f1, f2, f3⟩ := free4 bx))
            all_goals first | (exfalso; omega) | (rw [HW.out]; exact fx_ret Tryd.results21 rfl rfl rfl rfl (put4 bx _ _ _ _) (below_four (Nat.le_refl _) (chain (chain HBL.out hb1) hb') _ _ _ _))
        | some v =>
          have HW := Lib.hid (numFP_d HE.out HN1.out (by rw [HX1.out, HX2.out]; rfl) ho)
          have HPS := Lib.hid (fun (W : World) (h : ErrIn W) => parse_some (HP.out W h) ho)
          clear ho HP
          have HER1 := Lib.hid (HERR.out.next HBL.out)
          rcases hor with rfl | ⟨rfl, q2⟩
          all_goals
            go_wp2_with (first
              | (go_at_call 14; refine (HA.out _).mono ?_; rintro e w' ⟨rfl, rfl⟩)
              | (go_at_call 29; refine (HF.out _).mono ?_; rintro e w' ⟨rfl, rfl⟩)
              | (go_at_call 30; refine (HPS.out _ HER1.out).mono ?_; rintro e w' ⟨rfl, hb1⟩; have bx := HBX.out.below hb1 HBX.out.lt; obtain ⟨t0, t1, t2, t3⟩ := box4 bx; obtain ⟨f0, f1, f2, f3⟩ := free4 bx))
            all_goals first | (exfalso; omega) | (rw [HW.out]; exact fx_ret Tryd.results21 rfl rfl rfl rfl (put4 bx _ _ _ _) (below_four (Nat.le_refl _) (chain HBL.out hb1) _ _ _ _))
set_option maxHeartbeats 4000000 in
set_option maxRecDepth 100000 in
theorem quoted_any (s : ByteArray) (a : Nat) (hs : s.size ≤ 1048576) (w : World) (hE : ErrIn w) : Calls Tryd.prog 22 #[.string s, .int .i64 a] w (FxPost (strFP s.data.toList a) w) := by
  have HN := Lib.hid (fun (W : World) (h : ErrIn W) => lex_open (next_any s a hs W h))
  have HERR := Lib.hid hE
  unfold strFP
  generalize lexP s.data.toList (a : Int) = x at HN ⊢
  obtain ⟨K, F, T, B, I, S, P, E⟩ := x
  simp only at HN ⊢
  obtain ⟨W1, hW1⟩ : ∃ X, X = w.alloc (.cells #[.int .i64 0, .int .i64 0, .string ⟨#[]⟩, .int .i64 0] 28) := ⟨_, rfl⟩
  have HW1 := Lib.hid hW1
  have HBX : Hid (Box W1 w.heap.size 28 #[.int .i64 0, .int .i64 0, .string ⟨#[]⟩, .int .i64 0]) := Lib.hid (by rw [hW1]; exact Box.laid w _ _)
  have HBL : Hid (Below w.heap.size w W1) := Lib.hid (by rw [hW1]; exact (Below.refl _ _).alloc (Nat.le_refl _) _)
  have HER1 := Lib.hid (HERR.out.next HBL.out)
  clear hW1 hE
  go_enter Tryd.func22, Tryd.ntmps22
  go_upto_region 1 with fail
  rw [← HW1.out]
  go_upto_region 2 with (go_at_call 31; refine (HN.out _ HER1.out).mono ?_; rintro e w1 ⟨rfl, hb1⟩)
  obtain ⟨W2, hW2⟩ : ∃ X, X = w1.alloc (.cells #[.int .i64 K, .int .i64 F, .int .i64 T, .int .u8 B, .int .i64 I, .string S] 49) := ⟨_, rfl⟩
  rw [← hW2]
  have HBY := Lib.hid (show Box W2 w1.heap.size 49 #[.int .i64 K, .int .i64 F, .int .i64 T, .int .u8 B, .int .i64 I, .string S] by rw [hW2]; exact Box.laid w1 _ _)
  have HBX2 := Lib.hid (show Box W2 w.heap.size 28 #[.int .i64 0, .int .i64 0, .string ⟨#[]⟩, .int .i64 0] by rw [hW2]; exact (HBX.out.below hb1 HBX.out.lt).alloc _)
  have HBW := Lib.hid (show Below w.heap.size w W2 by rw [hW2]; exact chain HBL.out (hb1.alloc hb1.size _))
  obtain ⟨y0, y1, y2, y3, y4, y5⟩ := box6 HBY.out
  clear hW2 hb1
  generalize w1.heap.size = g at *
  by_cases hE0 : E = 0
  · subst hE0
    rw [if_pos rfl]
    obtain ⟨t0, t1, t2, t3⟩ := box4 HBX2.out
    obtain ⟨f0, f1, f2, f3⟩ := free4 HBX2.out
    go_wp2_with fail
    exact fx_ret Tryd.results22 rfl rfl rfl rfl (put4 HBX2.out _ _ _ _) (below_four (Nat.le_refl _) HBW.out _ _ _ _)
  · rw [if_neg hE0]
    have qe : ((E : Int) != 0) = true := by rw [bne_iff_ne]; omega
    go_wp2_with (go_at_call 27; refine (ffail_any _ _ _).mono ?_; rintro e w' ⟨rfl, hb'⟩; have bx := HBX2.out.below hb' HBX2.out.lt; obtain ⟨t0, t1, t2, t3⟩ := box4 bx; obtain ⟨f0, f1, f2, f3⟩ := free4 bx)
    exact fx_ret Tryd.results22 rfl rfl rfl rfl (put4 bx _ _ _ _) (below_four (Nat.le_refl _) (chain HBW.out hb') _ _ _ _)
end Go.Proofs.YtgclmnlnbjjgkaaDoor
