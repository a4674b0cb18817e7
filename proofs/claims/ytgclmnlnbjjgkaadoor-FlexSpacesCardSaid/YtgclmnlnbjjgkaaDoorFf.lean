/- The next token of a filter: the contract of next. -/
import Derived.Test.YtgclmnlnbjjgkaaDoorFe
set_option linter.unusedVariables false
set_option linter.unusedSimpArgs false
namespace Go.Proofs.YtgclmnlnbjjgkaaDoor
open Go.RowKit
set_option maxHeartbeats 10000000 in
set_option maxRecDepth 100000 in
theorem fnext_any (s : ByteArray) (a : Nat) (hs : s.size ≤ 1048576) (ha : a < s.size) (w : World) (hE : ErrIn w) (hG : SgIn w) : Calls Tryd.prog 13 #[.string s, .int .i64 a] w (FxPost (tokP s.data.toList a) w) := by
  have hsm : s.size ≤ maxLen := by unfold maxLen; omega
  have HL := Lib.hid (show s.data.toList.length = s.size by simp)
  obtain ⟨W1, hW1⟩ : ∃ X, X = w.alloc (.cells #[.int .i64 0, .int .i64 0, .string ⟨#[]⟩, .int .i64 0] 28) := ⟨_, rfl⟩
  have HW1 := Lib.hid hW1
  have HBX : Hid (Box W1 w.heap.size 28 #[.int .i64 0, .int .i64 0, .string ⟨#[]⟩, .int .i64 0]) := Lib.hid (by rw [hW1]; exact Box.laid w _ _)
  have HBL : Hid (Below w.heap.size w W1) := Lib.hid (by rw [hW1]; exact (Below.refl _ _).alloc (Nat.le_refl _) _)
  have HE1 := Lib.hid (hE.next HBL.out)
  have HG1 := Lib.hid (hG.next HBL.out)
  clear hW1 hE hG
  obtain ⟨b, hb⟩ : ∃ b, s[a] = b := ⟨_, rfl⟩
  have HAT := Lib.hid (at_list ha hb)
  have HB0 := Lib.hid (fun W => fbegins_any s a hsm W)
  have hb1 := fun W => fbegins_any s (a + 1) hsm W
  rw [show ((a + 1 : Nat) : Int) = (a : Int) + 1 by omega] at hb1
  have HB1 := Lib.hid hb1
  clear hb1
  have HDG := Lib.hid (fun W => fdig_any b W)
  have HWD := Lib.hid (fun W => fx_open (fword_any s a hs (by omega) W))
  obtain ⟨x, hx⟩ : ∃ x, tokP s.data.toList a = x := ⟨_, rfl⟩
  rw [hx]
  unfold tokP at hx
  rw [bytq HAT.out, atF_at (p := digB) HAT.out] at hx
  have h1n : ∀ x0, atF nameB s.data.toList a = x0 → nameB b = x0 := fun x0 h => by rw [← h, atF_at HAT.out]
  clear hsm
  cases c0 : atF nameB s.data.toList a with
  | true =>
    rw [c0] at HB0
    rw [c0, if_pos rfl] at hx
    rw [hx] at HWD
    clear c0 hx h1n
    go_enter Tryd.func13, Tryd.ntmps13
    go_upto_region 1 with fail
    rw [← HW1.out]
    go_wp2_with (first
      | (go_at_call 14; (with_reducible refine (HB0.out _).mono ?_); rintro e w' ⟨rfl, rfl⟩)
      | (go_at_call 18; refine (HWD.out _).mono ?_; rintro e w' ⟨rfl, hb'⟩; have bx := HBX.out.below hb' HBX.out.lt; obtain ⟨t0, t1, t2, t3⟩ := box4 bx; obtain ⟨f0, f1, f2, f3⟩ := free4 bx))
    exact fx_ret Tryd.results13 rfl rfl rfl rfl (put4 bx _ _ _ _) (below_four (Nat.le_refl _) (HBL.out.trans (hb'.mono HBL.out.size)) _ _ _ _)
  | false =>
    rw [c0] at HB0
    rw [c0, if_neg Bool.false_ne_true] at hx
    clear HWD h1n c0
    obtain ⟨x1, hx1⟩ : ∃ x1, atF nameB s.data.toList (a + 1) = x1 := ⟨_, rfl⟩
    rw [hx1] at HB1 hx
    have ha1 : x1 = true → a + 1 ≤ s.size := fun h => by
      rw [h] at hx1
      have := (name_step hx1).1
      omega
    have HA1 := Lib.hid ha1
    clear hx1 ha1
    by_cases c36 : b.toNat = 36 ∧ x1 = true
    · rw [if_pos c36] at hx
      have hnm := fun W => fx_open (named_any 3 s a (a + 1) hs (HA1.out c36.2) W)
      rw [hx, show ((a + 1 : Nat) : Int) = (a : Int) + 1 by omega, show ((3 : Nat) : Int) = 3 from rfl] at hnm
      have HNM := Lib.hid hnm
      clear hnm
      obtain ⟨h36, rfl⟩ := c36
      have q1 : ((b.toNat : Int) == 36) = true := by rw [beq_iff_eq]; omega
      clear hx h36
      go_enter Tryd.func13, Tryd.ntmps13
      go_upto_region 1 with fail
      rw [← HW1.out]
      go_wp2_with (first
        | (go_at_call 14; (with_reducible refine (HB0.out _).mono ?_); rintro e w' ⟨rfl, rfl⟩)
        | (go_at_call 14; (with_reducible refine (HB1.out _).mono ?_); rintro e w' ⟨rfl, rfl⟩)
        | (go_at_call 19; refine (HNM.out _).mono ?_; rintro e w' ⟨rfl, hb'⟩; have bx := HBX.out.below hb' HBX.out.lt; obtain ⟨t0, t1, t2, t3⟩ := box4 bx; obtain ⟨f0, f1, f2, f3⟩ := free4 bx))
      exact fx_ret Tryd.results13 rfl rfl rfl rfl (put4 bx _ _ _ _) (below_four (Nat.le_refl _) (HBL.out.trans (hb'.mono HBL.out.size)) _ _ _ _)
    · rw [if_neg c36] at hx
      by_cases c46 : b.toNat = 46 ∧ x1 = true
      · rw [if_pos c46] at hx
        have hnm := fun W => fx_open (named_any 4 s a (a + 1) hs (HA1.out c46.2) W)
        rw [hx, show ((a + 1 : Nat) : Int) = (a : Int) + 1 by omega, show ((4 : Nat) : Int) = 4 from rfl] at hnm
        have HNM := Lib.hid hnm
        clear hnm
        obtain ⟨h46, rfl⟩ := c46
        have q1 : ((b.toNat : Int) == 36) = false := beq_eq_false_iff_ne.2 (fun h => by omega)
        have q2 : ((b.toNat : Int) == 46) = true := by rw [beq_iff_eq]; omega
        clear hx h46 c36
        go_enter Tryd.func13, Tryd.ntmps13
        go_upto_region 1 with fail
        rw [← HW1.out]
        go_wp2_with (first
          | (go_at_call 14; (with_reducible refine (HB0.out _).mono ?_); rintro e w' ⟨rfl, rfl⟩)
          | (go_at_call 14; (with_reducible refine (HB1.out _).mono ?_); rintro e w' ⟨rfl, rfl⟩)
          | (go_at_call 19; refine (HNM.out _).mono ?_; rintro e w' ⟨rfl, hb'⟩; have bx := HBX.out.below hb' HBX.out.lt; obtain ⟨t0, t1, t2, t3⟩ := box4 bx; obtain ⟨f0, f1, f2, f3⟩ := free4 bx))
        exact fx_ret Tryd.results13 rfl rfl rfl rfl (put4 bx _ _ _ _) (below_four (Nat.le_refl _) (HBL.out.trans (hb'.mono HBL.out.size)) _ _ _ _)
      · rw [if_neg c46] at hx
        obtain ⟨q, hq⟩ : ∃ q : Bool, ((b.toNat : Int) == 36) = q := ⟨_, rfl⟩
        obtain ⟨r, hr⟩ : ∃ r : Bool, ((b.toNat : Int) == 46) = r := ⟨_, rfl⟩
        have hqr : x1 = false ∨ (x1 = true ∧ q = false ∧ r = false) := by
          cases x1 with
          | false => exact .inl rfl
          | true =>
            refine .inr ⟨rfl, ?_, ?_⟩
            · rw [← hq]; exact beq_eq_false_iff_ne.2 (fun h => c36 ⟨by omega, rfl⟩)
            · rw [← hr]; exact beq_eq_false_iff_ne.2 (fun h => c46 ⟨by omega, rfl⟩)
        clear c36 c46
        cases cd : digB b with
        | true =>
          rw [cd] at HDG
          rw [cd, if_pos rfl] at hx
          have HNU := Lib.hid (fun (W : World) (h : ErrIn W) => fx_open (fnumber_any s a hs ha (by rw [atF_at HAT.out]; exact cd) W h))
          rw [hx] at HNU
          clear hx cd
          rcases hqr with rfl | ⟨rfl, rfl, rfl⟩
          · cases q
            all_goals
              cases r
              all_goals
                go_enter Tryd.func13, Tryd.ntmps13
                go_upto_region 1 with fail
                rw [← HW1.out]
                go_wp2_with (first
                  | (go_at_call 14; (with_reducible refine (HB0.out _).mono ?_); rintro e w' ⟨rfl, rfl⟩)
                  | (go_at_call 14; (with_reducible refine (HB1.out _).mono ?_); rintro e w' ⟨rfl, rfl⟩)
                  | (go_at_call 20; refine (HDG.out _).mono ?_; rintro e w' ⟨rfl, rfl⟩)
                  | (go_at_call 21; refine (HNU.out _ HE1.out).mono ?_; rintro e w' ⟨rfl, hb'⟩; have bx := HBX.out.below hb' HBX.out.lt; obtain ⟨t0, t1, t2, t3⟩ := box4 bx; obtain ⟨f0, f1, f2, f3⟩ := free4 bx))
                exact fx_ret Tryd.results13 rfl rfl rfl rfl (put4 bx _ _ _ _) (below_four (Nat.le_refl _) (HBL.out.trans (hb'.mono HBL.out.size)) _ _ _ _)
          · go_enter Tryd.func13, Tryd.ntmps13
            go_upto_region 1 with fail
            rw [← HW1.out]
            go_wp2_with (first
              | (go_at_call 14; (with_reducible refine (HB0.out _).mono ?_); rintro e w' ⟨rfl, rfl⟩)
              | (go_at_call 14; (with_reducible refine (HB1.out _).mono ?_); rintro e w' ⟨rfl, rfl⟩)
              | (go_at_call 20; refine (HDG.out _).mono ?_; rintro e w' ⟨rfl, rfl⟩)
              | (go_at_call 21; refine (HNU.out _ HE1.out).mono ?_; rintro e w' ⟨rfl, hb'⟩; have bx := HBX.out.below hb' HBX.out.lt; obtain ⟨t0, t1, t2, t3⟩ := box4 bx; obtain ⟨f0, f1, f2, f3⟩ := free4 bx))
            exact fx_ret Tryd.results13 rfl rfl rfl rfl (put4 bx _ _ _ _) (below_four (Nat.le_refl _) (HBL.out.trans (hb'.mono HBL.out.size)) _ _ _ _)
        | false =>
          rw [cd] at HDG
          rw [cd, if_neg Bool.false_ne_true] at hx
          clear cd
          have HQU := Lib.hid (fun (W : World) (h : ErrIn W) => fx_open (quoted_any s a hs W h))
          have HSI := Lib.hid (fun (W : World) (h : SgIn W) => fx_open (fsign_any s a hs ha W h))
          by_cases c34 : b.toNat = 34
          · rw [if_pos c34] at hx
            rw [hx] at HQU
            have q34 : ((b.toNat : Int) == 34) = true := by rw [beq_iff_eq]; omega
            have hq0 : q = false := by rw [← hq]; exact beq_eq_false_iff_ne.2 (fun h => by omega)
            have hr0 : r = false := by rw [← hr]; exact beq_eq_false_iff_ne.2 (fun h => by omega)
            subst hq0 hr0
            clear hx c34 hqr
            go_enter Tryd.func13, Tryd.ntmps13
            go_upto_region 1 with fail
            rw [← HW1.out]
            go_wp2_with (first
              | (go_at_call 14; (with_reducible refine (HB0.out _).mono ?_); rintro e w' ⟨rfl, rfl⟩)
              | (go_at_call 20; refine (HDG.out _).mono ?_; rintro e w' ⟨rfl, rfl⟩)
              | (go_at_call 22; refine (HQU.out _ HE1.out).mono ?_; rintro e w' ⟨rfl, hb'⟩; have bx := HBX.out.below hb' HBX.out.lt; obtain ⟨t0, t1, t2, t3⟩ := box4 bx; obtain ⟨f0, f1, f2, f3⟩ := free4 bx))
            exact fx_ret Tryd.results13 rfl rfl rfl rfl (put4 bx _ _ _ _) (below_four (Nat.le_refl _) (HBL.out.trans (hb'.mono HBL.out.size)) _ _ _ _)
          · rw [if_neg c34] at hx
            rw [hx] at HSI
            have q34 : ((b.toNat : Int) == 34) = false := beq_eq_false_iff_ne.2 (fun h => c34 (by omega))
            clear hx c34
            rcases hqr with rfl | ⟨rfl, rfl, rfl⟩
            · cases q
              all_goals
                cases r
                all_goals
                  go_enter Tryd.func13, Tryd.ntmps13
                  go_upto_region 1 with fail
                  rw [← HW1.out]
                  go_wp2_with (first
                    | (go_at_call 14; (with_reducible refine (HB0.out _).mono ?_); rintro e w' ⟨rfl, rfl⟩)
                    | (go_at_call 14; (with_reducible refine (HB1.out _).mono ?_); rintro e w' ⟨rfl, rfl⟩)
                    | (go_at_call 20; refine (HDG.out _).mono ?_; rintro e w' ⟨rfl, rfl⟩)
                    | (go_at_call 23; refine (HSI.out _ HG1.out).mono ?_; rintro e w' ⟨rfl, hb'⟩; have bx := HBX.out.below hb' HBX.out.lt; obtain ⟨t0, t1, t2, t3⟩ := box4 bx; obtain ⟨f0, f1, f2, f3⟩ := free4 bx))
                  exact fx_ret Tryd.results13 rfl rfl rfl rfl (put4 bx _ _ _ _) (below_four (Nat.le_refl _) (HBL.out.trans (hb'.mono HBL.out.size)) _ _ _ _)
            · go_enter Tryd.func13, Tryd.ntmps13
              go_upto_region 1 with fail
              rw [← HW1.out]
              go_wp2_with (first
                | (go_at_call 14; (with_reducible refine (HB0.out _).mono ?_); rintro e w' ⟨rfl, rfl⟩)
                | (go_at_call 14; (with_reducible refine (HB1.out _).mono ?_); rintro e w' ⟨rfl, rfl⟩)
                | (go_at_call 20; refine (HDG.out _).mono ?_; rintro e w' ⟨rfl, rfl⟩)
                | (go_at_call 23; refine (HSI.out _ HG1.out).mono ?_; rintro e w' ⟨rfl, hb'⟩; have bx := HBX.out.below hb' HBX.out.lt; obtain ⟨t0, t1, t2, t3⟩ := box4 bx; obtain ⟨f0, f1, f2, f3⟩ := free4 bx))
              exact fx_ret Tryd.results13 rfl rfl rfl rfl (put4 bx _ _ _ _) (below_four (Nat.le_refl _) (HBL.out.trans (hb'.mono HBL.out.size)) _ _ _ _)
end Go.Proofs.YtgclmnlnbjjgkaaDoor
