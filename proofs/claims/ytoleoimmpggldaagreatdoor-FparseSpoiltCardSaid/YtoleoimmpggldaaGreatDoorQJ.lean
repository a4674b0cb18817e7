import Derived.Test.YtoleoimmpggldaaGreatDoorQI
import Derived.Test.YtoleoimmpggldaaGreatDoorQH
import Derived.Laws.AppendOwn
set_option linter.unusedVariables false
set_option linter.unusedSectionVars false
set_option linter.unusedSimpArgs false
set_option maxHeartbeats 10000000
set_option maxRecDepth 100000
namespace Go.Proofs.YtoleoimmpggldaaGreatDoor
open Go.RowKit
theorem sign_hit (s : ByteArray) (a : Nat) (t : List UInt8) (h : a + t.length ≤ s.size) : ((s.extract a (a + (bsF t).size)).toList == (bsF t).toList) = t.isPrefixOf (s.data.toList.drop a) := by
 rw [← has_pre, ← Lib.hasPrefix_of_take, Lib.toList_data, Lib.toList_data, bsF_list, bsF_size, Lib.extract_data, Nat.add_sub_cancel_left, decide_eq_true (by rw [List.length_drop]; simp; omega), Bool.true_and]
theorem drewN_two10 (w : World) (m n : Nat) : (w.drewN m).drewN n = w.drewN (m + n) := by simp [World.drewN, Nat.add_assoc]
theorem sign_long (s : ByteArray) (a : Nat) (t : List UInt8) (ha : a ≤ s.size) (h : ¬ a + t.length ≤ s.size) : t.isPrefixOf (s.data.toList.drop a) = false := by
 rw [Bool.eq_false_iff];intro g;have h2 := (List.isPrefixOf_iff_prefix.1 g).length_le;rw [List.length_drop] at h2;have h3 : s.data.toList.length = s.size := by simp
 omega
theorem below_drewN10 {w W : World} (h : Below w.heap.size w W) (n : Nat) : Below w.heap.size w (W.drewN n) := ⟨h.os, h.tape, h.output, h.size, h.block⟩
theorem rx_name {x y : Fx} {w : World} {f : FuncId} {args : Array Value} (h : Calls Tryz.prog f args w (RxPost x w)) (hx : y = x) : Calls Tryz.prog f args w (RxPost y w) := by
 subst hx; exact h
theorem rtoken_any (s : ByteArray) (a : Nat) (hs : s.size ≤ 1048576) (ha : a < s.size) (w : World) : Calls Tryz.prog 21 #[.string s, ι a] w (RxPost (tokP s.data.toList a) w) := by
 have hsm : s.size ≤ maxLen := by unfold maxLen; omega
 have HL := hI (show s.data.toList.length = s.size by simp);obtain ⟨W1, hW1⟩ : ∃ X, X = w.alloc (.cells #[ι 0, ι 0, eS, ι 0] 41) := ⟨_, rfl⟩
 have HW1 := hI hW1;have HBX : Hid (Box W1 w.heap.size 41 #[ι 0, ι 0, eS, ι 0]) := hI (by rw [hW1]; exact Box.laid w _ _);have HBL : Hid (Below w.heap.size w W1) := hI (by rw [hW1]; exact (Below.refl _ _).alloc (Nat.le_refl _) _);clear hW1;obtain ⟨b, hb⟩ : ∃ b, s[a] = b := ⟨_, rfl⟩
 have HAT := hI (at_list ha hb);have HA := hI (fun W => rname_any b W);have hwe := fun W => rwordE_any s (a + 1) hsm (by omega) W
 rw [show ((a + 1 : Nat) : Int) = (a : Int) + 1 by omega] at hwe;have HDG := hI (fun W => rdig_any b W);obtain ⟨x, hx⟩ : ∃ x, tokP s.data.toList a = x := ⟨_, rfl⟩
 rw [hx];unfold tokP at hx;rw [bytq HAT.out, atF_at (p := digB) HAT.out, atF_at (p := nameB) HAT.out] at hx;obtain ⟨P, hP⟩ : ∃ P, (if x.e = 0 then x.p else 0) = P := ⟨_, rfl⟩
 obtain ⟨Q, hQ⟩ : ∃ Q, (if x.e = 0 then 0 else x.p) = Q := ⟨_, rfl⟩
 clear hsm
 cases c0 : nameB b with
 | true =>
  rw [c0] at HA;rw [c0, if_pos rfl] at hx;have hnm := fun W => rx_open hP hQ (rx_name (rnamed_any s 1 a a hs (by omega) (by rw [atF_at HAT.out]; exact c0) W) (by rw [kind_word]; exact hx.symm))
  rw [show ((1 : Nat) : Int) = 1 from rfl] at hnm;have HNM := hI hnm;clear c0 hx hnm hwe
  go_enter Tryz.func21, Tryz.ntmps21
  go_upto_region 1 with fail;rw [← HW1.out]
  go_wp2_with (first
   | (go_at_call 33; (with_reducible refine (HA.out _).mono ?_); rintro e w' ⟨rfl, rfl⟩)
   | (go_at_call 34; (with_reducible refine (HNM.out _).mono ?_); rintro e w' ⟨rfl, hb'⟩; have bx := HBX.out.below hb' HBX.out.lt; obtain ⟨t0, t1, t2, t3⟩ := box4 bx; obtain ⟨f0, f1, f2, f3⟩ := free4 bx))
  exact rx_ret Tryz.results21 rfl rfl rfl rfl rfl hP hQ rfl (put4 bx _ _ _ _) (below_four (Nat.le_refl _) (HBL.out.trans (hb'.mono HBL.out.size)) _ _ _ _)
 | false =>
  rw [c0] at HA;rw [c0, if_neg Bool.false_ne_true] at hx;clear c0;obtain ⟨x1, hx1⟩ : ∃ x1, atF nameB s.data.toList (a + 1) = x1 := ⟨_, rfl⟩
  rw [hx1] at hx;obtain ⟨E1, hE1⟩ : ∃ E1, wordE s.data.toList (a + 1) = E1 := ⟨_, rfl⟩
  rw [hE1] at hwe;have HWE := hI hwe;have HX1 := hI hx1;have hgt : decide ((a : Int) + 1 < (E1 : Int)) = x1 := by
   cases x1 with
   | true =>
    have h := wordE_in hx1;rw [hE1] at h;rw [decide_eq_true_eq];omega
   | false =>
    have h := wordE_out hx1;rw [hE1] at h;rw [decide_eq_false_iff_not];omega
  have ha1 : x1 = true → a + 1 ≤ s.size := fun h => by
   rw [h] at hx1;have := (name_step hx1).1;rw [HL.out] at this;omega
  clear hx1 hE1 hwe
  by_cases c36 : b.toNat = 36 ∧ x1 = true
  · rw [if_pos c36] at hx;obtain ⟨h36, rfl⟩ := c36;have hnm := fun W => rx_open hP hQ (rx_name (rnamed_any s 3 a (a + 1) hs (ha1 rfl) HX1.out W) (by rw [kind_same (by decide)]; exact hx.symm))
    rw [show ((3 : Nat) : Int) = 3 from rfl, show ((a + 1 : Nat) : Int) = (a : Int) + 1 by omega] at hnm;have HNM := hI hnm;have q1 : ((b.toNat : Int) == 36) = true := by rw [beq_iff_eq]; omega
    have q0 : (a : Int) + 1 < (E1 : Int) := by simpa using hgt
    clear hx h36 ha1 hnm hgt
    go_enter Tryz.func21, Tryz.ntmps21
    go_upto_region 1 with fail;rw [← HW1.out]
    go_wp2_with (first
     | (go_at_call 33; (with_reducible refine (HA.out _).mono ?_); rintro e w' ⟨rfl, rfl⟩)
     | (go_at_call 35; (with_reducible refine (HWE.out _).mono ?_); rintro e w' ⟨rfl, rfl⟩)
     | (go_at_call 34; (with_reducible refine (HNM.out _).mono ?_); rintro e w' ⟨rfl, hb'⟩; have bx := HBX.out.below hb' HBX.out.lt; obtain ⟨t0, t1, t2, t3⟩ := box4 bx; obtain ⟨f0, f1, f2, f3⟩ := free4 bx))
    exact rx_ret Tryz.results21 rfl rfl rfl rfl rfl hP hQ rfl (put4 bx _ _ _ _) (below_four (Nat.le_refl _) (HBL.out.trans (hb'.mono HBL.out.size)) _ _ _ _)
  · rw [if_neg c36] at hx
    by_cases c46 : b.toNat = 46 ∧ x1 = true
    · rw [if_pos c46] at hx;obtain ⟨h46, rfl⟩ := c46;have hnm := fun W => rx_open hP hQ (rx_name (rnamed_any s 4 a (a + 1) hs (ha1 rfl) HX1.out W) (by rw [kind_same (by decide)]; exact hx.symm))
      rw [show ((4 : Nat) : Int) = 4 from rfl, show ((a + 1 : Nat) : Int) = (a : Int) + 1 by omega] at hnm;have HNM := hI hnm;have q1 : ((b.toNat : Int) == 36) = false := bF.2 (fun h => by omega);have q2 : ((b.toNat : Int) == 46) = true := by rw [beq_iff_eq]; omega
      have q0 : (a : Int) + 1 < (E1 : Int) := by simpa using hgt
      clear hx h46 ha1 hnm hgt c36
      go_enter Tryz.func21, Tryz.ntmps21
      go_upto_region 1 with fail;rw [← HW1.out]
      go_wp2_with (first
       | (go_at_call 33; (with_reducible refine (HA.out _).mono ?_); rintro e w' ⟨rfl, rfl⟩)
       | (go_at_call 35; (with_reducible refine (HWE.out _).mono ?_); rintro e w' ⟨rfl, rfl⟩)
       | (go_at_call 34; (with_reducible refine (HNM.out _).mono ?_); rintro e w' ⟨rfl, hb'⟩; have bx := HBX.out.below hb' HBX.out.lt; obtain ⟨t0, t1, t2, t3⟩ := box4 bx; obtain ⟨f0, f1, f2, f3⟩ := free4 bx))
      exact rx_ret Tryz.results21 rfl rfl rfl rfl rfl hP hQ rfl (put4 bx _ _ _ _) (below_four (Nat.le_refl _) (HBL.out.trans (hb'.mono HBL.out.size)) _ _ _ _)
    · rw [if_neg c46] at hx;obtain ⟨q, hq⟩ : ∃ q : Bool, ((b.toNat : Int) == 36) = q := ⟨_, rfl⟩
      obtain ⟨r, hr⟩ : ∃ r : Bool, ((b.toNat : Int) == 46) = r := ⟨_, rfl⟩
      have hqr : x1 = false ∨ (x1 = true ∧ q = false ∧ r = false) := by
       cases x1 with
       | false => exact .inl rfl
       | true =>
        refine .inr ⟨rfl, ?_, ?_⟩
        · rw [← hq]; exact bF.2 (fun h => c36 ⟨by omega, rfl⟩)
        · rw [← hr]; exact bF.2 (fun h => c46 ⟨by omega, rfl⟩)
      clear c36 c46 HX1 ha1;have hq3 : (q = false ∧ r = false) ∨ (x1 = false) := by
       rcases hqr with h | ⟨h1, h2, h3⟩
       · exact .inr h
       · exact .inl ⟨h2, h3⟩
      clear hqr
      cases cd : digB b with
      | true =>
       rw [cd] at HDG;rw [cd, if_pos rfl] at hx;have HNU := hI (fun W => rx_open hP hQ (rx_name (rnumber10_any s a hs ha (by rw [atF_at HAT.out]; exact cd) W) hx.symm));have hq0 : q = false := by
        rw [← hq]; exact bF.2 (fun h => by unfold digB at cd; simp at cd; omega)
       have hr0 : r = false := by
        rw [← hr]; exact bF.2 (fun h => by unfold digB at cd; simp at cd; omega)
       subst hq0 hr0;clear hx cd hq3 hgt
       go_enter Tryz.func21, Tryz.ntmps21
       go_upto_region 1 with fail;rw [← HW1.out]
       go_wp2_with (first
        | (go_at_call 33; (with_reducible refine (HA.out _).mono ?_); rintro e w' ⟨rfl, rfl⟩)
        | (go_at_call 36; (with_reducible refine (HDG.out _).mono ?_); rintro e w' ⟨rfl, rfl⟩)
        | (go_at_call 37; (with_reducible refine (HNU.out _).mono ?_); rintro e w' ⟨rfl, hb'⟩; have bx := HBX.out.below hb' HBX.out.lt; obtain ⟨t0, t1, t2, t3⟩ := box4 bx; obtain ⟨f0, f1, f2, f3⟩ := free4 bx))
       exact rx_ret Tryz.results21 rfl rfl rfl rfl rfl hP hQ rfl (put4 bx _ _ _ _) (below_four (Nat.le_refl _) (HBL.out.trans (hb'.mono HBL.out.size)) _ _ _ _)
      | false =>
       rw [cd] at HDG;rw [cd, if_neg Bool.false_ne_true] at hx;clear cd
       by_cases c34 : b.toNat = 34
       · rw [if_pos c34] at hx;have q34 : ((b.toNat : Int) == 34) = true := by rw [beq_iff_eq]; omega
         have hq0 : q = false := by rw [← hq]; exact bF.2 (fun h => by omega)
         have hr0 : r = false := by rw [← hr]; exact bF.2 (fun h => by omega)
         subst hq0 hr0;have HN := hI (fun W => lex_open (rnext_any s a hs W));unfold strFP at hx;generalize lexP s.data.toList (a : Int) = y at HN hx;obtain ⟨K, F, T, B, I, S, PP, EE⟩ := y;simp only at HN hx;clear c34 hq3 hgt
         go_enter Tryz.func21, Tryz.ntmps21
         go_upto_region 1 with fail;rw [← HW1.out];go_upto_region 12 with (first
          | (go_at_call 33; (with_reducible refine (HA.out _).mono ?_); rintro e w' ⟨rfl, rfl⟩)
          | (go_at_call 36; (with_reducible refine (HDG.out _).mono ?_); rintro e w' ⟨rfl, rfl⟩)
          | (go_at_call 38; (with_reducible refine (HN.out _).mono ?_); rintro e w1 ⟨rfl, hb1⟩))
         obtain ⟨W2, hW2⟩ : ∃ X, X = w1.alloc (.cells #[ι K, ι F, ι T, .int .u8 B, ι I, .string S] 67) := ⟨_, rfl⟩
         rw [← hW2];have HBY := hI (show Box W2 w1.heap.size 67 #[ι K, ι F, ι T, .int .u8 B, ι I, .string S] by rw [hW2]; exact Box.laid w1 _ _);have HBX2 := hI (show Box W2 w.heap.size 41 #[ι 0, ι 0, eS, ι 0] by rw [hW2]; exact (HBX.out.below hb1 HBX.out.lt).alloc _);have HBW := hI (show Below w.heap.size w W2 by rw [hW2]; exact chain HBL.out (hb1.alloc hb1.size _));obtain ⟨y0, y1, y2, y3, y4, y5⟩ := box6 HBY.out;obtain ⟨t0, t1, t2, t3⟩ := box4 HBX2.out;obtain ⟨f0, f1, f2, f3⟩ := free4 HBX2.out;clear hW2 hb1;generalize w1.heap.size = g at *
         by_cases hE0 : EE = 0
         · subst hE0;rw [if_pos rfl] at hx;subst hx;go_wp2_with fail;exact rx_ret Tryz.results21 rfl rfl rfl rfl rfl rfl rfl rfl (put4 HBX2.out _ _ _ _) (below_four (Nat.le_refl _) HBW.out _ _ _ _)
         · rw [if_neg hE0] at hx;have qe : ((EE : Int) != 0) = true := by rw [bne_iff_ne]; omega
           subst hx;go_wp2_with fail;exact rx_ret Tryz.results21 rfl rfl rfl rfl rfl (if_neg hE0) (if_neg hE0) rfl (put4 HBX2.out _ _ _ _) (below_four (Nat.le_refl _) HBW.out _ _ _ _)
       · rw [if_neg c34] at hx;have q34 : ((b.toNat : Int) == 34) = false := bF.2 (fun h => c34 (by omega));have HX := hI hx;have HSG := hI (fun W => rsigns_any W);obtain ⟨sg, hsg⟩ : ∃ sg, sgV = sg := ⟨_, rfl⟩
         rw [hsg] at HSG;have HSA : Hid (∀ j t, signsL[j]? = some t → sg[j]? = some (Value.string (bsF t))) := hI (fun j t h => by rw [← hsg]; exact sgV_at h);obtain ⟨W2, hW2⟩ : ∃ X, X = W1.alloc (.cells sg 9) := ⟨_, rfl⟩
         have HW2 := hI hW2;have HB2 := hI (show Below w.heap.size w W2 by rw [hW2]; exact HBL.out.alloc HBL.out.size _);have HS2 := hI (show Box W2 W1.heap.size 9 sg by rw [hW2]; exact Box.laid W1 _ _);have HX2 := hI (show Box W2 w.heap.size 41 #[ι 0, ι 0, eS, ι 0] by rw [hW2]; exact HBX.out.alloc _);have HN0 := hI (NoSign.start s.data.toList a);clear hx c34 hsg hW2;have hq4 : (q = false ∧ r = false) ∨ (q = true ∧ r = false ∧ x1 = false) ∨ (q = false ∧ r = true ∧ x1 = false) := by
          rcases hq3 with h | h
          · exact .inl h
          · cases hqq : q with
            | false => cases hrr : r with
             | false => exact .inl ⟨rfl, rfl⟩
             | true => exact .inr (.inr ⟨rfl, rfl, h⟩)
            | true =>
             refine .inr (.inl ⟨rfl, ?_, h⟩);rw [hqq, beq_iff_eq] at hq;rw [← hr];exact bF.2 (fun g => by omega)
         clear hq3;have qx : x1 = false → decide ((a : Int) + 1 < (E1 : Int)) = false := fun h => by rw [h] at hgt; exact hgt
         clear hgt;rcases hq4 with ⟨rfl, rfl⟩ | ⟨rfl, rfl, rfl⟩ | ⟨rfl, rfl, rfl⟩
         all_goals
          try have qx2 := qx rfl
          try have HDGq : Hid (∀ W, Calls Tryz.prog 36 #[.int .u8 36] W fun e w' => e = .returned (.bool false) ∧ W = w') := hI (fun W => by have h := HDG.out W; rw [show ((b.toNat : Nat) : Int) = 36 from beq_iff_eq.1 hq] at h; exact h)
          try have HDGq : Hid (∀ W, Calls Tryz.prog 36 #[.int .u8 46] W fun e w' => e = .returned (.bool false) ∧ W = w') := hI (fun W => by have h := HDG.out W; rw [show ((b.toNat : Nat) : Int) = 46 from beq_iff_eq.1 hr] at h; exact h)
          clear qx
          go_enter Tryz.func21, Tryz.ntmps21
          go_upto_region 1 with fail;rw [← HW1.out];go_upto_region 16 with (first
           | (go_at_call 33; (with_reducible refine (HA.out _).mono ?_); rintro e w' ⟨rfl, rfl⟩)
           | (go_at_call 35; (with_reducible refine (HWE.out _).mono ?_); rintro e w' ⟨rfl, rfl⟩)
           | (go_at_call 36; (with_reducible refine (HDG.out _).mono ?_); rintro e w' ⟨rfl, rfl⟩)
           | (go_at_call 36; (with_reducible refine (HDGq.out _).mono ?_); rintro e w' ⟨rfl, rfl⟩)
           | (go_at_call 39; (with_reducible refine (HSG.out _).mono ?_); rintro e w' ⟨rfl, rfl⟩))
          rw [← HW2.out];have hgw : w.heap.size < W1.heap.size := HBX.out.lt;generalize W1.heap.size = gs at *
          have HNE := hI hgw;clear hgw;go_wp2_with fail
          go_loopw [13] (fun ti wr => ∃ j n : Nat, j ≤ 32 ∧ ti = ι j ∧ Hid (NoSign s.data.toList a j) ∧ Hid (wr = W2.drewN n)) (fun ti _ => 32 - (intOf ti).toNat)
          case atStart => exact ⟨0, 0, by omega, rfl, HN0, hI rfl⟩
          case round =>
           obtain ⟨j, n, hj, rfl, HNS, HWR⟩ := hrel;have HBV := hI (show Below w.heap.size w wr by rw [HWR.out]; exact below_drewN10 HB2.out n);have HXV := hI (show Box wr w.heap.size 41 #[ι 0, ι 0, eS, ι 0] by rw [HWR.out]; exact HX2.out.drewN n)
           by_cases hlt : j < 32
           · obtain ⟨t, ht⟩ : ∃ t, signsL[j]? = some t := ⟨_, List.getElem?_eq_getElem (show j < signsL.length from hlt)⟩
             have HT := hI ht;have hc : wr.cell? ⟨gs, j, none⟩ = some (.string (bsF t)) := by rw [HWR.out]; exact (HS2.out.drewN n).cell (HSA.out j t ht)
             have htl := sign_len ht;have hbl : (bsF t).size = t.length := bsF_size t;have hit := sign_hit s a t;have hno := sign_long s a t (by omega);obtain ⟨ti, hti⟩ : ∃ ti, bsF t = ti := ⟨_, rfl⟩
             rw [hti] at hc hbl hit;clear ht
             by_cases hfit : ti.size ≤ s.size - a
             · have q5 : decide ((ti.size : Int) ≤ (s.size : Int) - (a : Int)) = true := by rw [decide_eq_true_eq]; omega
               have q6 : (ti.size : Int) ≤ (s.size : Int) - (a : Int) := by omega
               have hit2 := hit (by omega);have hb7 : a + ti.size ≤ s.size := by omega
               have HBS := hI hbl;obtain ⟨z, hz⟩ : ∃ z, t.isPrefixOf (s.data.toList.drop a) = z := ⟨_, rfl⟩
               rw [hz] at hit2
               cases z with
               | true =>
                have HH := hI (HNS.out.hit HT.out hz);clear hit hno hz hbl htl;go_wp2_with fail
                go_quiet (fail)
                obtain ⟨W4, hW4⟩ : ∃ X, X = wr.drewN nq := ⟨_, rfl⟩
                rw [← hW4];have hc4 : W4.cell? ⟨gs, j, none⟩ = some (.string ti) := by rw [hW4]; exact hc
                have HX4 := hI (show Box W4 w.heap.size 41 #[ι 0, ι 0, eS, ι 0] by rw [hW4]; exact HXV.out.drewN _);have HB4 := hI (show Below w.heap.size w W4 by rw [hW4]; exact below_drewN10 HBV.out _);clear hW4 hc;obtain ⟨t0, t1, t2, t3⟩ := box4 HX4.out;obtain ⟨f0, f1, f2, f3⟩ := free4 HX4.out;have hne1 : ¬ gs = w.heap.size := by have := HNE.out; omega
                have hne2 : ¬ w.heap.size = gs := by have := HNE.out; omega
                go_wp2_with fail
                go_region
                go_wp2_with fail;have hxe : okF 7 a ti 0 (a + ti.size) = x := by rw [← HX.out, HH.out, hti, HBS.out]
                subst hxe;exact rx_ret Tryz.results21 rfl rfl rfl rfl rfl rfl rfl rfl (put4 HX4.out _ _ _ _) (below_four (Nat.le_refl _) HB4.out _ _ _ _).drew
               | false =>
                have HN2 := hI (HNS.out.next HT.out hz);clear hit hno hz hbl htl;go_wp2_with fail
                go_quiet (fail)
                go_wp2_with fail
                go_roundw
                case rel => exact ⟨j + 1, n + nq, by omega, by go_num, HN2, hI (by rw [HWR.out, drewN_two10])⟩
                case measure => simp [intOf]; omega
             · have q5 : decide ((ti.size : Int) ≤ (s.size : Int) - (a : Int)) = false := by rw [decide_eq_false_iff_not]; omega
               have HN2 := hI (HNS.out.next HT.out (hno (by omega)));clear hit hno hbl htl;go_wp2_with fail
               go_quiet (fail)
               go_wp2_with fail
               go_roundw
               case rel => exact ⟨j + 1, n + nq, by omega, by go_num, HN2, hI (by rw [HWR.out, drewN_two10])⟩
               case measure => simp [intOf]; omega
           · have hj32 : j = 32 := by omega
             subst hj32;have HH := hI HNS.out.end_;obtain ⟨t0, t1, t2, t3⟩ := box4 HXV.out;obtain ⟨f0, f1, f2, f3⟩ := free4 HXV.out;go_wp2_with fail;have hxe := HX.out.symm.trans HH.out;subst hxe;exact rx_ret Tryz.results21 rfl rfl rfl rfl rfl rfl rfl rfl (put4 HXV.out _ _ _ _) (below_four (Nat.le_refl _) HBV.out _ _ _ _)
end Go.Proofs.YtoleoimmpggldaaGreatDoor
namespace Go.Proofs.YtoleoimmpggldaaGreatDoor
open Go.RowKit
theorem rflex_any (s : ByteArray) (hs0 : s.size ≤ 281474976710656) (w : World) : Calls Tryz.prog 9 #[.string s] w (FlexPost (lexFP s.data.toList) w) := by
 have HL := hI (show s.data.toList.length = s.size by simp)
 by_cases h8 : 8192 < s.size
 · have HR : Hid (lexFP s.data.toList = ⟨none, 0, 2⟩) := hI (by unfold lexFP; rw [HL.out, if_pos h8]);rw [HR.out];have q8 : (8192 : Int) < (s.size : Int) := by omega
   go_enter Tryz.func9, Tryz.ntmps9
   go_wp2_with fail;refine bodyPost_ret (v := .tuple #[nL, ι 0, ι 2]) (by simp [results, Tryz.results9, go_sem]) rfl ?_;exact flex_none rfl (Below.refl _ _)
 · have hs : s.size ≤ 1048576 := by omega
   have hsm : s.size ≤ maxLen := by unfold maxLen; omega
   obtain ⟨i0, hi, hz0, hz1, hz2⟩ := info_parts inf_ft;have HSK := hI (fun (k : Nat) (h : k ≤ s.size) W => rgap_any s k hsm h W);have HNX := hI (fun (k : Nat) (h : k < s.size) (W : World) => rtoken_any s k hs h W);have HST := hI (FAt.start (l := s.data.toList) (by rw [HL.out]; exact h8));have hg0 : gapP s.data.toList 0 ≤ s.size := by rw [← HL.out]; exact gap_le _ _
   have HS0 := hI (HSK.out 0 (Nat.zero_le _));generalize gapP s.data.toList 0 = g0 at HST hg0 HS0;obtain ⟨R, hR⟩ : ∃ R, lexFP s.data.toList = R := ⟨_, rfl⟩
   have HR := hI hR;rw [hR];clear hs0 hsm hR
   go_enter Tryz.func9, Tryz.ntmps9
   go_wp2_with (go_at_call 20; refine (HS0.out _).mono ?_; rintro e w' ⟨rfl, rfl⟩)
   go_loopw [5, 6] (fun tv ti wr => ∃ (A : Option Addr) (c a : Nat) (ts : List Fk), a ≤ s.size ∧ ts.length ≤ 2048 ∧ tv = .slice A ts.length c ∧ ti = ι a ∧ Hid (wr.ownsRow w.heap.size 41 4 (.slice A ts.length c) ts.length (rowT ts)) ∧ Hid (Below w.heap.size w wr) ∧ Hid (FAt s.data.toList a ts)) (fun _ ti _ => s.size - (intOf ti).toNat)
   case atStart => exact ⟨none, 0, g0, [], hg0, Nat.zero_le _, rfl, rfl, hI (World.ownsRow_nil _ _ _ _), hI (Below.refl _ _), HST⟩
   case round =>
    clear HST HS0;obtain ⟨A, c, a, ts, ha, htl, rfl, rfl, HO, HBE, HF⟩ := hrel
    by_cases hlt : a < s.size
    · by_cases hfull : ts.length = 2048
      · have HX := hI (HF.out.full (by rw [HL.out]; exact hlt) hfull);have qf : (2048 : Int) ≤ (ts.length : Int) := by omega
        clear hfull;go_wp2_with fail;refine bodyPost_ret (v := .tuple #[nL, ι a, ι 2]) (by simp [results, Tryz.results9, go_sem]) rfl ?_;exact flex_none (HR.out.symm.trans HX.out) HBE.out
      · have qf : ¬ (2048 : Int) ≤ (ts.length : Int) := by omega
        have hnx := HNX.out a hlt wr;have hbad := HF.out.bad (by rw [HL.out]; exact hlt) hfull;have hgood := HF.out.next (by rw [HL.out]; exact hlt) hfull
        have htok := tok_ok (l := s.data.toList) (a := a) (by rw [HL.out]; exact hlt);generalize tokP s.data.toList a = x at hnx hbad hgood htok;clear hfull
        by_cases hE0 : x.e = 0
        · have hnx2 := rx_ok (w' := wr) hE0 hnx;clear hnx;obtain ⟨⟨K, O, S, I⟩, P, E⟩ := x;simp only at hnx2 hbad hgood htok hE0;subst hE0;have HN := hI hnx2;clear hnx2;obtain ⟨g1, g2⟩ := hgood rfl;obtain ⟨g3, g4⟩ := htok rfl;rw [HL.out] at g4;have HFN := hI g1;have hgl : gapP s.data.toList P ≤ s.size := by rw [← HL.out]; exact gap_le _ _
          have HSP := hI (HSK.out P g4);generalize gapP s.data.toList P = a2 at HFN hgl HSP g2;have htl2 : ts.length + 1 ≤ 2048 := by
           have h := HFN.out.2.1
           simpa using h
          clear hbad hgood htok g1;go_upto_region 10 with (go_at_call 21; refine HN.out.mono ?_; rintro e w1 ⟨rfl, hb1⟩)
          obtain ⟨W2, hW2⟩ : ∃ X, X = w1.alloc (.cells #[ι K, ι O, .string S, ι I] 41) := ⟨_, rfl⟩
          rw [← hW2];have HBX := hI (show Box W2 w1.heap.size 41 #[ι K, ι O, .string S, ι I] by rw [hW2]; exact Box.laid w1 _ _);have HBW := hI (show Below wr.heap.size wr W2 by rw [hW2]; exact hb1.alloc hb1.size _);have HO2 := hI (own_keepB HO.out HBW.out);obtain ⟨t0, t1, t2, t3⟩ := box4 HBX.out;clear hW2 hb1;generalize w1.heap.size = gx at *
          have hszW : w.heap.size ≤ W2.heap.size := Nat.le_trans HBE.out.size HBW.out.size
          go_wp2_with (first
           | (at_builtin; refine wpList_append_own _ rfl _ _ 35 rfl w.heap.size 41 i0 (.agg #[ι 0, ι 0, eS, ι 0]) 4 40 Tryz.underlying35 hi hz0 hz1 hz2 rfl (by decide) (.slice A ts.length c) ts.length (rowT ts) rfl (HO2.out.alloc _) ⟨W2.heap.size, 0, none⟩ 1 1 [ι K, ι O, .string S, ι I] rfl rfl (four_new _ _ _ _ _ _ _ rfl) (cs_one ⟨K, O, S, I⟩) (by unfold maxLen; omega) (by omega) (by simp; omega) ?_; intro v3 w3 hown3 hgrow3 _)
           | (go_at_call 20; refine (HSP.out _).mono ?_; rintro e w' ⟨rfl, rfl⟩))
          obtain ⟨A3, c3, rfl⟩ := own_form hown3;have e1 : (ts ++ [(⟨K, O, S, I⟩ : Fk)]).length = ts.length + 1 := by simp
          have hbn : Below w.heap.size w w3 := ((chain HBE.out HBW.out).alloc hszW _).grown hgrow3 (by simp; omega) (fun j hj => (HO.out.lt j hj).1)
          go_roundw
          case rel => exact ⟨A3, c3, a2, ts ++ [⟨K, O, S, I⟩], hgl, by rw [e1]; exact htl2, by rw [e1], rfl, hI (by rw [e1, rowT_append, rowT_one]; exact hown3), hI hbn, HFN⟩
          case measure => simp [intOf]; omega
        · have hnx2 := rx_no (w' := wr) hE0 hnx;clear hnx;obtain ⟨⟨K, O, S, I⟩, P, E⟩ := x;simp only at hnx2 hbad hgood htok hE0;have HN := hI hnx2;clear hnx2;have HX := hI (hbad hE0);have qe : ((E : Int) != 0) = true := by rw [bne_iff_ne]; omega
          clear hbad hgood htok hE0;go_upto_region 10 with (go_at_call 21; refine HN.out.mono ?_; rintro e w1 ⟨rfl, hb1⟩)
          have HBW := hI (chain HBE.out (hb1.alloc hb1.size (.cells #[ι K, ι O, .string S, ι I] 41)));clear hb1;go_wp2_with fail;refine bodyPost_ret (v := .tuple #[nL, ι P, ι E]) (by simp [results, Tryz.results9, go_sem]) rfl ?_;exact flex_none (HR.out.symm.trans HX.out) HBW.out
    · have HX := hI (HF.out.done (by rw [HL.out]; exact hlt));rw [HL.out] at HX;have hszW : w.heap.size ≤ wr.heap.size := HBE.out.size
      go_wp2_with (at_builtin; refine wpList_append_own _ rfl _ _ 35 rfl w.heap.size 41 i0 (.agg #[ι 0, ι 0, eS, ι 0]) 4 40 Tryz.underlying35 hi hz0 hz1 hz2 rfl (by decide) (.slice A ts.length c) ts.length (rowT ts) rfl (HO.out.alloc _) ⟨wr.heap.size, 0, none⟩ 1 1 [ι 0, ι (s.size : Int), eS, ι 0] rfl rfl (four_new _ _ _ _ _ _ _ rfl) (cs_one ⟨0, s.size, ⟨#[]⟩, 0⟩) (by unfold maxLen; omega) (by omega) (by simp; omega) ?_; intro v3 w3 hown3 hgrow3 _)
      obtain ⟨A3, c3, rfl⟩ := own_form hown3;have hbn : Below w.heap.size w w3 := (HBE.out.alloc hszW _).grown hgrow3 (by simp; omega) (fun j hj => (HO.out.lt j hj).1);have e1 : (ts ++ [(⟨0, s.size, ⟨#[]⟩, 0⟩ : Fk)]).length = ts.length + 1 := by simp
      refine bodyPost_ret (v := .tuple #[.slice A3 (ts.length + 1) c3, ι 0, ι 0]) (by simp [results, Tryz.results9, go_sem]) rfl ?_;rw [← HR.out, HX.out];exact ⟨hbn, A3, ts.length + 1, c3, rfl, e1.symm, by rw [rowT_append, rowT_one]; exact hown3⟩
