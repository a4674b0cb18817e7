/- ArithStrings: its walk. -/
import Derived.Test.YtbojpopgjcmlbaaGreatDoorSD
set_option linter.unusedVariables false
set_option linter.unusedSimpArgs false
namespace Go.Proofs.YtbojpopgjcmlbaaGreatDoor
open Go.RowKit Go.Sort
set_option maxHeartbeats 20000000 in
set_option maxRecDepth 100000 in
theorem arithStrings_walk (s sep : ByteArray) (n : Int) (w : World) (hs : s.size ≤ 1048576) (hsep : sep.size ≤ 1048576) (hml : MaxL w) (hT : Tabs w) :
    Calls Tryz.prog 6 #[.string s, .string sep, .int .i64 n] w fun e w' => e = .returned (.bool true) ∧ Below w.heap.size w w' := by
  have haw := Lib.hid (fun W (hW : Below w.heap.size w W) => awake6_any W (hml.next hW))
  have hnm := Lib.hid (fun (n : Int) W => num_any n W)
  have HSP := Lib.hid (split_any s sep w hml hT hs hsep)
  have HJ := Lib.hid (splitL_join s sep)
  have HOK0 := Lib.hid (show splitB? s sep = true → okS s = true from fun h => by unfold splitB? at h; simp at h; exact h.1)
  obtain ⟨d, hd60, hmod⟩ := kmod_nat n 60 (by decide) (by decide)
  have HMOD := Lib.hid hmod
  clear hmod
  generalize splitB? s sep = ok at HSP HJ HOK0
  generalize splitL s sep = l at HSP HJ
  clear hml hT
  go_enter Tryz.func6, Tryz.ntmps6
  go_wp2_with fail
  refine HSP.out.mono ?_
  rintro e1 w1 ⟨hb1, A, c, rfl, hr, hnil, hlc, hcm⟩
  have HB1 := Lib.hid hb1
  have HR := Lib.hid hr
  clear hb1 hr HSP
  by_cases c1 : 100 < s.size
  · have d1 : decide ((s.size : Int) > 100) = true := decide_eq_true (by omega)
    have d2 : (100 : Int) < (s.size : Int) := by omega
    go_wp2_with fail
    refine (haw.out _ HB1.out).mono ?_
    rintro e9 w9 ⟨rfl, hb9⟩
    go_wp2_with fail
    go_ret
    exact ⟨rfl, chain HB1.out hb9⟩
  have d1 : decide ((s.size : Int) > 100) = false := decide_eq_false (by omega)
  have d2 : ¬ ((100 : Int) < (s.size : Int)) := by omega
  by_cases c2 : 10 < sep.size
  · have d3 : decide ((sep.size : Int) > 10) = true := decide_eq_true (by omega)
    have d4 : (10 : Int) < (sep.size : Int) := by omega
    go_wp2_with fail
    refine (haw.out _ HB1.out).mono ?_
    rintro e9 w9 ⟨rfl, hb9⟩
    go_wp2_with fail
    go_ret
    exact ⟨rfl, chain HB1.out hb9⟩
  have d3 : decide ((sep.size : Int) > 10) = false := decide_eq_false (by omega)
  have d4 : ¬ ((10 : Int) < (sep.size : Int)) := by omega
  cases ok with
  | false =>
    go_wp2_with fail
    refine (haw.out _ HB1.out).mono ?_
    rintro e9 w9 ⟨rfl, hb9⟩
    go_wp2_with fail
    go_ret
    exact ⟨rfl, chain HB1.out hb9⟩
  | true =>
    have HOK := Lib.hid (HOK0.out rfl)
    have HJN := Lib.hid (HJ.out rfl)
    have hcm' : c ≤ 9223372036854775807 := by unfold maxLen at hcm; omega
    clear HOK0 HJ
    go_upto_region 6 with fail
    go_loopw [9, 10] (fun t i wr => ∃ (k : Nat) (T : ByteArray), k ≤ l.length ∧ i = .int .i64 k ∧ t = .string T ∧ Aside (T = jn sep (l.take k)) ∧ wr = w1) (fun _ i _ => l.length - (intOf i).toNat)
    case atStart => exact ⟨0, ⟨#[]⟩, Nat.zero_le _, rfl, rfl, rfl, rfl⟩
    case round =>
      obtain ⟨k, T, hk, rfl, rfl, hTj, rfl⟩ := hrel
      have HTJ := Lib.hid hTj.out
      clear hTj
      by_cases hlt : k < l.length
      · obtain ⟨x, hx⟩ : ∃ x, l[k]? = some x := ⟨_, List.getElem?_eq_getElem hlt⟩
        obtain ⟨b, o, hA, hS, hc⟩ := HR.out.at_ (kv_at hx)
        subst hA
        have HST := Lib.hid (jn_take sep l k x hx)
        have z1 : T.size ≤ 100 := by have h1 := jn_take_size sep l k; rw [HJN.out, ← HTJ.out] at h1; omega
        have z2 : x.size ≤ 100 := by have h1 := piece_size sep l k x hx; rw [HJN.out] at h1; omega
        have hlt1 : (k : Int) < (l.length : Int) := by omega
        have hlt2 : (0 : Int) ≤ (k : Int) := by omega
        clear hx
        by_cases h0 : k = 0
        · have g1 : ¬ ((0 : Int) < (k : Int)) := by omega
          have y1 : ¬ (T.size + x.size > 9223372036854775807) := by omega
          have HZ := Lib.hid h0
          clear h0
          go_wp2_with fail
          go_roundw
          case rel => exact ⟨k + 1, T ++ x, by omega, by simp, rfl, show _ = _ by (have h0 := HZ.out; have h3 := HST.out; rw [if_pos h0] at h3; rw [h3]; have h4 := HTJ.out; rw [h0] at h4; rw [h4]; exact bytes_ext (by rw [app_data]; rfl)), by first | trivial | rfl⟩
          case measure => simp [intOf]; omega
        · have g1 : (0 : Int) < (k : Int) := by omega
          have y1 : ¬ (T.size + sep.size > 9223372036854775807) := by omega
          have y2 : ¬ (T.size + sep.size + x.size > 9223372036854775807) := by omega
          have y3 : ¬ ((T ++ sep).size + x.size > 9223372036854775807) := by simp; omega
          have HZ := Lib.hid h0
          clear h0
          go_wp2_with fail
          go_roundw
          case rel => exact ⟨k + 1, T ++ sep ++ x, by omega, by simp, rfl, show _ = _ by (have h3 := HST.out; rw [if_neg HZ.out] at h3; rw [h3, HTJ.out]), by first | trivial | rfl⟩
          case measure => simp [intOf]; omega
      · have hkl : k = l.length := by omega
        have hTs : s = T := by rw [HTJ.out, hkl, List.take_length, HJN.out]
        have hlt1 : ¬ ((k : Int) < (l.length : Int)) := by omega
        subst hTs
        have f1 : (s.toList != s.toList) = false := by simp
        clear hkl HJN HTJ HR
        go_wp2_with fail
        refine (HMOD.out _).mono ?_
        rintro e2 w2 ⟨rfl, rfl⟩
        obtain ⟨v, hv⟩ : ∃ v : Int, (d : Int) - 5 = v := ⟨_, rfl⟩
        have hv0 : -5 ≤ v ∧ v ≤ 54 := by omega
        have hvw : wrap64 ((d : Int) - 5) = v := by rw [hv]; unfold wrap64; omega
        have HSTR := Lib.hid (fun W => str_open (show Calls Tryz.prog 28 #[.string s] W (RetPost (strV s) 0 W) by have := str_any s W (by omega); rw [(str_ok HOK.out (by omega)).1, (str_ok HOK.out (by omega)).2] at this; exact this))
        go_wp2_with fail
        refine (HSTR.out _).mono ?_
        rintro e3 w3 ⟨A4, a4, C4, c4, rfl, hb3, hl3⟩
        clear hv hvw hd60
        obtain ⟨WS, hWS⟩ : ∃ X, X = w3.alloc (.cells #[.int .i64 4, .int .i64 0, .string s, .slice A4 0 a4, .slice C4 0 c4] 26) := ⟨_, rfl⟩
        have HBS : Hid (Below w.heap.size w WS) := Lib.hid (by rw [hWS]; exact chain HB1.out (chain hb3 (below1 _ _)))
        have HPS : Hid (Vx WS w3.heap.size (strV s) [.int .i64 4, .int .i64 0, .string s, .slice A4 0 a4, .slice C4 0 c4]) := Lib.hid (by rw [hWS]; exact Vx.new hl3)
        have HWS := Lib.hid hWS
        clear hWS hb3 hl3 HSTR HB1
        obtain ⟨r, er, hrr⟩ : ∃ r er, repR s v = (r, er) := ⟨_, _, rfl⟩
        have HRR := Lib.hid hrr
        clear hrr
        go_upto_region 15 with fail
        rw [← HWS.out]
        go_cut [13, 14] (fun tr te wx => GotB WS r er tr te wx)
        case first =>
          rename_i Jm Km hRJ hMet
          have keepS : Hid (∀ X, Below WS.heap.size WS X → X.cell? ⟨w3.heap.size, 0, none⟩ = some (.int .i64 4) ∧ X.cell? ⟨w3.heap.size, 1, none⟩ = some (.int .i64 0) ∧ X.cell? ⟨w3.heap.size, 2, none⟩ = some (.string s) ∧ X.cell? ⟨w3.heap.size, 3, none⟩ = some (.slice A4 0 a4) ∧ X.cell? ⟨w3.heap.size, 4, none⟩ = some (.slice C4 0 c4)) := Lib.hid fun X hX => box5 (HPS.out.box.below hX HPS.out.box.lt)
          have HBIN : Hid (∀ z W, Sb WS W z → Calls Tryz.prog 15 #[.string ⟨#[42]⟩, .agg #[.int .i64 4, .int .i64 0, .string s, .slice A4 0 a4, .slice C4 0 c4], .agg #[.int .i64 3, .int .i64 v, .string ⟨#[]⟩, .slice none 0 0, .slice none 0 0]] W (OpS WS z r er)) := Lib.hid fun z W h => opS_of h (by have h0 := bin_sn s v (by omega) HOK.out (by omega) [.int .i64 4, .int .i64 0, .string s, .slice A4 0 a4, .slice C4 0 c4] [.int .i64 3, .int .i64 v, .string ⟨#[]⟩, .slice none 0 0, .slice none 0 0] W (below_lies h.below HPS.out.lies) (lies_numv _ _ _); rw [HRR.out] at h0; exact h0)
          have st0 := Sb.start WS
          obtain ⟨x0, x1, x2, x3, x4⟩ := keepS.out _ (Below.refl _ _)
          go_region_held3 (fun w' => w'.cell? ⟨w3.heap.size, 0, none⟩ = some (.int .i64 4) ∧ w'.cell? ⟨w3.heap.size, 1, none⟩ = some (.int .i64 0) ∧ w'.cell? ⟨w3.heap.size, 2, none⟩ = some (.string s) ∧ w'.cell? ⟨w3.heap.size, 3, none⟩ = some (.slice A4 0 a4) ∧ w'.cell? ⟨w3.heap.size, 4, none⟩ = some (.slice C4 0 c4))
            (first
              | with_reducible exact keepS.out _ (Sb.drew st0).below
              | with_reducible exact keepS.out _ (Sb.drew (Sb.zbox st0)).below
              | with_reducible exact keepS.out _ st5.below
              | with_reducible exact keepS.out _ (Sb.drew st5).below
              | with_reducible exact keepS.out _ (Sb.zbox st5).below
              | with_reducible exact keepS.out _ (Sb.zbox (Sb.drew st5)).below
              | with_reducible exact keepS.out _ st6.below
              | (refine keepS.out _ ?_; with_reducible exact below_five_m hp6 st6.below _ _ _ _ _)
              | with_reducible exact keepS.out _ (chain st6.below (below1 _ _)))
            (first
              | (go_at_call 29; (with_reducible refine (hnm.out _ _).mono ?_); rintro e5 w5 ⟨rfl, hb5⟩; (first | (have st5 : Sb WS w5 none := by with_reducible exact Sb.call hb5 (Sb.drew st0)) | (have st5 : Sb WS w5 (some WS.heap.size) := by with_reducible exact Sb.call hb5 (Sb.drew (Sb.zbox st0)))))
              | (go_at_call 15; (with_reducible refine (HBIN.out _ _ st5).mono ?_); rintro e6 w6 ⟨k6, n6, s6, A6, la6, a6, C6, lc6, c6, rfl, st6, hl6⟩; (first | (obtain ⟨hp6, zz⟩ := st6.box _ rfl; obtain ⟨y0, y1, y2, y3, y4⟩ := box5 zz; have z0 := zz.free 0; have z1 := zz.free 1; have z2 := zz.free 2; have z3 := zz.free 3; have z4 := zz.free 4) | skip))
              | (go_at_call 15; (with_reducible refine (HBIN.out _ _ (Sb.zbox st5)).mono ?_); rintro e6 w6 ⟨k6, n6, s6, A6, la6, a6, C6, lc6, c6, rfl, st6, hl6⟩; (first | (obtain ⟨hp6, zz⟩ := st6.box _ rfl; obtain ⟨y0, y1, y2, y3, y4⟩ := box5 zz; have z0 := zz.free 0; have z1 := zz.free 1; have z2 := zz.free 2; have z3 := zz.free 3; have z4 := zz.free 4) | skip)))
          all_goals
            refine hMet _ _ (Met.intro (hRJ _ _ ?_))
            (repeat apply Exists.intro)
            refine ⟨?_, rfl⟩
            first
              | exact gotB_fill st6 hl6
              | exact gotB_last st6 hl6
        case rest =>
          obtain ⟨hbx, rfl, g, k7, n7, s7, A7, la7, a7, C7, lc7, c7, rfl, hvx⟩ := hcut
          have HBX := Lib.hid (chain HBS.out hbx)
          have HPX := Lib.hid (HPS.out.next hbx)
          have HVX := Lib.hid hvx
          clear hbx hvx HPS HBS
          obtain ⟨WX, hWX⟩ : ∃ X, X = wc := ⟨_, rfl⟩
          subst hWX
          go_upto_region 16 with fail
          skip
          go_cut [15, 16] (fun tr te wx => GotB WX r er tr te wx)
          case first =>
            rename_i Jm Km hRJ hMet
            have keepS : Hid (∀ X, Below WX.heap.size WX X → X.cell? ⟨w3.heap.size, 0, none⟩ = some (.int .i64 4) ∧ X.cell? ⟨w3.heap.size, 1, none⟩ = some (.int .i64 0) ∧ X.cell? ⟨w3.heap.size, 2, none⟩ = some (.string s) ∧ X.cell? ⟨w3.heap.size, 3, none⟩ = some (.slice A4 0 a4) ∧ X.cell? ⟨w3.heap.size, 4, none⟩ = some (.slice C4 0 c4)) := Lib.hid fun X hX => box5 (HPX.out.box.below hX HPX.out.box.lt)
            have HBIN : Hid (∀ z W, Sb WX W z → Calls Tryz.prog 15 #[.string ⟨#[42]⟩, .agg #[.int .i64 3, .int .i64 v, .string ⟨#[]⟩, .slice none 0 0, .slice none 0 0], .agg #[.int .i64 4, .int .i64 0, .string s, .slice A4 0 a4, .slice C4 0 c4]] W (OpS WX z r er)) := Lib.hid fun z W h => opS_of h (by have h0 := bin_ns s v (by omega) HOK.out (by omega) [.int .i64 4, .int .i64 0, .string s, .slice A4 0 a4, .slice C4 0 c4] [.int .i64 3, .int .i64 v, .string ⟨#[]⟩, .slice none 0 0, .slice none 0 0] W (below_lies h.below HPX.out.lies) (lies_numv _ _ _); rw [HRR.out] at h0; exact h0)
            have st0 := Sb.start WX
            obtain ⟨x0, x1, x2, x3, x4⟩ := keepS.out _ (Below.refl _ _)
            go_region_held3 (fun w' => w'.cell? ⟨w3.heap.size, 0, none⟩ = some (.int .i64 4) ∧ w'.cell? ⟨w3.heap.size, 1, none⟩ = some (.int .i64 0) ∧ w'.cell? ⟨w3.heap.size, 2, none⟩ = some (.string s) ∧ w'.cell? ⟨w3.heap.size, 3, none⟩ = some (.slice A4 0 a4) ∧ w'.cell? ⟨w3.heap.size, 4, none⟩ = some (.slice C4 0 c4))
              (first
                | with_reducible exact keepS.out _ (Sb.drew st0).below
                | with_reducible exact keepS.out _ (Sb.drew (Sb.zbox st0)).below
                | with_reducible exact keepS.out _ st5.below
                | with_reducible exact keepS.out _ (Sb.drew st5).below
                | with_reducible exact keepS.out _ (Sb.zbox st5).below
                | with_reducible exact keepS.out _ (Sb.zbox (Sb.drew st5)).below
                | with_reducible exact keepS.out _ st6.below
                | (refine keepS.out _ ?_; with_reducible exact below_five_m hp6 st6.below _ _ _ _ _)
                | with_reducible exact keepS.out _ (chain st6.below (below1 _ _)))
              (first
                | (go_at_call 29; (with_reducible refine (hnm.out _ _).mono ?_); rintro e5 w5 ⟨rfl, hb5⟩; (first | (have st5 : Sb WX w5 none := by with_reducible exact Sb.call hb5 (Sb.drew st0)) | (have st5 : Sb WX w5 (some WX.heap.size) := by with_reducible exact Sb.call hb5 (Sb.drew (Sb.zbox st0)))))
                | (go_at_call 15; (with_reducible refine (HBIN.out _ _ st5).mono ?_); rintro e6 w6 ⟨k6, n6, s6, A6, la6, a6, C6, lc6, c6, rfl, st6, hl6⟩; (first | (obtain ⟨hp6, zz⟩ := st6.box _ rfl; obtain ⟨y0, y1, y2, y3, y4⟩ := box5 zz; have z0 := zz.free 0; have z1 := zz.free 1; have z2 := zz.free 2; have z3 := zz.free 3; have z4 := zz.free 4) | skip))
                | (go_at_call 15; (with_reducible refine (HBIN.out _ _ (Sb.zbox st5)).mono ?_); rintro e6 w6 ⟨k6, n6, s6, A6, la6, a6, C6, lc6, c6, rfl, st6, hl6⟩; (first | (obtain ⟨hp6, zz⟩ := st6.box _ rfl; obtain ⟨y0, y1, y2, y3, y4⟩ := box5 zz; have z0 := zz.free 0; have z1 := zz.free 1; have z2 := zz.free 2; have z3 := zz.free 3; have z4 := zz.free 4) | skip)))
            all_goals
              refine hMet _ _ (Met.intro (hRJ _ _ ?_))
              (repeat apply Exists.intro)
              refine ⟨?_, rfl⟩
              first
                | exact gotB_fill st6 hl6
                | exact gotB_last st6 hl6
          case rest =>
            obtain ⟨hby, rfl, g8, k8, n8, s8, A8, la8, a8, C8, lc8, c8, rfl, hvy⟩ := hcut
            have HBY := Lib.hid (chain HBX.out hby)
            have HVXY := Lib.hid (HVX.out.next hby)
            have HVY := Lib.hid hvy
            have HSAME := Lib.hid (same_selfx HVXY.out.lies HVY.out.lies)
            clear hby hvy HVX HPX HBX
            have hne : (er != er) = false := by simp
            obtain ⟨t0, t1, t2, t3, t4⟩ := box5 HVXY.out.box
            obtain ⟨u0, u1, u2, u3, u4⟩ := box5 HVY.out.box
            go_wp2_with fail
            refine HSAME.out.mono ?_
            rintro e10 w10 ⟨rfl, hb10⟩
            have HB10 := Lib.hid (chain HBY.out hb10)
            have HV10 := Lib.hid (HVXY.out.next hb10)
            clear t0 t1 t2 t3 t4 u0 u1 u2 u3 u4 HSAME HVY HVXY hb10 HBY
            obtain ⟨t0, t1, t2, t3, t4⟩ := box5 HV10.out.box
            by_cases hv1 : v < 1
            · have hr0 := repR_low s v hv1
              rw [HRR.out] at hr0
              obtain ⟨rfl, rfl⟩ := Prod.mk.inj hr0
              have HZ := Lib.hid (zero_any vnull _ w10 HV10.out.lies)
              rw [same_refl] at HZ
              clear hr0 HRR
              go_wp2_with fail
              refine HZ.out.mono ?_
              rintro e11 w11 ⟨rfl, hb11⟩
              have HB11 := Lib.hid (chain HB10.out hb11)
              clear hb11 HB10 HZ HV10 t0 t1 t2 t3 t4
              go_wp2_with fail
              refine (haw.out _ HB11.out).mono ?_
              rintro e9 w9 ⟨rfl, hb9⟩
              go_wp2_with fail
              go_ret
              exact ⟨rfl, chain HB11.out hb9⟩
            · obtain ⟨q, hq⟩ : ∃ q : Int, (s.size : Int) * v = q := ⟨_, rfl⟩
              have hq0 : 0 ≤ q := by rw [← hq]; exact Int.mul_nonneg (by omega) (by omega)
              have hq1 : q ≤ 100 * 54 := by rw [← hq]; exact Int.mul_le_mul (by omega) (by omega) (by omega) (by omega)
              have hwq : wrap64 ((s.size : Int) * v) = q := by rw [hq]; unfold wrap64; omega
              by_cases hb4 : 4096 < q
              · have hr0 := repR_big hv1 (by rw [hq]; exact hb4)
                rw [HRR.out] at hr0
                obtain ⟨rfl, rfl⟩ := Prod.mk.inj hr0
                clear hr0 HRR hq
                go_wp2_with fail
                refine (haw.out _ HB10.out).mono ?_
                rintro e9 w9 ⟨rfl, hb9⟩
                go_wp2_with fail
                go_ret
                exact ⟨rfl, chain HB10.out hb9⟩
              · have hr0 := repR_mid hv1 (by rw [hq]; omega) HOK.out
                rw [HRR.out] at hr0
                obtain ⟨hr1, rfl⟩ := Prod.mk.inj hr0
                have hsz : ((rep s v.toNat).size : Int) = q := by rw [rep_size, Int.natCast_mul, Int.toNat_of_nonneg (by omega), hq]
                have HPRE := Lib.hid (rep_prefix s v.toNat (by omega))
                have hl := HV10.out.lies
                rw [hr1] at hl
                generalize rep s v.toNat = R9 at hsz HPRE hl
                unfold strV at hl
                obtain ⟨A9, a9, B9, b9, xs9, hcs, _⟩ := lies_open hl
                simp only [List.cons.injEq, Value.int.injEq, Value.string.injEq, true_and, and_true] at hcs
                obtain ⟨rfl, rfl, rfl, hcs2⟩ := hcs
                have HP2 := Lib.hid (fun W => prefix_any s s7 W (by omega) (by omega) HPRE.out)
                have f8 : ((s7.size : Int) == q) = true := by rw [hsz]; simp
                clear hcs2 hl hr1 hr0 HRR hq HPRE
                go_wp2_with fail
                refine (HP2.out _).mono ?_
                rintro e11 w11 ⟨rfl, rfl⟩
                go_wp2_with fail
                refine (haw.out _ HB10.out).mono ?_
                rintro e9 w9 ⟨rfl, hb9⟩
                go_wp2_with fail
                go_ret
                exact ⟨rfl, chain HB10.out hb9⟩
end Go.Proofs.YtbojpopgjcmlbaaGreatDoor
