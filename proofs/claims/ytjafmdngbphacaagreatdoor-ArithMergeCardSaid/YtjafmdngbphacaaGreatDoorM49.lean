/- ArithMerge at two objects. -/
import Derived.Test.YtjafmdngbphacaaGreatDoorM47
import Derived.StillTailTactics
import Derived.Deep.QuietTactic
import Derived.Deep.LoopGhost
set_option linter.unusedVariables false
set_option linter.unusedSimpArgs false
namespace Go.Proofs.YtjafmdngbphacaaGreatDoor
open Go.RowKit Go.Sort
set_option maxHeartbeats 8000000 in
set_option maxRecDepth 100000 in
theorem merge_objs (n n2 : Int) (s s2 : ByteArray) (ks ks2 : List ByteArray) (es es2 : List V) (cs ds : List Value) (w : World) (h : Lies w (· < w.heap.size) (.mk 6 n s ks es) cs) (h' : Lies w (· < w.heap.size) (.mk 6 n2 s2 ks2 es2) ds) (hml : MaxL w)
    (hsmall : smallP 100 [.mk 6 n s ks es, .mk 6 n2 s2 ks2 es2] = true) (hv : valid (.mk 6 n s ks es) = true) (hu : valid (.mk 6 n2 s2 ks2 es2) = true) :
    Calls Tryz.prog 5 #[.agg cs.toArray, .agg ds.toArray] w fun e w' => e = .returned (.bool true) ∧ Below w.heap.size w w' := by
  have haw := Lib.hid (fun W (hW : Below w.heap.size w W) => awake6_any W (hml.next hW))
  have hva := Lib.hid (fun W (hW : Below w.heap.size w W) => valid_any _ cs W (below_lies hW h))
  have hvb := Lib.hid (fun W (hW : Below w.heap.size w W) => valid_any _ ds W (below_lies hW h'))
  have hsm := Lib.hid (fun W (hW : Below w.heap.size w W) g hg => small_any 100 [.mk 6 n s ks es, .mk 6 n2 s2 ks2 es2] (some ⟨g, 0, none⟩) 2 (cs ++ ds) W (two_rowM (below_lies hW h) (below_lies hW h') hg) (by simp) (by omega) (by omega))
  have hlen1 : es.length ≤ 1024 := (valid_keys hv).2.2.2
  have hlen2 : es2.length ≤ 1024 := (valid_keys hu).2.2.2
  have hlen3 : ks.length ≤ 1024 := (valid_keys hv).2.2.1
  have hlen4 : ks2.length ≤ 1024 := (valid_keys hu).2.2.1
  rw [hsmall] at hsm
  rw [hv] at hva
  rw [hu] at hvb
  obtain ⟨S, hS, hU⟩ := sum_objs hv hu hsmall
  obtain ⟨sk, sn, ss, sks, ses⟩ := S
  have hms := Lib.hid (fun W (hW : Below w.heap.size w W) => v_open (mself_open (below_lies hW h) hv))
  have hbn := Lib.hid (fun W (hW : Below w.heap.size w W) => v_open (sum_open (below_lies hW h) (below_lies hW h') hS))
  have HSA := Lib.hid (fun (x : V) (c d : List Value) W (hx : Lies W (· < W.heap.size) x c) (hy : Lies W (· < W.heap.size) x d) => same_selfx (W := W) hx hy)
  have HU := Lib.hid hU
  obtain ⟨A, a, B, b, xs, rfl, -⟩ := lies_open h
  obtain ⟨A2, a2, B2, b2, xs2, rfl, -⟩ := lies_open h'
  have L1 := Lib.hid h
  have L2 := Lib.hid h'
  clear h h' hml hsmall hv hu hS hU
  show Calls _ _ #[.agg #[.int .i64 6, .int .i64 n, .string s, .slice A ks.length a, .slice B es.length b], .agg #[.int .i64 6, .int .i64 n2, .string s2, .slice A2 ks2.length a2, .slice B2 es2.length b2]] w _
  obtain ⟨W0, hW0⟩ : ∃ X, X = (w.alloc (.cells #[.int .i64 6, .int .i64 n, .string s, .slice A ks.length a, .slice B es.length b] 25)).alloc (.cells #[.int .i64 6, .int .i64 n2, .string s2, .slice A2 ks2.length a2, .slice B2 es2.length b2] 25) := ⟨_, rfl⟩
  have HB0 := Lib.hid (show Below w.heap.size w W0 by rw [hW0]; exact ((Below.refl _ _).alloc (Nat.le_refl _) _).alloc (by simp) _)
  have HX0 : Hid (Vx W0 w.heap.size (.mk 6 n s ks es) [.int .i64 6, .int .i64 n, .string s, .slice A ks.length a, .slice B es.length b]) := Lib.hid ⟨by rw [hW0]; exact (Box.laid w _ _).alloc _, below_lies HB0.out L1.out⟩
  have HY0 : Hid (Vx W0 (w.heap.size + 1) (.mk 6 n2 s2 ks2 es2) [.int .i64 6, .int .i64 n2, .string s2, .slice A2 ks2.length a2, .slice B2 es2.length b2]) := Lib.hid ⟨by rw [hW0]; exact box_at _ _ _ _ (by simp), below_lies HB0.out L2.out⟩
  have HW0 := Lib.hid hW0
  have hsm1 := Lib.hid (hsm.out (W0.alloc (.cells #[.int .i64 6, .int .i64 n, .string s, .slice A ks.length a, .slice B es.length b, .int .i64 6, .int .i64 n2, .string s2, .slice A2 ks2.length a2, .slice B2 es2.length b2] 25)) (chain HB0.out (below1 _ _)) W0.heap.size (Box.laid W0 _ _))
  clear hW0 hsm L1 L2
  obtain ⟨t0, t1, t2, t3, t4⟩ := box5 HX0.out.box
  obtain ⟨y0, y1, y2, y3, y4⟩ := box5 HY0.out.box
  go_enter Tryz.func5, Tryz.ntmps5
  go_upto_region 1 with fail
  rw [← HW0.out]
  go_wp2_with fail
  refine hsm1.out.mono ?_
  rintro e1 w1 ⟨rfl, hb1⟩
  have HB1 := Lib.hid (chain HB0.out (chain (below1 W0 _) hb1))
  have HX1 := Lib.hid (HX0.out.next (chain (below1 W0 _) hb1))
  have HY1 := Lib.hid (HY0.out.next (chain (below1 W0 _) hb1))
  clear hsm1 hb1 t0 t1 t2 t3 t4 y0 y1 y2 y3 y4 HX0 HY0 HB0 HW0
  obtain ⟨t0, t1, t2, t3, t4⟩ := box5 HX1.out.box
  go_wp2_with fail
  refine (hva.out _ HB1.out).mono ?_
  rintro e2 w2 ⟨rfl, hb2⟩
  have HB2 := Lib.hid (chain HB1.out hb2)
  have HX2 := Lib.hid (HX1.out.next hb2)
  have HY2 := Lib.hid (HY1.out.next hb2)
  clear hb2 t0 t1 t2 t3 t4 HB1 HX1 HY1 hva
  obtain ⟨y0, y1, y2, y3, y4⟩ := box5 HY2.out.box
  go_wp2_with fail
  refine (hvb.out _ HB2.out).mono ?_
  rintro e3 w3 ⟨rfl, hb3⟩
  have HB3 := Lib.hid (chain HB2.out hb3)
  have HX3 := Lib.hid (HX2.out.next hb3)
  have HY3 := Lib.hid (HY2.out.next hb3)
  clear hb3 y0 y1 y2 y3 y4 HB2 HX2 HY2 hvb
  obtain ⟨t0, t1, t2, t3, t4⟩ := box5 HX3.out.box
  obtain ⟨y0, y1, y2, y3, y4⟩ := box5 HY3.out.box
  go_wp2_with fail
  refine (hms.out _ HB3.out).mono ?_
  rintro e4 w4 ⟨MA, ma, MC, mc, rfl, hb4, hl4⟩
  obtain ⟨w5, hw5⟩ : ∃ X, X = w4.alloc (.cells #[.int .i64 6, .int .i64 n, .string s, .slice MA ks.length ma, .slice MC es.length mc] 25) := ⟨_, rfl⟩
  have hb5 : Below w3.heap.size w3 w5 := by rw [hw5]; exact chain hb4 (below1 _ _)
  have HB5 := Lib.hid (chain HB3.out hb5)
  have HX5 := Lib.hid (HX3.out.next hb5)
  have HY5 := Lib.hid (HY3.out.next hb5)
  have HM5 : Hid (Vx w5 w4.heap.size (.mk 6 n s ks es) [.int .i64 6, .int .i64 n, .string s, .slice MA ks.length ma, .slice MC es.length mc]) := Lib.hid (by rw [hw5]; exact Vx.new hl4)
  have HW5 := Lib.hid hw5
  clear hb4 hl4 hb5 hw5 HB3 HX3 HY3 hms t0 t1 t2 t3 t4 y0 y1 y2 y3 y4
  go_upto_region 20 with fail
  rw [← HW5.out]
  clear HW5
  obtain ⟨t0, t1, t2, t3, t4⟩ := box5 HX5.out.box
  obtain ⟨y0, y1, y2, y3, y4⟩ := box5 HY5.out.box
  go_wp2_with fail
  refine (hbn.out _ HB5.out).mono ?_
  rintro e6 w6 ⟨SA, sa, SCp, sc, rfl, hb6, hl6⟩
  obtain ⟨w7, hw7⟩ : ∃ X, X = w6.alloc (.cells #[.int .i64 sk, .int .i64 sn, .string ss, .slice SA sks.length sa, .slice SCp ses.length sc] 25) := ⟨_, rfl⟩
  have hb7 : Below w5.heap.size w5 w7 := by rw [hw7]; exact chain hb6 (below1 _ _)
  have HB7 := Lib.hid (chain HB5.out hb7)
  have HX7 := Lib.hid (HX5.out.next hb7)
  have HY7 := Lib.hid (HY5.out.next hb7)
  have HM7 := Lib.hid (HM5.out.next hb7)
  have HS7 : Hid (Vx w7 w6.heap.size (.mk sk sn ss sks ses) [.int .i64 sk, .int .i64 sn, .string ss, .slice SA sks.length sa, .slice SCp ses.length sc]) := Lib.hid (by rw [hw7]; exact Vx.new hl6)
  have HW7 := Lib.hid hw7
  clear hb6 hl6 hb7 hw7 HB5 HX5 HY5 HM5 hbn t0 t1 t2 t3 t4 y0 y1 y2 y3 y4
  go_upto_region 21 with fail
  rw [← HW7.out]
  clear HW7
  obtain ⟨t0, t1, t2, t3, t4⟩ := box5 HX7.out.box
  obtain ⟨y0, y1, y2, y3, y4⟩ := box5 HM7.out.box
  go_wp2_with fail
  refine (HSA.out _ _ _ _ HM7.out.lies HX7.out.lies).mono ?_
  rintro e8 w8 ⟨rfl, hb8⟩
  have HB8 := Lib.hid (chain HB7.out hb8)
  have HX8 := Lib.hid (HX7.out.next hb8)
  have HY8 := Lib.hid (HY7.out.next hb8)
  have HS8 := Lib.hid (HS7.out.next hb8)
  obtain ⟨gs, hgs⟩ : ∃ g, g = w6.heap.size := ⟨_, rfl⟩
  rw [← hgs] at HS8
  clear hb8 HB7 HX7 HY7 HM7 HS7 t0 t1 t2 t3 t4 y0 y1 y2 y3 y4
  go_wp2_with fail
  rw [← hgs]
  clear hgs
  go_loopg [15] ks2.length (fun gg s15 wr => ∃ i : Nat, s15 = .int .i64 i ∧ i ≤ ks2.length ∧ ks2.length - i ≤ gg ∧ Hid (Below w8.heap.size w8 wr))
  case atStart => exact ⟨0, rfl, Nat.zero_le _, by omega, Lib.hid (below_self _)⟩
  case round =>
    obtain ⟨i, rfl, hin, hg, HBR⟩ := hrel
    have hy3 := (HY8.out.next HBR.out).box.cell (i := 3) rfl
    by_cases hlt : i < ks2.length
    · obtain ⟨key, hk⟩ : ∃ x, ks2[i]? = some x := ⟨_, List.getElem?_eq_getElem hlt⟩
      obtain ⟨x, hx⟩ : ∃ x, es2[i]? = some x := ⟨_, List.getElem?_eq_getElem (by rw [← HU.out.len2]; exact hlt)⟩
      have hget := HU.out.right i key x hk hx
      have hi0 : (0 : Int) ≤ (i : Int) := by omega
      have hil : (i : Int) < (ks2.length : Int) := by omega
      have hie : (i : Int) < (es2.length : Int) := by rw [← HU.out.len2]; exact hil
      obtain ⟨bK, oK, rfl, hbK, hcK⟩ := vx_key HY8.out hk
      obtain ⟨bX, oX, v0, v1, v2, v3, v4, rfl, hbX, hlX, hcX⟩ := vx_elem HY8.out hx
      have keepS : Hid (∀ X, Below wr.heap.size wr X → (fun w' : World => w'.cell? ⟨gs, 0, none⟩ = some (.int .i64 sk) ∧ w'.cell? ⟨gs, 1, none⟩ = some (.int .i64 sn) ∧ w'.cell? ⟨gs, 2, none⟩ = some (.string ss) ∧ w'.cell? ⟨gs, 3, none⟩ = some (.slice SA sks.length sa) ∧ w'.cell? ⟨gs, 4, none⟩ = some (.slice SCp ses.length sc) ∧ w'.cell? ⟨w.heap.size + 1, 3, none⟩ = some (.slice (some ⟨bK, oK, none⟩) ks2.length a2) ∧ w'.cell? ⟨bK, oK + i, none⟩ = some (.string key)) X) := Lib.hid fun X hX => by
        have hX' := chain HBR.out hX
        obtain ⟨f0, f1, f2, f3, f4⟩ := box5 (HS8.out.next hX').box
        exact ⟨f0, f1, f2, f3, f4, (HY8.out.next hX').box.cell (i := 3) rfl, below_cell hX' hbK hcK⟩
      have HGET : Hid (∀ z W, Sb wr W z → Calls Tryz.prog 30 #[.agg #[.int .i64 sk, .int .i64 sn, .string ss, .slice SA sks.length sa, .slice SCp ses.length sc], .string key] W (OpG wr z (some x))) := Lib.hid fun z W hz => opG_of hz (by
        have h0 := get_fresh _ key [.int .i64 sk, .int .i64 sn, .string ss, .slice SA sks.length sa, .slice SCp ses.length sc] W (below_lies (chain HBR.out hz.below) HS8.out.lies)
        rw [hget] at h0
        exact h0)
      have HLX := Lib.hid hlX
      have HCX := Lib.hid hcX
      clear hget hlX hcX hx hk hcK
      go_wp2_with fail
      go_upto_region 26 with fail
      go_cut [16, 17] (fun tr te wx => GotG wr (some x) tr te wx)
      case first =>
        rename_i Jm Km hRJ hMet
        have st0 := Sb.start wr
        obtain ⟨f0, f1, f2, f3, f4, f5, f6⟩ := keepS.out _ (Below.refl _ _)
        go_region_held3 (fun w' => w'.cell? ⟨gs, 0, none⟩ = some (.int .i64 sk) ∧ w'.cell? ⟨gs, 1, none⟩ = some (.int .i64 sn) ∧ w'.cell? ⟨gs, 2, none⟩ = some (.string ss) ∧ w'.cell? ⟨gs, 3, none⟩ = some (.slice SA sks.length sa) ∧ w'.cell? ⟨gs, 4, none⟩ = some (.slice SCp ses.length sc) ∧ w'.cell? ⟨w.heap.size + 1, 3, none⟩ = some (.slice (some ⟨bK, oK, none⟩) ks2.length a2) ∧ w'.cell? ⟨bK, oK + i, none⟩ = some (.string key))
          (first
            | with_reducible exact keepS.out _ (Sb.drew st0).below
            | with_reducible exact keepS.out _ (Sb.drew (Sb.zbox st0)).below
            | with_reducible exact keepS.out _ st6.below
            | (refine keepS.out _ ?_; with_reducible exact below_five_m hp6 st6.below _ _ _ _ _)
            | with_reducible exact keepS.out _ (chain st6.below (below1 _ _)))
          (first
            | (go_at_call 30; (with_reducible refine (HGET.out none _ (Sb.drew st0)).mono ?_); rintro e6 w6 ⟨k6, n6, s6, A6, la6, a6, C6, lc6, c6, rfl, st6, hl6⟩)
            | (go_at_call 30; (with_reducible refine (HGET.out _ _ (Sb.drew (Sb.zbox st0))).mono ?_); rintro e6 w6 ⟨k6, n6, s6, A6, la6, a6, C6, lc6, c6, rfl, st6, hl6⟩; (obtain ⟨hp6, zz⟩ := st6.box _ rfl; obtain ⟨y0, y1, y2, y3, y4⟩ := box5 zz; have z0 := zz.free 0; have z1 := zz.free 1; have z2 := zz.free 2; have z3 := zz.free 3; have z4 := zz.free 4)))
        all_goals
          refine hMet _ _ (Met.intro (hRJ _ _ ?_))
          (repeat apply Exists.intro)
          refine ⟨?_, rfl⟩
          first
            | exact gotG_fill st6 hl6
            | exact gotG_last st6 hl6
      case rest =>
        obtain ⟨hbx, rfl, gq, k7, n7, s7, A7, la7, a7, C7, lc7, c7, rfl, hx7⟩ := hcut
        have HX7' := Lib.hid hx7
        have HBC := Lib.hid (chain HBR.out hbx)
        obtain ⟨f0, f1, f2, f3, f4⟩ := box5 hx7.box
        have hy4 := (HY8.out.next HBC.out).box.cell (i := 4) rfl
        obtain ⟨p0, p1, p2, p3, p4⟩ := HCX.out
        have p0' := below_cell HBC.out hbX p0
        have p1' := below_cell HBC.out hbX p1
        have p2' := below_cell HBC.out hbX p2
        have p3' := below_cell HBC.out hbX p3
        have p4' := below_cell HBC.out hbX p4
        have hcall := Lib.hid (fun W (hW : Below wc.heap.size wc W) => HSA.out x [.int .i64 k7, .int .i64 n7, .string s7, .slice A7 la7 a7, .slice C7 lc7 c7] [v0, v1, v2, v3, v4] W (below_lies hW HX7'.out.lies) (below_lies (chain HBC.out hW) HLX.out))
        clear p0 p1 p2 p3 p4 hx7 hbx keepS HGET HBR hy3
        go_wp2_with fail
        go_still_tail 9, (by kernel_rfl)
        change wpList _ _ _ _ _ wc.drew
        go_wp2_with fail
        refine (hcall.out _ ((Below.refl _ _).drew)).mono ?_
        rintro e9 w9 ⟨rfl, hb9⟩
        have HB9 := Lib.hid (chain HBC.out (below_of_drew hb9))
        clear hb9 hcall p0' p1' p2' p3' p4' f0 f1 f2 f3 f4 hy4 HBC HX7'
        go_wp2_with fail
        go_roundg (ks2.length - (i + 1))
        case measure => omega
        case rel => exact ⟨i + 1, by first | rfl | go_num, by omega, Nat.le_refl _, HB9⟩
    · have hnl : ¬ ((i : Int) < (ks2.length : Int)) := by omega
      clear hin hg hlt
      go_wp2_with fail
      clear hy3
      go_loopg [18] ks.length (fun gg s18 wr2 => ∃ i : Nat, s18 = .int .i64 i ∧ i ≤ ks.length ∧ ks.length - i ≤ gg ∧ Hid (Below w8.heap.size w8 wr2))
      case atStart => exact ⟨0, rfl, Nat.zero_le _, by omega, HBR⟩
      case round =>
        clear HBR
        obtain ⟨j, rfl, hjn, hg, HBR⟩ := hrel
        have hx3 := (HX8.out.next HBR.out).box.cell (i := 3) rfl
        by_cases hlt : j < ks.length
        · obtain ⟨key, hk⟩ : ∃ x, ks[j]? = some x := ⟨_, List.getElem?_eq_getElem hlt⟩
          obtain ⟨x, hx⟩ : ∃ x, es[j]? = some x := ⟨_, List.getElem?_eq_getElem (by rw [← HU.out.len]; exact hlt)⟩
          obtain ⟨xx, hget, hsame⟩ := HU.out.left j key x hk hx
          have hi0 : (0 : Int) ≤ (j : Int) := by omega
          have hil : (j : Int) < (ks.length : Int) := by omega
          have hie : (j : Int) < (es.length : Int) := by rw [← HU.out.len]; exact hil
          obtain ⟨bK, oK, rfl, hbK, hcK⟩ := vx_key HX8.out hk
          obtain ⟨bX, oX, v0, v1, v2, v3, v4, rfl, hbX, hlX, hcX⟩ := vx_elem HX8.out hx
          have keepS : Hid (∀ X, Below wr.heap.size wr X → (fun w' : World => w'.cell? ⟨gs, 0, none⟩ = some (.int .i64 sk) ∧ w'.cell? ⟨gs, 1, none⟩ = some (.int .i64 sn) ∧ w'.cell? ⟨gs, 2, none⟩ = some (.string ss) ∧ w'.cell? ⟨gs, 3, none⟩ = some (.slice SA sks.length sa) ∧ w'.cell? ⟨gs, 4, none⟩ = some (.slice SCp ses.length sc) ∧ w'.cell? ⟨w.heap.size, 3, none⟩ = some (.slice (some ⟨bK, oK, none⟩) ks.length a) ∧ w'.cell? ⟨bK, oK + j, none⟩ = some (.string key)) X) := Lib.hid fun X hX => by
            have hX' := chain HBR.out hX
            obtain ⟨f0, f1, f2, f3, f4⟩ := box5 (HS8.out.next hX').box
            exact ⟨f0, f1, f2, f3, f4, (HX8.out.next hX').box.cell (i := 3) rfl, below_cell hX' hbK hcK⟩
          have HGET : Hid (∀ z W, Sb wr W z → Calls Tryz.prog 30 #[.agg #[.int .i64 sk, .int .i64 sn, .string ss, .slice SA sks.length sa, .slice SCp ses.length sc], .string key] W (OpG wr z (some xx))) := Lib.hid fun z W hz => opG_of hz (by
            have h0 := get_fresh _ key [.int .i64 sk, .int .i64 sn, .string ss, .slice SA sks.length sa, .slice SCp ses.length sc] W (below_lies (chain HBR.out hz.below) HS8.out.lies)
            rw [hget] at h0
            exact h0)
          have HGEB := Lib.hid (fun W (hW : Below w8.heap.size w8 W) => get_fresh _ key [.int .i64 6, .int .i64 n2, .string s2, .slice A2 ks2.length a2, .slice B2 es2.length b2] W (below_lies hW HY8.out.lies))
          generalize getP (.mk 6 n2 s2 ks2 es2) key = ob at HGEB hsame
          have HSM := Lib.hid hsame
          have HLX := Lib.hid hlX
          have HCX := Lib.hid hcX
          have HCK := Lib.hid hcK
          clear hget hlX hcX hx hk hcK hsame
          go_wp2_with fail
          go_upto_region 32 with fail
          go_cut [19, 20] (fun tr te wx => GotG wr (some xx) tr te wx)
          case first =>
            rename_i Jm Km hRJ hMet
            have st0 := Sb.start wr
            obtain ⟨f0, f1, f2, f3, f4, f5, f6⟩ := keepS.out _ (Below.refl _ _)
            go_region_held3 (fun w' => w'.cell? ⟨gs, 0, none⟩ = some (.int .i64 sk) ∧ w'.cell? ⟨gs, 1, none⟩ = some (.int .i64 sn) ∧ w'.cell? ⟨gs, 2, none⟩ = some (.string ss) ∧ w'.cell? ⟨gs, 3, none⟩ = some (.slice SA sks.length sa) ∧ w'.cell? ⟨gs, 4, none⟩ = some (.slice SCp ses.length sc) ∧ w'.cell? ⟨w.heap.size, 3, none⟩ = some (.slice (some ⟨bK, oK, none⟩) ks.length a) ∧ w'.cell? ⟨bK, oK + j, none⟩ = some (.string key))
              (first
                | with_reducible exact keepS.out _ (Sb.drew st0).below
                | with_reducible exact keepS.out _ (Sb.drew (Sb.zbox st0)).below
                | with_reducible exact keepS.out _ st6.below
                | (refine keepS.out _ ?_; with_reducible exact below_five_m hp6 st6.below _ _ _ _ _)
                | with_reducible exact keepS.out _ (chain st6.below (below1 _ _)))
              (first
                | (go_at_call 30; (with_reducible refine (HGET.out none _ (Sb.drew st0)).mono ?_); rintro e6 w6 ⟨k6, n6, s6, A6, la6, a6, C6, lc6, c6, rfl, st6, hl6⟩)
                | (go_at_call 30; (with_reducible refine (HGET.out _ _ (Sb.drew (Sb.zbox st0))).mono ?_); rintro e6 w6 ⟨k6, n6, s6, A6, la6, a6, C6, lc6, c6, rfl, st6, hl6⟩; (obtain ⟨hp6, zz⟩ := st6.box _ rfl; obtain ⟨y0, y1, y2, y3, y4⟩ := box5 zz; have z0 := zz.free 0; have z1 := zz.free 1; have z2 := zz.free 2; have z3 := zz.free 3; have z4 := zz.free 4)))
            all_goals
              refine hMet _ _ (Met.intro (hRJ _ _ ?_))
              (repeat apply Exists.intro)
              refine ⟨?_, rfl⟩
              first
                | exact gotG_fill st6 hl6
                | exact gotG_last st6 hl6
          case rest =>
            obtain ⟨hbx, rfl, gq, k7, n7, s7, A7, la7, a7, C7, lc7, c7, rfl, hx7⟩ := hcut
            have HQ := Lib.hid hx7
            have HBC := Lib.hid (chain HBR.out hbx)
            have keepT : Hid (∀ X, Below wc.heap.size wc X → (fun w' : World => w'.cell? ⟨w.heap.size + 1, 0, none⟩ = some (.int .i64 6) ∧ w'.cell? ⟨w.heap.size + 1, 1, none⟩ = some (.int .i64 n2) ∧ w'.cell? ⟨w.heap.size + 1, 2, none⟩ = some (.string s2) ∧ w'.cell? ⟨w.heap.size + 1, 3, none⟩ = some (.slice A2 ks2.length a2) ∧ w'.cell? ⟨w.heap.size + 1, 4, none⟩ = some (.slice B2 es2.length b2) ∧ w'.cell? ⟨w.heap.size, 3, none⟩ = some (.slice (some ⟨bK, oK, none⟩) ks.length a) ∧ w'.cell? ⟨bK, oK + j, none⟩ = some (.string key)) X) := Lib.hid fun X hX => by
              have hX' := chain HBC.out hX
              obtain ⟨f0, f1, f2, f3, f4⟩ := box5 (HY8.out.next hX').box
              exact ⟨f0, f1, f2, f3, f4, (HX8.out.next hX').box.cell (i := 3) rfl, below_cell hX' hbK HCK.out⟩
            have HGEC : Hid (∀ z W, Sb wc W z → Calls Tryz.prog 30 #[.agg #[.int .i64 6, .int .i64 n2, .string s2, .slice A2 ks2.length a2, .slice B2 es2.length b2], .string key] W (OpG wc z ob)) := Lib.hid fun z W hz => opG_of hz (HGEB.out W (chain HBC.out hz.below))
            clear keepS HGET HBR hx3 hx7 hbx HGEB
            go_upto_region 33 with fail
            go_cut [21, 22] (fun tr te wx => GotG wc ob tr te wx)
            case first =>
              rename_i Jm Km hRJ hMet
              have st0 := Sb.start wc
              obtain ⟨f0, f1, f2, f3, f4, f5, f6⟩ := keepT.out _ (Below.refl _ _)
              go_region_held3 (fun w' => w'.cell? ⟨w.heap.size + 1, 0, none⟩ = some (.int .i64 6) ∧ w'.cell? ⟨w.heap.size + 1, 1, none⟩ = some (.int .i64 n2) ∧ w'.cell? ⟨w.heap.size + 1, 2, none⟩ = some (.string s2) ∧ w'.cell? ⟨w.heap.size + 1, 3, none⟩ = some (.slice A2 ks2.length a2) ∧ w'.cell? ⟨w.heap.size + 1, 4, none⟩ = some (.slice B2 es2.length b2) ∧ w'.cell? ⟨w.heap.size, 3, none⟩ = some (.slice (some ⟨bK, oK, none⟩) ks.length a) ∧ w'.cell? ⟨bK, oK + j, none⟩ = some (.string key))
                (first
                  | with_reducible exact keepT.out _ (Sb.drew st0).below
                  | with_reducible exact keepT.out _ (Sb.drew (Sb.zbox st0)).below
                  | with_reducible exact keepT.out _ st6.below
                  | (refine keepT.out _ ?_; with_reducible exact below_five_m hp6 st6.below _ _ _ _ _)
                  | with_reducible exact keepT.out _ (chain st6.below (below1 _ _)))
                (first
                  | (go_at_call 30; (with_reducible refine (HGEC.out none _ (Sb.drew st0)).mono ?_); rintro e6 w6 ⟨k6, n6, s6, A6, la6, a6, C6, lc6, c6, rfl, st6, hl6⟩)
                  | (go_at_call 30; (with_reducible refine (HGEC.out _ _ (Sb.drew (Sb.zbox st0))).mono ?_); rintro e6 w6 ⟨k6, n6, s6, A6, la6, a6, C6, lc6, c6, rfl, st6, hl6⟩; (obtain ⟨hp6, zz⟩ := st6.box _ rfl; obtain ⟨y0, y1, y2, y3, y4⟩ := box5 zz; have z0 := zz.free 0; have z1 := zz.free 1; have z2 := zz.free 2; have z3 := zz.free 3; have z4 := zz.free 4)))
              all_goals
                refine hMet _ _ (Met.intro (hRJ _ _ ?_))
                (repeat apply Exists.intro)
                refine ⟨?_, rfl⟩
                first
                  | exact gotG_fill st6 hl6
                  | exact gotG_last st6 hl6
            case rest =>
              obtain ⟨hbx, rfl, gr, k8, n8, s8, A8, la8, a8, C8, lc8, c8, rfl, hx8⟩ := hcut
              have HBD := Lib.hid (chain HBC.out hbx)
              have HQ2 := Lib.hid (HQ.out.next hbx)
              clear HQ keepT HGEC hx8 hbx HBC
              cases ob with
              | some yy =>
                go_wp2_with fail
                go_quiet (fail)
                go_wp2_with fail
                go_roundg (ks.length - (j + 1))
                case measure => omega
                case rel => exact ⟨j + 1, by first | rfl | go_num, by omega, Nat.le_refl _, Lib.hid (below_drewN HBD.out _)⟩
              | none =>
                obtain rfl : xx = x := HSM.out rfl
                obtain ⟨f0, f1, f2, f3, f4⟩ := box5 HQ2.out.box
                have hx4 := (HX8.out.next HBD.out).box.cell (i := 4) rfl
                obtain ⟨p0, p1, p2, p3, p4⟩ := HCX.out
                have p0' := below_cell HBD.out hbX p0
                have p1' := below_cell HBD.out hbX p1
                have p2' := below_cell HBD.out hbX p2
                have p3' := below_cell HBD.out hbX p3
                have p4' := below_cell HBD.out hbX p4
                have hcall := Lib.hid (fun W (hW : Below wc.heap.size wc W) => HSA.out xx [.int .i64 k7, .int .i64 n7, .string s7, .slice A7 la7 a7, .slice C7 lc7 c7] [v0, v1, v2, v3, v4] W (below_lies hW HQ2.out.lies) (below_lies (chain HBD.out hW) HLX.out))
                clear p0 p1 p2 p3 p4
                go_wp2_with fail
                go_still_tail 12, (by kernel_rfl)
                change wpList _ _ _ _ _ wc.drew
                go_wp2_with fail
                refine (hcall.out _ ((Below.refl _ _).drew)).mono ?_
                rintro e9 w9 ⟨rfl, hb9⟩
                have HB9 := Lib.hid (chain HBD.out (below_of_drew hb9))
                clear hb9 hcall p0' p1' p2' p3' p4' f0 f1 f2 f3 f4 hx4 HBD HQ2
                go_wp2_with fail
                go_roundg (ks.length - (j + 1))
                case measure => omega
                case rel => exact ⟨j + 1, by first | rfl | go_num, by omega, Nat.le_refl _, HB9⟩
        · have hnl2 : ¬ ((j : Int) < (ks.length : Int)) := by omega
          go_wp2_with fail
          refine (haw.out _ (chain HB8.out HBR.out)).mono ?_
          rintro e9 w9 ⟨rfl, hb9⟩
          go_wp2_with fail
          go_ret
          exact ⟨rfl, chain (chain HB8.out HBR.out) hb9⟩
end Go.Proofs.YtjafmdngbphacaaGreatDoor
