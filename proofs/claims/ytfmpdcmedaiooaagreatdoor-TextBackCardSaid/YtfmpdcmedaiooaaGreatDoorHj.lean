/- text.Implode at an array of numbers: its walk. -/
import Derived.Test.YtfmpdcmedaiooaaGreatDoorHi
set_option linter.unusedVariables false
set_option linter.unusedSimpArgs false
namespace Go.Proofs.YtfmpdcmedaiooaaGreatDoor
open Go.RowKit Go.Shelf Go.Sort
set_option maxHeartbeats 8000000 in
set_option maxRecDepth 100000 in
theorem implode_nums (ps : List Int) (cs : List Value) (w : World) (h : Lies w (· < w.heap.size) (arrV (ps.map numV)) cs) (hv : valid (arrV (ps.map numV)) = true) (hn : ps.length ≤ 1024) :
    Calls Tryz.prog 12 #[.agg cs.toArray] w (RetPost (imR ps).1 (imR ps).2 w) := by
  have HV := Lib.hid (fun W (hW : Below w.heap.size w W) => valid_any (arrV (ps.map numV)) cs W (below_lies hW h))
  rw [hv] at HV
  unfold arrV at h
  obtain ⟨A, a, B, b, xs, rfl, _, _, _, _, _, hrs, hll⟩ := lies_open h
  clear h hv
  rw [List.length_map] at HV ⊢
  obtain ⟨l, hl1, hl2, hl3⟩ := liesL_fv _ _ hll
  have HNN := Lib.hid (all_nums hl1 hl3)
  have hll2 : (l.map Prod.snd).length = ps.length := by rw [List.length_map, ← List.length_map (f := Prod.fst), hl1, List.length_map]
  have HCF := Lib.hid (fun W (hW : Below w.heap.size w W) => by
    have hr : Rs W (· < W.heap.size) B ((l.map Prod.snd).flatMap Fv.cs) := by rw [← hl2]; exact hrs.move fun b hb => ⟨Nat.lt_of_lt_of_le hb hW.size, hW.block b hb⟩
    have := containsn_any B b (l.map Prod.snd) W (rs_row hr) (by omega)
    rw [HNN.out, hll2] at this
    exact this)
  have HEL := Lib.hid (fun W (hW : Below w.heap.size w W) i z (hz : ps[i]? = some z) => elem_cellsN (S := (· < W.heap.size)) (T := (· < W.heap.size)) (hrs.move fun b hb => ⟨Nat.lt_of_lt_of_le hb hW.size, hW.block b hb⟩) (hll.move fun b hb => ⟨Nat.lt_of_lt_of_le hb hW.size, hW.block b hb⟩) hz)
  obtain ⟨n, hnn⟩ : ∃ n, ps.length = n := ⟨_, rfl⟩
  have HN := Lib.hid hnn
  rw [hnn] at HV HCF hn ⊢
  obtain ⟨rv, re, hRE⟩ : ∃ v er, imR ps = (v, er) := ⟨_, _, rfl⟩
  have HRE := Lib.hid hRE
  rw [hRE]
  dsimp only
  have hmk := made_intsH n (by omega)
  have HST := Lib.hid (fun W => ImSt.start n ps W (by omega))
  have H0 := Lib.hid (Bv.start w #[.int .i64 5, .int .i64 0, .string ⟨#[]⟩, .slice A 0 a, .slice B n b])
  clear hRE hnn hl1 hl2 hl3 hll2 hll hrs HNN
  go_enter Tryz.func12, Tryz.ntmps12
  go_wp2_with fail
  refine (HV.out _ H0.out.below).mono ?_
  rintro e1 w1 ⟨rfl, hb1⟩
  have H1 := Lib.hid (H0.out.next hb1)
  clear hb1
  obtain ⟨t0, t1, t2, t3, t4⟩ := box5 H1.out.x
  go_wp2_with fail
  refine (HCF.out _ H1.out.below).mono ?_
  rintro e2 w2 ⟨rfl, hb2⟩
  have H2 := Lib.hid (H1.out.next hb2)
  clear hb2 t0 t1 t2 t3 t4 H1 HV HCF
  obtain ⟨t0, t1, t2, t3, t4⟩ := box5 H2.out.x
  have hlt2 := H2.out.x.lt
  have hne2 : ¬ w.heap.size = w2.heap.size := by omega
  go_wp2_with fail
  obtain ⟨w3, hw3⟩ : ∃ X, X = w2.alloc (.cells (zvs (List.replicate n 0)).toArray 3) := ⟨_, rfl⟩
  have HS : Hid (ImSt n ps w2 w3 0 (List.replicate n 0)) := Lib.hid (by rw [hw3]; exact HST.out w2)
  rw [← hw3]
  clear hw3 hmk HST t0 t1 t2 t3 t4
  go_loopg [5, 6, 31] n (fun gg _ _ s31 wr => ∃ (i : Nat) (ys : List Int), s31 = .int .i64 i ∧ i ≤ n ∧ n - i ≤ gg ∧ Hid (ImSt n ps w2 wr i ys))
  case atStart => exact ⟨0, _, rfl, Nat.zero_le _, by omega, HS⟩
  case round =>
    clear HS
    obtain ⟨i, ys, rfl, hin, hg, HS⟩ := hrel
    by_cases hlt : i < n
    · obtain ⟨x, hx⟩ : ∃ x, ps[i]? = some x := ⟨_, List.getElem?_eq_getElem (by rw [HN.out]; exact hlt)⟩
      have HBW : Hid (Below w.heap.size w wr) := Lib.hid (chain H2.out.below HS.out.below)
      obtain ⟨b, o, A', C', a', c', rfl, hb, g0, g1, g2, g3, g4⟩ := HEL.out wr HBW.out i x hx
      have hi0 : (0 : Int) ≤ (i : Int) := by omega
      have hil : (i : Int) < (n : Int) := by omega
      have HX := Lib.hid hx
      clear hx hb
      have HD := Lib.hid (HS.out.next (below1 wr (.cells #[.int .i64 3, .int .i64 x, .string ⟨#[]⟩, .slice A' 0 a', .slice C' 0 c'] 25)))
      clear HS HBW
      obtain ⟨y0, hy0⟩ := HD.out.there i hlt
      have z0 := HD.out.free i
      have HD3 := HD.out.put HX.out hlt
      unfold clampR at HD3
      go_wp2_with fail
      generalize ((wr.alloc (.cells #[.int .i64 3, .int .i64 x, .string ⟨#[]⟩, .slice A' 0 a', .slice C' 0 c'] 25)).setCell ⟨w2.heap.size, i, none⟩ (.int .i64 (min (max x (-1)) 1114112))) = W9 at HD3 ⊢
      have HD4 := Lib.hid HD3
      clear HD3 HD hy0 z0 g0 g1 g2 g3 g4
      go_roundg (n - (i + 1))
      case measure => omega
      case rel => exact ⟨i + 1, _, by first | rfl | go_num, by omega, Nat.le_refl _, HD4⟩
    · obtain rfl : i = n := by omega
      have hil : ¬ ((i : Int) < (i : Int)) := by omega
      have hys : ys = ps.map clampR := by
        have := HS.out.head
        rw [List.take_of_length_le (by rw [HS.out.len]; exact Nat.le_refl _), List.take_of_length_le (by rw [HN.out]; exact Nat.le_refl _)] at this
        exact this
      subst hys
      obtain ⟨D', d', he, hdn, hdl, hdm, hrs⟩ := own_open HS.out.own
      cases he
      have hfr := from_any (some ⟨w2.heap.size, 0, none⟩) i (ps.map clampR) wr.heap.size wr (Rs.rd (hrs.move fun b hb => ⟨hb.2.1, rfl⟩)) (Nat.le_refl _) (by rw [List.length_map, HN.out]; omega)
      rw [List.length_map, HN.out] at hfr
      have H3 := Lib.hid (H2.out.next HS.out.below)
      have hre := HRE.out
      unfold imR at hre
      clear hdn hdl hdm hrs
      cases hc : allCp ps with
      | true =>
        rw [if_pos hc] at hre
        obtain ⟨rfl, rfl⟩ := Prod.mk.inj hre
        rw [(clamp_all ps).2 hc, frV_true hc] at hfr
        have HFR := Lib.hid hfr
        have hz : (⟨(encs (ps.map Int.toNat)).toArray⟩ : ByteArray).size ≤ 4096 := by
          have := (encs_len (ps.map Int.toNat)).2
          rw [List.length_map, HN.out] at this
          show (encs (ps.map Int.toNat)).toArray.size ≤ 4096
          rw [List.size_toArray]
          omega
        obtain ⟨r, hr⟩ : ∃ r, (⟨(encs (ps.map Int.toNat)).toArray⟩ : ByteArray) = r := ⟨_, rfl⟩
        rw [hr] at HFR hz
        have HRR := Lib.hid hr
        have HC := Lib.hid (fun W => ret_open (str_any r W (by omega)))
        clear hre hfr hc hr
        go_wp2_with fail
        refine HFR.out.mono ?_
        rintro e4 w4 ⟨rfl, hb4⟩
        have H4 := Lib.hid (H3.out.next hb4)
        have hsz1 := H2.out.r.lt
        have hsz2 := HS.out.below.size
        have hsz4 := hb4.size
        clear hb4
        go_wp2_with fail
        refine (HC.out _).mono ?_
        rintro e5 w5 ⟨rk, rn, rs, rks, res, RA, ra, RC, rc, hrv, rfl, hb5, hl5⟩
        have H5 := Lib.hid (H4.out.next hb5)
        have HL := Lib.hid hl5
        clear hb5 hl5 hrv
        obtain ⟨y0, y1, y2, y3, y4⟩ := box5 H5.out.r
        have z0 := H5.out.r.free 0
        have z1 := H5.out.r.free 1
        have z2 := H5.out.r.free 2
        have z3 := H5.out.r.free 3
        have z4 := H5.out.r.free 4
        go_wp2_with fail
        refine bodyPost_ret (v := .tuple #[.agg #[.int .i64 rk, .int .i64 rn, .string rs, .slice RA rks.length ra, .slice RC res.length rc], .int .i64 (strE r)]) (by simp [results, Tryz.results12, go_sem, y0, y1, y2, y3, y4]) rfl ?_
        rw [HRR.out]
        exact ret_put H5.out.below (by omega) H5.out.r.lt (HL.out.move fun b hb => ⟨⟨by omega, hb.2, by omega⟩, rfl⟩)
      | false =>
        rw [if_neg (by rw [hc]; exact Bool.false_ne_true)] at hre
        obtain ⟨rfl, rfl⟩ := Prod.mk.inj hre
        rw [frV_false ((clamp_all ps).1.trans hc)] at hfr
        have HFR := Lib.hid hfr
        clear hre hfr hc
        go_wp2_with fail
        refine HFR.out.mono ?_
        rintro e4 w4 ⟨rfl, hb4⟩
        have H4 := Lib.hid (H3.out.next hb4)
        clear hb4
        obtain ⟨y0, y1, y2, y3, y4⟩ := box5 H4.out.r
        have z0 := H4.out.r.free 0
        have z1 := H4.out.r.free 1
        have z2 := H4.out.r.free 2
        have z3 := H4.out.r.free 3
        have z4 := H4.out.r.free 4
        go_wp2_with fail
        refine bodyPost_ret (v := .tuple #[.agg #[.int .i64 0, .int .i64 0, .string ⟨#[]⟩, .slice none 0 0, .slice none 0 0], .int .i64 3]) (by simp [results, Tryz.results12, go_sem, y0, y1, y2, y3, y4]) rfl ?_
        exact ret_put H4.out.below (by omega) H4.out.r.lt (lies_null _ _)
end Go.Proofs.YtfmpdcmedaiooaaGreatDoor
