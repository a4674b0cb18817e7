/- TextBack: its walk. -/
import Derived.Test.YtfmpdcmedaiooaaGreatDoorHj
import Derived.Test.YtfmpdcmedaiooaaGreatDoorU45
import Derived.Test.YtfmpdcmedaiooaaGreatDoorU40
import Derived.Test.YtfmpdcmedaiooaaGreatDoorU11
set_option linter.unusedVariables false
set_option linter.unusedSimpArgs false
namespace Go.Proofs.YtfmpdcmedaiooaaGreatDoor
open Go.RowKit Go.Sort
set_option maxHeartbeats 4000000 in
set_option maxRecDepth 100000 in
theorem toJSON_one {v : V} {t : ByteArray} (hv : valid v = true) (hr : rng v) (ht : t = ⟨(txt v).toArray⟩) (ho : okS t = true) (h4 : t.size ≤ 4096) (cs : List Value) (w : World) (hT : TabS w) (h : Lies w (· < w.heap.size) v cs) :
    Calls Tryz.prog 7 #[.agg cs.toArray] w (RetPost (strV t) 0 w) := by
  have HV := Lib.hid (fun W (hW : Below w.heap.size w W) => valid_any v cs W (below_lies hW h))
  rw [hv] at HV
  have HTX := Lib.hid (fun W (hW : Below w.heap.size w W) => wText_any v cs W (below_lies hW h) hr (hT.next hW))
  rw [← ht] at HTX
  have HS := Lib.hid (fun W => ret_open (show Calls Tryz.prog 17 #[.string t] W (RetPost (strV t) 0 W) by have := str_any t W (by omega); rw [(str_ok ho h4).1, (str_ok ho h4).2] at this; exact this))
  clear hv hr ht ho h4 hT
  obtain ⟨k, n, s, ks, es⟩ := v
  obtain ⟨A, a, B, b, xs, rfl, _⟩ := lies_open h
  clear h
  have H0 := Lib.hid (Bv.start w #[.int .i64 k, .int .i64 n, .string s, .slice A ks.length a, .slice B es.length b])
  go_enter Tryz.func7, Tryz.ntmps7
  go_wp2_with fail
  refine (HV.out _ H0.out.below).mono ?_
  rintro e1 w1 ⟨rfl, hb1⟩
  have H1 := Lib.hid (H0.out.next hb1)
  clear hb1
  obtain ⟨t0, t1, t2, t3, t4⟩ := box5 H1.out.x
  go_wp2_with fail
  refine (HTX.out _ H1.out.below).mono ?_
  rintro e2 w2 ⟨rfl, hb2⟩
  have H2 := Lib.hid (H1.out.next hb2)
  clear hb2 t0 t1 t2 t3 t4
  go_wp2_with fail
  refine (HS.out _).mono ?_
  rintro e3 w3 ⟨rk, rn, rs, rks, res, RA, ra, RC, rc, hrv, rfl, hb3, hl3⟩
  have H3 := Lib.hid (H2.out.next hb3)
  have HL := Lib.hid hl3
  have hs1 := H0.out.r.lt
  have hs2 := H2.out.r.lt
  have hs3 := H2.out.below.size
  clear hb3 hl3 hrv
  obtain ⟨y0, y1, y2, y3, y4⟩ := box5 H3.out.r
  have z0 := H3.out.r.free 0
  have z1 := H3.out.r.free 1
  have z2 := H3.out.r.free 2
  have z3 := H3.out.r.free 3
  have z4 := H3.out.r.free 4
  go_wp2_with fail
  refine bodyPost_ret (v := .tuple #[.agg #[.int .i64 rk, .int .i64 rn, .string rs, .slice RA rks.length ra, .slice RC res.length rc], .int .i64 0]) (by simp [results, Tryz.results7, go_sem, y0, y1, y2, y3, y4]) rfl ?_
  exact ret_put H3.out.below (by omega) H3.out.r.lt (HL.out.move fun b hb => ⟨⟨by omega, hb.2, by omega⟩, rfl⟩)
/-- What Explode and Implode give for a valid string. -/
theorem boom_facts {s : ByteArray} (ho : okS s = true) (hs : s.size ≤ 100) : ∃ ps : List Int, ps.length ≤ 1024 ∧ imR ps = (strV s, 0) ∧ ∀ (cs : List Value) (w : World), Lies w (· < w.heap.size) (strV s) cs →
    Calls Tryz.prog 10 #[.agg cs.toArray] w (RetPost (arrV (ps.map numV)) 0 w) := by
  have hv := valid_str ho (show s.size ≤ 4096 by omega)
  obtain ⟨xs, hx⟩ := Option.isSome_iff_exists.1 (show (runes s.data.toList).isSome = true from ho)
  have hl : xs.length ≤ 100 := by have := runes_length hx; simp at this; omega
  obtain ⟨e1, e2⟩ := encs_runes _ _ (Nat.le_refl _) xs hx
  have hto : (xs.map Int.ofNat).map Int.toNat = xs := by rw [List.map_map, show Int.toNat ∘ Int.ofNat = id from rfl, List.map_id]
  refine ⟨xs.map Int.ofNat, by simp; omega, ?_, fun cs w h => ?_⟩
  · have hc : allCp (xs.map Int.ofNat) = true := by
      unfold allCp
      rw [List.all_eq_true]
      intro z hz
      obtain ⟨r, hr, rfl⟩ := List.mem_map.1 hz
      exact e2 r hr
    have hs2 : (⟨(encs xs).toArray⟩ : ByteArray) = s := by
      rw [e1]
    unfold imR
    rw [if_pos hc, hto, hs2, (str_ok ho (by omega)).1, (str_ok ho (by omega)).2]
  · have := explode_one s xs (fun _ => hx) (by omega) cs w h
    rw [on_ok hv valid_nil] at this
    dsimp only at this
    rw [(nums_val (ps := xs.map Int.ofNat) (by simp; omega)).1, (nums_val (ps := xs.map Int.ofNat) (by simp; omega)).2] at this
    exact this
/-- Explode at a string that is not valid. -/
theorem boom_bad {s : ByteArray} (hv : valid (strV s) = false) (hs : s.size ≤ 100) (cs : List Value) (w : World) (h : Lies w (· < w.heap.size) (strV s) cs) : Calls Tryz.prog 10 #[.agg cs.toArray] w (RetPost vnull 1 w) := by
  have := explode_one s [] (fun h => by rw [hv] at h; cases h) (by omega) cs w h
  have e : onR (strV s) (strV ⟨#[]⟩) (arrR (([].map Int.ofNat).map numV), arrE (([].map Int.ofNat).map numV)) = (vnull, 1) := by
    unfold onR
    rw [if_neg (by rw [hv]; exact Bool.false_ne_true)]
  rw [e] at this
  exact this
theorem valid_okS {s : ByteArray} (h : valid (strV s) = true) : okS s = true := by
  unfold strV at h
  exact (valid_parts h).2.1
theorem cnt_small {v : V} (h : smallP 100 [v] = true) : cnt v 100 ≤ 100 := by
  unfold smallP at h
  simpa using h
set_option maxHeartbeats 20000000 in
set_option maxRecDepth 100000 in
theorem textBack_walk (s : ByteArray) (v : V) (cs : List Value) (w : World) (h : Lies w (· < w.heap.size) v cs) (hr : rng v) (hs0 : s.size ≤ 140737488355328) (hT : TabS w) (hE : ErrIn w) :
    Calls Tryz.prog 3 #[.string s, .agg cs.toArray] w fun e w' => e = .returned (.bool true) ∧ Below w.heap.size w w' := by
  have haw := Lib.hid (fun W => awake8_any W)
  have hst := Lib.hid (fun (s : ByteArray) W => str8_any s W)
  have HVA := Lib.hid (fun W (hW : Below w.heap.size w W) => valid_any v cs W (below_lies hW h))
  have HVS := Lib.hid (fun W => valid_any (strV s) (sc s) W (lies_str _ _ _ hs0))
  have HTT := Lib.hid hT
  have HEE := Lib.hid hE
  have HR := Lib.hid hr
  have HL := Lib.hid h
  unfold sc at HVS
  clear hT hE hs0 hr
  obtain ⟨V0, hV0⟩ : ∃ X, X = v := ⟨_, rfl⟩
  have HVV := Lib.hid hV0
  obtain ⟨k, n, x, ks, es⟩ := v
  obtain ⟨A, a, B, b, xs, rfl, _⟩ := lies_open h
  clear h
  have HX0 := Lib.hid (Box.laid w 25 #[.int .i64 k, .int .i64 n, .string x, .slice A ks.length a, .slice B es.length b])
  by_cases c1 : 100 < s.size
  · have d1 : decide ((s.size : Int) > 100) = true := decide_eq_true (by omega)
    have d2 : (100 : Int) < (s.size : Int) := by omega
    go_enter Tryz.func3, Tryz.ntmps3
    go_wp2_with fail
    refine (haw.out _).mono ?_
    rintro e9 w9 ⟨rfl, hb9⟩
    go_wp2_with fail
    go_ret
    exact ⟨rfl, chain (below1 _ _) hb9⟩
  have d1 : decide ((s.size : Int) > 100) = false := decide_eq_false (by omega)
  have d2 : ¬ ((100 : Int) < (s.size : Int)) := by omega
  have hsm := Lib.hid (small_any 100 [.mk k n x ks es] (some ⟨w.heap.size + 1, 0, none⟩) 1 [.int .i64 k, .int .i64 n, .string x, .slice A ks.length a, .slice B es.length b]
    ((w.alloc (.cells #[.int .i64 k, .int .i64 n, .string x, .slice A ks.length a, .slice B es.length b] 25)).alloc (.cells #[.int .i64 k, .int .i64 n, .string x, .slice A ks.length a, .slice B es.length b] 25))
    (one_row (below_lies (((Below.refl _ _).alloc (Nat.le_refl _) _).alloc (by simp) _) HL.out) (by
      have := Box.laid (w.alloc (.cells #[.int .i64 k, .int .i64 n, .string x, .slice A ks.length a, .slice B es.length b] 25)) 25 #[.int .i64 k, .int .i64 n, .string x, .slice A ks.length a, .slice B es.length b]
      simpa using this)) (by simp) (by omega) (by omega))
  obtain ⟨sm, hsmq⟩ : ∃ X, X = smallP 100 [.mk k n x ks es] := ⟨_, rfl⟩
  rw [← hsmq] at hsm
  have HSMQ := Lib.hid hsmq
  clear hsmq
  go_enter Tryz.func3, Tryz.ntmps3
  go_wp2_with fail
  refine hsm.out.mono ?_
  rintro e1 w1 ⟨rfl, hb1⟩
  have HB1 := Lib.hid (chain (((Below.refl w.heap.size w).alloc (Nat.le_refl _) (.cells #[.int .i64 k, .int .i64 n, .string x, .slice A ks.length a, .slice B es.length b] 25)).alloc (by simp) (.cells #[.int .i64 k, .int .i64 n, .string x, .slice A ks.length a, .slice B es.length b] 25)) hb1)
  have HX1 := Lib.hid ((HX0.out.alloc (.cells #[.int .i64 k, .int .i64 n, .string x, .slice A ks.length a, .slice B es.length b] 25)).below hb1 (by simp; omega))
  clear hsm hb1 HX0
  cases sm with
  | false =>
    go_wp2_with fail
    refine (haw.out _).mono ?_
    rintro e2 w2 ⟨rfl, hb2⟩
    go_wp2_with fail
    go_ret
    exact ⟨rfl, chain HB1.out hb2⟩
  | true =>
  obtain ⟨x0, x1, x2, x3, x4⟩ := box5 HX1.out
  obtain ⟨va, hva⟩ : ∃ X, X = valid (.mk k n x ks es) := ⟨_, rfl⟩
  rw [← hva] at HVA
  have HVQ := Lib.hid hva
  clear hva
  go_wp2_with fail
  refine (HVA.out _ HB1.out).mono ?_
  rintro e2 w2 ⟨rfl, hb2⟩
  have HB2 := Lib.hid (chain HB1.out hb2)
  have HX2 := Lib.hid (HX1.out.below hb2 HX1.out.lt)
  clear hb2 HB1 HX1 x0 x1 x2 x3 x4
  cases va with
  | false =>
    go_wp2_with fail
    refine (haw.out _).mono ?_
    rintro e3 w3 ⟨rfl, hb3⟩
    go_wp2_with fail
    go_ret
    exact ⟨rfl, chain HB2.out hb3⟩
  | true =>
  obtain ⟨t, ht, htz, hto, hjp⟩ := small_text HVQ.out.symm HR.out (cnt_small HSMQ.out.symm)
  have HTJ := Lib.hid (fun W (hW : Below w.heap.size w W) => str_open (toJSON_one HVQ.out.symm HR.out ht hto (by omega) _ W (HTT.out.next hW) (below_lies hW HL.out)))
  have HFJ := Lib.hid (fun W cs (hW : Below w.heap.size w W) (hl : Lies W (· < W.heap.size) (strV t) cs) => ret_open (fromJSON_one (valid_str hto (by omega)) (by omega) hjp cs W (HEE.out.next hW) hl))
  have HSM : Hid (∀ (cs ds : List Value) (W : World), Lies W (· < W.heap.size) (.mk k n x ks es) cs → Lies W (· < W.heap.size) (.mk k n x ks es) ds → Calls Tryz.prog 9 #[.agg cs.toArray, .agg ds.toArray] W fun e w' => e = .returned (.bool true) ∧ Below W.heap.size W w') := Lib.hid (fun cs ds W h1 h2 => by
    have h := same_any _ _ cs ds W h1 h2
    rw [(same_iff _ _).2 rfl] at h
    exact h)
  obtain ⟨x0, x1, x2, x3, x4⟩ := box5 HX2.out
  clear ht htz hto hjp HVA HVQ HR HTT HEE HSMQ
  go_wp2_with fail
  refine (HTJ.out _ HB2.out).mono ?_
  rintro e3 w3 ⟨A3, a3, C3, c3, rfl, hb3, hl3⟩
  obtain ⟨W3, hW3⟩ : ∃ X, X = w3.alloc (.cells #[.int .i64 4, .int .i64 0, .string t, .slice A3 0 a3, .slice C3 0 c3] 25) := ⟨_, rfl⟩
  have hb3' : Below w2.heap.size w2 W3 := by rw [hW3]; exact chain hb3 (below1 _ _)
  have HB3 := Lib.hid (chain HB2.out hb3')
  have HX3 := Lib.hid (HX2.out.below hb3' HX2.out.lt)
  have HV3 : Hid (Vx W3 w3.heap.size (strV t) [.int .i64 4, .int .i64 0, .string t, .slice A3 0 a3, .slice C3 0 c3]) := Lib.hid (by rw [hW3]; exact Vx.new hl3)
  have HW3 := Lib.hid hW3
  clear hW3 hb3 hb3' hl3 HTJ HB2 HX2 x0 x1 x2 x3 x4
  go_wp2_with fail
  rw [← HW3.out]
  refine (HFJ.out _ _ HB3.out HV3.out.lies).mono ?_
  rintro e4 w4 ⟨rk, rn, rs, rks, res, RA, ra, RC, rc, hrv, rfl, hb4, hl4⟩
  have hl4' : Lies w4 (· < w4.heap.size) (.mk k n x ks es) [.int .i64 rk, .int .i64 rn, .string rs, .slice RA rks.length ra, .slice RC res.length rc] := hl4.move fun b hb => ⟨hb.2, rfl⟩
  obtain ⟨W4, hW4⟩ : ∃ X, X = w4.alloc (.cells #[.int .i64 rk, .int .i64 rn, .string rs, .slice RA rks.length ra, .slice RC res.length rc] 25) := ⟨_, rfl⟩
  have hb4' : Below W3.heap.size W3 W4 := by rw [hW4]; exact chain hb4 (below1 _ _)
  have HB4 := Lib.hid (chain HB3.out hb4')
  have HX4 := Lib.hid (HX3.out.below hb4' HX3.out.lt)
  have HV4 : Hid (Vx W4 w4.heap.size (.mk k n x ks es) [.int .i64 rk, .int .i64 rn, .string rs, .slice RA rks.length ra, .slice RC res.length rc]) := Lib.hid (by rw [hW4]; exact Vx.new hl4')
  have HW4 := Lib.hid hW4
  clear hrv hW4 hb4 hb4' hl4 hl4' HFJ HB3 HX3 HV3
  obtain ⟨x0, x1, x2, x3, x4⟩ := box5 HX4.out
  obtain ⟨y0, y1, y2, y3, y4⟩ := box5 HV4.out.box
  have HSX := Lib.hid (HSM.out [.int .i64 k, .int .i64 n, .string x, .slice A ks.length a, .slice B es.length b] [.int .i64 rk, .int .i64 rn, .string rs, .slice RA rks.length ra, .slice RC res.length rc] W4 (below_lies HB4.out HL.out) HV4.out.lies)
  go_upto_region 5 with fail
  rw [← HW4.out]
  go_wp2_with fail
  refine HSX.out.mono ?_
  rintro e5 w5 ⟨rfl, hb5⟩
  have HB5 := Lib.hid (chain HB4.out hb5)
  clear x0 x1 x2 x3 x4 y0 y1 y2 y3 y4 hb5 HSX HSM HX4 HV4 HB4
  go_wp2_with fail
  refine (hst.out _ _).mono ?_
  rintro e6 w6 ⟨rfl, hb6⟩
  have HB6 := Lib.hid (chain HB5.out hb6)
  clear hb6 HB5
  by_cases hvs : valid (strV s) = true
  · obtain ⟨ps, hps, him, hbm⟩ := boom_facts (valid_okS hvs) (by omega)
    have HBM := Lib.hid (fun W => ret_open (hbm [.int .i64 4, .int .i64 0, .string s, .slice none 0 0, .slice none 0 0] W (lies_str _ _ _ (by omega))))
    have HIM := Lib.hid (fun W cs (hl : Lies W (· < W.heap.size) (arrV (ps.map numV)) cs) => by
      have := implode_nums ps cs W hl (arr_nums hps) hps
      rw [him] at this
      exact str_open this)
    obtain ⟨P, hP⟩ : ∃ P, arrV (ps.map numV) = P := ⟨_, rfl⟩
    rw [hP] at HBM HIM
    clear hbm him hP hvs HVS
    go_wp2_with fail
    refine (HBM.out _).mono ?_
    rintro e7 w7 ⟨qk, qn, qs, qks, qes, QA, qa, QC, qc, hqv, rfl, hb7, hl7⟩
    have hl7' : Lies w7 (· < w7.heap.size) P [.int .i64 qk, .int .i64 qn, .string qs, .slice QA qks.length qa, .slice QC qes.length qc] := hl7.move fun b hb => ⟨hb.2, rfl⟩
    obtain ⟨W7, hW7⟩ : ∃ X, X = w7.alloc (.cells #[.int .i64 qk, .int .i64 qn, .string qs, .slice QA qks.length qa, .slice QC qes.length qc] 25) := ⟨_, rfl⟩
    have hb7' : Below w6.heap.size w6 W7 := by rw [hW7]; exact chain hb7 (below1 _ _)
    have HB7 := Lib.hid (chain HB6.out hb7')
    have HV7 : Hid (Vx W7 w7.heap.size P [.int .i64 qk, .int .i64 qn, .string qs, .slice QA qks.length qa, .slice QC qes.length qc]) := Lib.hid (by rw [hW7]; exact Vx.new hl7')
    have HW7 := Lib.hid hW7
    clear hqv hW7 hb7 hb7' hl7 hl7' HB6
    go_wp2_with fail
    rw [← HW7.out]
    refine (HIM.out _ _ HV7.out.lies).mono ?_
    rintro e8 w8 ⟨A8, a8, C8, c8, rfl, hb8, hl8⟩
    have HB8 := Lib.hid (chain HB7.out (chain hb8 (below1 w8 (.cells #[.int .i64 4, .int .i64 0, .string s, .slice A8 0 a8, .slice C8 0 c8] 25))))
    have HX8 := Lib.hid (Box.laid w8 25 #[.int .i64 4, .int .i64 0, .string s, .slice A8 0 a8, .slice C8 0 c8])
    obtain ⟨x0, x1, x2, x3, x4⟩ := box5 HX8.out
    have f1 : (s.toList == s.toList) = true := by simp
    clear hb8 hl8
    go_wp2_with fail
    refine (haw.out _).mono ?_
    rintro e9 w9 ⟨rfl, hb9⟩
    go_wp2_with fail
    go_ret
    exact ⟨rfl, chain HB8.out hb9⟩
  · have hvf : valid (strV s) = false := by simpa using hvs
    have HBM := Lib.hid (fun W => ret_open (boom_bad hvf (by omega) [.int .i64 4, .int .i64 0, .string s, .slice none 0 0, .slice none 0 0] W (lies_str _ _ _ (by omega))))
    rw [hvf] at HVS
    clear hvf hvs
    go_wp2_with fail
    refine (HBM.out _).mono ?_
    rintro e7 w7 ⟨qk, qn, qs, qks, qes, QA, qa, QC, qc, hqv, rfl, hb7, hl7⟩
    have HB7 := Lib.hid (chain HB6.out (chain hb7 (below1 w7 (.cells #[.int .i64 qk, .int .i64 qn, .string qs, .slice QA qks.length qa, .slice QC qes.length qc] 25))))
    clear hqv hb7 hl7 HB6
    go_wp2_with fail
    refine (hst.out _ _).mono ?_
    rintro e8 w8 ⟨rfl, hb8⟩
    have HB8 := Lib.hid (chain HB7.out hb8)
    clear hb8 HB7
    go_wp2_with fail
    refine (HVS.out _).mono ?_
    rintro e9 w9 ⟨rfl, hb9⟩
    have HB9 := Lib.hid (chain HB8.out hb9)
    clear hb9 HB8
    go_wp2_with fail
    refine (haw.out _).mono ?_
    rintro e10 w10 ⟨rfl, hb10⟩
    go_wp2_with fail
    go_ret
    exact ⟨rfl, chain HB9.out hb10⟩
end Go.Proofs.YtfmpdcmedaiooaaGreatDoor
