/- JsonwriteParts answers true for every list of values and every string. -/
import Derived.Test.YtacnpligpbiamaaDoorG14
import Derived.Test.YtacnpligpbiamaaDoorG20
import Derived.Test.YtacnpligpbiamaaDoorG6
import Derived.Test.YtacnpligpbiamaaDoorG19
import Derived.Test.YtacnpligpbiamaaDoorJt
set_option linter.unusedVariables false
set_option linter.unusedSimpArgs false
namespace Go.Proofs.YtacnpligpbiamaaDoor
open Go.RowKit
theorem arr_ok {l : List V} (h : arrE l = 0) : arrR l = arrV l ∧ valid (arrV l) = true ∧ ∀ e ∈ l, valid e = true := by
  unfold arrE at h
  unfold arrR
  by_cases h1 : l.all valid = true
  · rw [if_pos h1] at h ⊢
    unfold finE at h
    unfold finV
    by_cases h2 : valid (arrV l) = true
    · rw [if_pos h2]
      exact ⟨rfl, h2, List.all_eq_true.1 h1⟩
    · rw [if_neg h2] at h
      exact absurd h (by decide)
  · rw [if_neg h1] at h
    exact absurd h (by decide)
theorem srt_one (m : Mb) : srt [m] = [m] := by
  have h1 := srt_len [m]
  have h2 := srt_filter [m] m.key
  match hs : srt [m], h1 with
  | [x], _ =>
    rw [hs] at h2
    by_cases hx : x.key = m.key
    · simpa [hx] using h2
    · simp [hx] at h2
theorem obj_one_ok {m : Mb} (h : objE [m] = 0) : objR [m] = objV [m] ∧ valid (objV [m]) = true := by
  unfold objE at h
  unfold objR
  rw [srt_one] at h ⊢
  by_cases h1 : ([m].map Mb.v).all valid = true
  · rw [if_pos h1] at h ⊢
    by_cases h2 : ([m].map Mb.key).all okS = true
    · rw [if_pos h2] at h ⊢
      unfold finE at h
      unfold finV
      have e : lastOf [m] = [m] := by simp [lastOf]
      rw [e] at h ⊢
      by_cases h3 : valid (objV [m]) = true
      · rw [if_pos h3]
        exact ⟨rfl, h3⟩
      · rw [if_neg h3] at h
        exact absurd h (by decide)
    · rw [if_neg h2] at h
      exact absurd h (by decide)
  · rw [if_neg h1] at h
    exact absurd h (by decide)
theorem txt_arr {l : List V} (h : valid (arrV l) = true) : txt (arrV l) = 91 :: (commas (wrM l) ++ [93]) := by
  unfold txt
  rw [if_pos h]
  unfold arrV
  rw [wr_arr]
theorem txt_val {e : V} (h : valid e = true) : txt e = wr e := by unfold txt; rw [if_pos h]
theorem txt_obj {m : Mb} (h : valid (objV [m]) = true) (h2 : valid m.v = true) : txt (objV [m]) = 123 :: (qt m.key.data.toList ++ 58 :: txt m.v ++ [125]) := by
  rw [txt_val h, txt_val h2]
  unfold objV
  simp only [List.map_cons, List.map_nil]
  rw [wr_obj, mems_map]
  simp [commas, mem]
theorem rng_arr {l : List V} (h : ∀ e ∈ l, rng e) : rng (arrV l) := by
  unfold arrV
  rw [rng, rngL_iff]
  exact ⟨by unfold in64; omega, h⟩
theorem rng_obj {m : Mb} (h : rng m.v) : rng (objV [m]) := by
  unfold objV
  rw [rng, rngL_iff]
  exact ⟨by unfold in64; omega, by simpa using h⟩
theorem size_cat (a b : ByteArray) : (a ++ b).size = a.size + b.size := by simp
theorem data_cat (a b : ByteArray) : (a ++ b).data.toList = a.data.toList ++ b.data.toList := by rw [ByteArray.data_append, Array.toList_append]
theorem str_ext {a b : ByteArray} (h : a.data.toList = b.data.toList) : a = b := ByteArray.ext (Array.toList_inj.1 h)
theorem len_data (a : ByteArray) : a.data.toList.length = a.size := by simp
theorem obj_one_any (s : ByteArray) (l : List V) (A1 C1 : Option Addr) (a1 c1 g1 g2 : Nat) (w : World) (h1 : Box w g1 9 #[.string s]) (h2 : Box w g2 35 #[.int .i64 5, .int .i64 0, .string ⟨#[]⟩, .slice A1 0 a1, .slice C1 l.length c1]) (hl : Lies w (· < w.heap.size) (arrV l) [.int .i64 5, .int .i64 0, .string ⟨#[]⟩, .slice A1 0 a1, .slice C1 l.length c1]) (hs : s.size ≤ 140737488355328) :
    Calls Tryd.prog 24 #[.slice (some ⟨g1, 0, none⟩) 1 1, .slice (some ⟨g2, 0, none⟩) 1 1] w (RetPost (objR [⟨s, 5, 0, ⟨#[]⟩, [], l, A1, a1, C1, c1⟩]) (objE [⟨s, 5, 0, ⟨#[]⟩, [], l, A1, a1, C1, c1⟩]) w) := by
  refine obj_any [⟨s, 5, 0, ⟨#[]⟩, [], l, A1, a1, C1, c1⟩] (some ⟨g1, 0, none⟩) (some ⟨g2, 0, none⟩) 1 1 [.int .i64 5, .int .i64 0, .string ⟨#[]⟩, .slice A1 0 a1, .slice C1 l.length c1] w (rs_boxW (cs := kv [s]) h1 h1.lt) ⟨rs_boxW (cs := [.int .i64 5, .int .i64 0, .string ⟨#[]⟩, .slice A1 0 a1, .slice C1 l.length c1]) h2 h2.lt, ?_⟩ ?_ (by simp) (by simpa using hs)
  · show LiesL w _ [arrV l] _
    rw [LiesL]
    exact ⟨_, [], by simp, hl, by rw [LiesL]⟩
  · intro i m hm
    match i, hm with
    | 0, hm =>
      simp at hm
      subst hm
      exact ⟨⟨g2, 0, rfl, h2.lt, h2.cell rfl, h2.cell rfl, h2.cell rfl, h2.cell rfl, h2.cell rfl⟩, hl⟩
    | n + 1, hm => simp at hm
set_option maxHeartbeats 8000000 in
set_option maxRecDepth 100000 in
theorem jparts_walk (A : Option Addr) (c : Nat) (l : List V) (xs : List Value) (s : ByteArray) (w : World) (hl : SliceV w A c l xs) (hr : ∀ e ∈ l, rng e) (ht : TabS w) (hs : s.size ≤ 140737488355328) :
    Calls Tryd.prog 7 #[.slice A l.length c, .string s] w fun e w' => e = .returned (.bool true) ∧ Below w.heap.size w w' := by
  have haw := Lib.hid (fun W (hW : Below w.heap.size w W) => awake5_any W (ht.next hW))
  have HSV := Lib.hid (fun W (hW : Below w.heap.size w W) => (⟨hl.row.below hW, hl.nil, hl.le, hl.cap, hl.lim⟩ : SliceV W A c l xs))
  have HTA := Lib.hid (fun W (hW : Below w.heap.size w W) => ht.next hW)
  have HRR := Lib.hid (rng_arr hr)
  have HR := Lib.hid hr
  have hlim := hl.lim
  clear hl hr ht
  by_cases h10 : 10 < l.length
  · have hq : decide (10 < l.length) = true := by simpa using h10
    have HA := Lib.hid (haw.out w (Below.refl _ _))
    go_enter Tryd.func7, Tryd.ntmps7
    go_wp2_with (go_at_call 15; refine HA.out.mono ?_; rintro e w1 ⟨rfl, hb1⟩)
    go_ret
    exact ⟨rfl, hb1⟩
  have h10' : l.length ≤ 10 := by omega
  have HSM := Lib.hid (small_any 50 l A c xs w (HSV.out w (Below.refl _ _)).row hlim (by omega) (by omega))
  generalize smallP 50 l = sm at HSM
  go_enter Tryd.func7, Tryd.ntmps7
  go_wp2_with fail
  refine HSM.out.mono ?_
  rintro e1 w1 ⟨rfl, hb1⟩
  have HB1 := Lib.hid hb1
  clear hb1 HSM
  cases sm with
  | false =>
    go_wp2_with (go_at_call 15; refine (haw.out _ HB1.out).mono ?_; rintro e w2 ⟨rfl, hb2⟩)
    go_ret
    exact ⟨rfl, chain HB1.out hb2⟩
  | true =>
    by_cases h50 : 50 < s.size
    · have hq : decide (50 < s.size) = true := by simpa using h50
      go_wp2_with (go_at_call 15; refine (haw.out _ HB1.out).mono ?_; rintro e w2 ⟨rfl, hb2⟩)
      go_ret
      exact ⟨rfl, chain HB1.out hb2⟩
    have h50' : s.size ≤ 50 := by omega
    have HV := Lib.hid (rval_any s (by omega) w1)
    generalize (runes s.data.toList).isSome = sv at HV
    go_wp2_with fail
    refine HV.out.mono ?_
    rintro e2 w2 ⟨rfl, hb2⟩
    have HB2 := Lib.hid (chain HB1.out hb2)
    clear hb2 HV
    cases sv with
    | false =>
      go_wp2_with (go_at_call 15; refine (haw.out _ HB2.out).mono ?_; rintro e w3 ⟨rfl, hb3⟩)
      go_ret
      exact ⟨rfl, chain HB2.out hb3⟩
    | true =>
      have HARR := Lib.hid (ret_open (arr_any l A c xs w2 (HSV.out w2 HB2.out)))
      go_wp2_with fail
      refine HARR.out.mono ?_
      clear HARR
      rintro e3 w3 ⟨k, n, s', ks, es, A1, a1, C1, c1, hve, rfl, hb3, hl3⟩
      have HB3 := Lib.hid (chain HB2.out hb3)
      have HL3 := Lib.hid (hl3.move fun b hb => (⟨hb.2, rfl⟩ : b < w3.heap.size ∧ w3.heap[b]? = w3.heap[b]?))
      have HVE := Lib.hid hve
      clear hb3 hl3 hve
      by_cases h0 : arrE l = 0
      · obtain ⟨ha1, ha2, ha3⟩ := arr_ok h0
        have hve := HVE.out
        rw [ha1] at hve
        unfold arrV at hve
        injection hve with e1 e2 e3 e4 e5
        subst e1 e2 e3 e4 e5
        rw [ha1] at HL3
        have HVA := Lib.hid ha2
        have HVL := Lib.hid ha3
        rw [h0]
        simp only [List.length_nil] at HL3
        clear ha1 ha2 ha3 h0 HVE
        have HTX := Lib.hid (txt_arr HVA.out)
        have HTL := Lib.hid (txt_len HRR.out)
        go_wp2_with fail
        go_loopw [7, 8] (fun t7 t8 wr => ∃ (S : ByteArray) (i : Nat), t7 = .string S ∧ t8 = .int .i64 i ∧ i ≤ l.length ∧ Hid (S.data.toList = 91 :: commas ((wrM l).take i)) ∧ Below w3.heap.size w3 wr ∧ Box wr w3.heap.size 35 #[.int .i64 5, .int .i64 0, .string ⟨#[]⟩, .slice A1 0 a1, .slice C1 l.length c1]) (fun _ t8 _ => l.length - (intOf t8).toNat)
        case atStart => exact ⟨_, 0, rfl, rfl, Nat.zero_le _, Lib.hid (by simp [commas]), below1 _ _, Box.laid w3 _ _⟩
        case round =>
          obtain ⟨S, i, rfl, rfl, hil, HS, hbel, hbx⟩ := hrel
          have HBE := Lib.hid hbel
          have HX := Lib.hid hbx
          have hss : S.size ≤ 600000 := by
            have h1 := commas_take_le (wrM l) i
            have h2 := HTL.out
            rw [HTX.out] at h2
            have h3 := len_data S
            rw [HS.out] at h3
            simp only [List.length_cons, List.length_append, List.length_nil] at h2 h3
            omega
          clear hbel hbx
          by_cases hlt : i < l.length
          · obtain ⟨e, he⟩ : ∃ e, l[i]? = some e := ⟨_, List.getElem?_eq_getElem hlt⟩
            have hmem := List.mem_of_getElem? he
            have hve := HVL.out e hmem
            have hstep := piece (wrM_at he)
            have HWB := Lib.hid (chain HB3.out HBE.out)
            have hsv := HSV.out wr HWB.out
            obtain ⟨TE, hTE⟩ : ∃ T : ByteArray, ⟨(txt e).toArray⟩ = T := ⟨_, rfl⟩
            have hts : TE.size ≤ 600000 := by
              have h1 := txt_len (HR.out e hmem)
              rw [← hTE]
              simpa [ByteArray.size] using h1
            have hTd : TE.data.toList = Go.Proofs.YtacnpligpbiamaaDoor.wr e := by rw [← hTE, txt_val hve]
            have hrng := HR.out e hmem
            obtain ⟨k', n', s9, ks', fs'⟩ := e
            obtain ⟨b0, o0, A3, a3, C3, c3, hBe, hS, hl5, p0, p1, p2, p3, p4⟩ := elem_open hsv.row.rs hsv.row.lies he
            subst hBe
            have HTT := Lib.hid (wText_any _ _ wr hl5 hrng (HTA.out wr HWB.out))
            rw [hTE] at HTT
            generalize V.mk k' n' s9 ks' fs' = e at hTd hstep HTT
            generalize ks'.length = lk at HTT p3
            generalize fs'.length = lf at HTT p4
            have HTD := Lib.hid hTd
            have HST := Lib.hid hstep
            clear hve hTE hTd hstep hsv hl5 hS he hmem hrng
            by_cases hi0 : i = 0
            · subst hi0
              simp only [Nat.zero_mul, Nat.add_zero] at p0 p1 p2 p3 p4
              obtain ⟨S2, hS2⟩ : ∃ X, S ++ TE = X := ⟨_, rfl⟩
              have HN : Hid (S2.data.toList = 91 :: commas ((wrM l).take 1)) := Lib.hid (by
                rw [← hS2, data_cat, HS.out, HTD.out, HST.out]
                simp [commas])
              go_wp2_with (go_at_call 17; refine HTT.out.mono ?_; rintro e4 w4 ⟨rfl, hb4⟩; have hb4' := chain HBE.out hb4; have hx4 := HX.out.below hb4 HX.out.lt; clear hb4)
              go_roundw
              case rel => exact ⟨S2, 1, rfl, by first | rfl | go_num, by omega, HN, hb4', hx4⟩
              case measure => simp [intOf]; omega
            · have hq0 : decide ((0 : Int) < (i : Int)) = true := by simp; omega
              have hq1 : decide (0 < i) = true := by simp; omega
              obtain ⟨S1, hS1⟩ : ∃ X, S ++ ⟨#[44]⟩ = X := ⟨_, rfl⟩
              obtain ⟨S2, hS2⟩ : ∃ X, S1 ++ TE = X := ⟨_, rfl⟩
              have hs1 : S1.size ≤ 600001 := by
                have e1 : (⟨#[44]⟩ : ByteArray).size = 1 := rfl
                rw [← hS1, size_cat, e1]; omega
              have HN : Hid (S2.data.toList = 91 :: commas ((wrM l).take (i + 1))) := Lib.hid (by
                have e1 : (⟨#[44]⟩ : ByteArray).data.toList = [44] := rfl
                rw [← hS2, ← hS1, data_cat, data_cat, HS.out, HTD.out, HST.out, e1, if_neg hi0]
                simp)
              go_wp2_with (go_at_call 17; refine HTT.out.mono ?_; rintro e4 w4 ⟨rfl, hb4⟩; have hb4' := chain HBE.out hb4; have hx4 := HX.out.below hb4 HX.out.lt; clear hb4)
              go_roundw
              case rel => exact ⟨S2, i + 1, rfl, by first | rfl | go_num, by omega, HN, hb4', hx4⟩
              case measure => simp [intOf]; omega
          · have hie : i = l.length := by omega
            have hSd : S.data.toList = 91 :: commas (wrM l) := by
              have h1 := HS.out
              rwa [hie, ← wrM_len, List.take_length] at h1
            obtain ⟨SV, hSV⟩ : ∃ X : ByteArray, ⟨(txt (arrV l)).toArray⟩ = X := ⟨_, rfl⟩
            have hcv : S ++ ⟨#[93]⟩ = SV := by
              refine str_ext ?_
              have e1 : (⟨#[93]⟩ : ByteArray).data.toList = [93] := rfl
              rw [data_cat, hSd, e1, ← hSV]
              show _ = txt (arrV l)
              rw [HTX.out]
              simp
            have HTV := Lib.hid (fun W (hW : Below w3.heap.size w3 W) => wText_any (arrV l) _ W (below_lies hW HL3.out) HRR.out (HTA.out W (chain HB3.out hW)))
            rw [hSV] at HTV
            have HLW := Lib.hid (below_lies HBE.out HL3.out)
            obtain ⟨WB, hWB⟩ : ∃ X, X = (wr.alloc (.cells #[.string s] 9)).alloc (.cells #[.int .i64 5, .int .i64 0, .string ⟨#[]⟩, .slice A1 0 a1, .slice C1 l.length c1] 35) := ⟨_, rfl⟩
            have HWBB := Lib.hid (show Below wr.heap.size wr WB by rw [hWB]; exact ((Below.refl _ _).alloc (Nat.le_refl _) _).alloc (by simp) _)
            have HOB := Lib.hid (ret_open (obj_one_any s l A1 C1 a1 c1 wr.heap.size (wr.heap.size + 1) WB (by rw [hWB]; exact (Box.laid wr _ _).alloc _) (by rw [hWB]; exact box_new _ _ _ _ (by simp)) (below_lies HWBB.out HLW.out) hs))
            have HWBE := Lib.hid hWB
            obtain ⟨t0, t1, t2, t3, t4⟩ := box5 HX.out
            have hlt5 := HX.out.lt
            clear hie hWB hSV
            go_wp2_with fail
            rw [← HWBE.out]
            refine HOB.out.mono ?_
            clear HOB
            rintro e5 w5 ⟨k2, n2, s2, ks2, es2, A2, a2, C2, c2, hve2, rfl, hb5, hl5⟩
            have HB5 := Lib.hid (chain HBE.out (chain HWBB.out hb5))
            have HX5 := Lib.hid (HX.out.below (chain HWBB.out hb5) HX.out.lt)
            have HL5 := Lib.hid (hl5.move fun b hb => (⟨hb.2, rfl⟩ : b < w5.heap.size ∧ w5.heap[b]? = w5.heap[b]?))
            clear hb5 hl5 hve2 t0 t1 t2 t3 t4
            generalize ks2.length = lk2 at HL5 ⊢
            generalize es2.length = lf2 at HL5 ⊢
            have HX6 := Lib.hid (HX5.out.alloc (.cells #[.int .i64 k2, .int .i64 n2, .string s2, .slice A2 lk2 a2, .slice C2 lf2 c2] 35))
            have HY6 := Lib.hid (Box.laid w5 35 #[.int .i64 k2, .int .i64 n2, .string s2, .slice A2 lk2 a2, .slice C2 lf2 c2])
            have HBA := Lib.hid (chain HB5.out (below1 w5 (.cells #[.int .i64 k2, .int .i64 n2, .string s2, .slice A2 lk2 a2, .slice C2 lf2 c2] 35)))
            by_cases hf : objE [⟨s, 5, 0, ⟨#[]⟩, [], l, A1, a1, C1, c1⟩] = 0
            · obtain ⟨ho1, ho2⟩ := obj_one_ok hf
              rw [ho1] at HL5
              have hto := txt_obj ho2 HVA.out
              have HTO := Lib.hid (fun W (hW : Below w5.heap.size w5 W) => wText_any (objV [⟨s, 5, 0, ⟨#[]⟩, [], l, A1, a1, C1, c1⟩]) _ W (below_lies hW HL5.out) (rng_obj (m := ⟨s, 5, 0, ⟨#[]⟩, [], l, A1, a1, C1, c1⟩) HRR.out) (HTA.out W (chain HB3.out (chain HB5.out hW))))
              have HQ := Lib.hid (fun W (hW : Below w.heap.size w W) => wQuote_any s (by omega) W (HTA.out W hW))
              obtain ⟨Q, hQ⟩ : ∃ X : ByteArray, ⟨(qt s.data.toList).toArray⟩ = X := ⟨_, rfl⟩
              obtain ⟨TO, hTO⟩ : ∃ X : ByteArray, ⟨(txt (objV [⟨s, 5, 0, ⟨#[]⟩, [], l, A1, a1, C1, c1⟩])).toArray⟩ = X := ⟨_, rfl⟩
              rw [hQ] at HQ
              rw [hTO] at HTO
              have hQd : Q.data.toList = qt s.data.toList := by rw [← hQ]
              have hQs : Q.size ≤ 400 := by
                have h1 := (qt_len s.data.toList).2
                have h2 := len_data Q
                rw [hQd] at h2
                have h3 := len_data s
                omega
              obtain ⟨X1, hX1⟩ : ∃ X, (⟨#[123]⟩ : ByteArray) ++ Q = X := ⟨_, rfl⟩
              obtain ⟨X2, hX2⟩ : ∃ X, X1 ++ ⟨#[58]⟩ = X := ⟨_, rfl⟩
              obtain ⟨X3, hX3⟩ : ∃ X, X2 ++ S = X := ⟨_, rfl⟩
              have z1 : X1.size ≤ 401 := by
                have e1 : (⟨#[123]⟩ : ByteArray).size = 1 := rfl
                rw [← hX1, size_cat, e1]; omega
              have z2 : X2.size ≤ 402 := by
                have e1 : (⟨#[58]⟩ : ByteArray).size = 1 := rfl
                rw [← hX2, size_cat, e1]; omega
              have z3 : X3.size ≤ 600402 := by rw [← hX3, size_cat]; omega
              have hX4 : X3 ++ ⟨#[93, 125]⟩ = TO := by
                refine str_ext ?_
                have e1 : (⟨#[123]⟩ : ByteArray).data.toList = [123] := rfl
                have e2 : (⟨#[58]⟩ : ByteArray).data.toList = [58] := rfl
                have e3 : (⟨#[93, 125]⟩ : ByteArray).data.toList = [93, 125] := rfl
                rw [data_cat, ← hX3, data_cat, ← hX2, data_cat, ← hX1, data_cat, hSd, hQd, e1, e2, e3, ← hTO]
                show _ = txt _
                rw [hto]
                have e4 : txt (Mb.v ⟨s, 5, 0, ⟨#[]⟩, [], l, A1, a1, C1, c1⟩) = 91 :: (commas (wrM l) ++ [93]) := HTX.out
                rw [e4]
                simp
              rw [hf]
              clear ho1 ho2 hto hQ hTO hQd hSd hf
              obtain ⟨t0, t1, t2, t3, t4⟩ := box5 HX6.out
              go_wp2_with fail
              refine (HTV.out _ HBA.out).mono ?_
              rintro e6 w6 ⟨rfl, hb6⟩
              have HBC := Lib.hid (chain HBA.out hb6)
              have HB56 := Lib.hid (chain (below1 w5 _) hb6)
              clear t0 t1 t2 t3 t4
              obtain ⟨t0, t1, t2, t3, t4⟩ := box5 (HY6.out.below hb6 HY6.out.lt)
              clear hb6
              go_wp2_with fail
              refine (HTO.out _ HB56.out).mono ?_
              rintro e7 w7 ⟨rfl, hb7⟩
              have HBD := Lib.hid (chain HB3.out (chain HBC.out hb7))
              clear hb7 t0 t1 t2 t3 t4
              go_wp2_with (first
                | (go_at_call 20; refine (HQ.out _ HBD.out).mono ?_; rintro e8 w8 ⟨rfl, hb8⟩; have HBF := Lib.hid (chain HBD.out hb8); clear hb8)
                | (go_at_call 15; refine (haw.out _ HBF.out).mono ?_; rintro e9 w9 ⟨rfl, hb9⟩))
              go_ret
              exact ⟨rfl, chain HBF.out hb9⟩
            · have hq : (objE [⟨s, 5, 0, ⟨#[]⟩, [], l, A1, a1, C1, c1⟩] != 0) = true := by simpa using hf
              generalize objE [⟨s, 5, 0, ⟨#[]⟩, [], l, A1, a1, C1, c1⟩] = er at hq
              obtain ⟨t0, t1, t2, t3, t4⟩ := box5 HX6.out
              clear hf hSd
              go_wp2_with fail
              refine (HTV.out _ HBA.out).mono ?_
              rintro e6 w6 ⟨rfl, hb6⟩
              have HBC := Lib.hid (chain HB3.out (chain HBA.out hb6))
              clear hb6 t0 t1 t2 t3 t4
              go_wp2_with fail
              refine (haw.out _ HBC.out).mono ?_
              rintro e7 w7 ⟨rfl, hb7⟩
              go_wp2_with fail
              go_ret
              exact ⟨rfl, chain HBC.out hb7⟩
      · have hq : (arrE l != 0) = true := by simpa using h0
        generalize arrE l = er at hq
        go_wp2_with (go_at_call 15; refine (haw.out _ (chain HB3.out (below1 _ _))).mono ?_; rintro e w4 ⟨rfl, hb4⟩)
        go_ret
        exact ⟨rfl, chain HB3.out (chain (below1 _ _) hb4)⟩
end Go.Proofs.YtacnpligpbiamaaDoor
