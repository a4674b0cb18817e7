/- The reference's measure. The program's Equal, Truthy, TypeName. The reference's Valid, Nodes, Truthy, TypeName, Depth. -/
import Derived.Test.YtgdnkankleoaoaaGreatDoorA02
import Derived.Test.YtgdnkankleoaoaaGreatDoorA13
import Derived.Test.YtgdnkankleoaoaaGreatDoorA03
import Derived.Test.YtgdnkankleoaoaaGreatDoorA14
import Derived.Test.YtgdnkankleoaoaaGreatDoorA05
import Derived.Deep.DeepCutAuto
import Derived.Deep.RegionHeld3
import Derived.Deep.Light
import Derived.Test.YtgdnkankleoaoaaGreatDoorA06
import Derived.Test.YtgdnkankleoaoaaGreatDoorA07
set_option linter.unusedVariables false
set_option linter.unusedSimpArgs false
namespace Go.Proofs.YtgdnkankleoaoaaGreatDoor
open Go.RowKit
def rmV : Option (Int × Int) → Value
  | none => .tuple #[.int .i64 0, .int .i64 0, .bool false]
  | some (m, b) => .tuple #[.int .i64 m, .int .i64 b, .bool true]
def RmOk (v : V) : Prop := ∀ (lv : Int) (cs : List Value) (w : World), Lies w (· < w.heap.size) v cs → 0 ≤ lv → lv ≤ 1000000 →
  Calls Tryz.prog 197 #[.agg cs.toArray, .int .i64 lv] w fun e w' => e = .returned (rmV (rmP v lv)) ∧ Below w.heap.size w w'
theorem nest_of {k n lv : Int} {s : ByteArray} {nk ne : Nat} (h1 : fit1 k n s nk ne = true) (h2 : fit2 k lv s nk ne = true) : ne ≤ 0 ∨ lv ≤ 31 := by
  simp [fit1] at h1
  simp [fit2] at h2
  omega
theorem rmL_none {es : List V} {i : Nat} {e : V} (he : es[i]? = some e) {lv m b : Int} (h : rmP e (lv + 1) = none) : rmL (es.drop i) lv m b = none := by
  obtain ⟨hl, rfl⟩ := List.getElem?_eq_some_iff.1 he
  rw [List.drop_eq_getElem_cons hl, rmL, h]
theorem rmL_some {es : List V} {i : Nat} {e : V} (he : es[i]? = some e) {lv m b m' b' : Int} (h : rmP e (lv + 1) = some (m', b')) : rmL (es.drop i) lv m b = if 4096 < m + m' ∨ 65536 < b + b' then none else rmL (es.drop (i + 1)) lv (m + m') (b + b') := by
  obtain ⟨hl, rfl⟩ := List.getElem?_eq_some_iff.1 he
  rw [List.drop_eq_getElem_cons hl, rmL, h]
theorem rkeys_bad {ks : List ByteArray} {i : Nat} {x : ByteArray} {b : Int} (h : ks[i]? = some x) (hk : keyOk x = false) : rkeys (ks.drop i) (prevK ks i) b = none := by
  obtain ⟨hl, rfl⟩ := List.getElem?_eq_some_iff.1 h
  rw [List.drop_eq_getElem_cons hl]
  cases prevK ks i with
  | none => rw [rkeys, hk]; rfl
  | some p => rw [rkeys, hk]; rfl
theorem rkeys_first {ks : List ByteArray} {x : ByteArray} {b : Int} (h : ks[0]? = some x) (hk : keyOk x = true) : rkeys (ks.drop 0) (prevK ks 0) b = rkeys (ks.drop 1) (prevK ks 1) (b + x.size) := by
  rw [prevK_succ h]
  obtain ⟨hl, rfl⟩ := List.getElem?_eq_some_iff.1 h
  rw [List.drop_eq_getElem_cons hl, show prevK ks 0 = none from rfl, rkeys, if_pos hk]
theorem rkeys_next {ks : List ByteArray} {i : Nat} {p x : ByteArray} {b : Int} (hi : 0 < i) (hp : ks[i - 1]? = some p) (h : ks[i]? = some x) (hk : keyOk x = true) :
    rkeys (ks.drop i) (prevK ks i) b = if scmp p x < 0 then rkeys (ks.drop (i + 1)) (prevK ks (i + 1)) (b + x.size) else none := by
  rw [prevK_succ h]
  obtain ⟨hl, rfl⟩ := List.getElem?_eq_some_iff.1 h
  rw [List.drop_eq_getElem_cons hl, prevK, if_neg (by omega), hp, rkeys, if_pos hk]
set_option maxHeartbeats 4000000 in
set_option maxRecDepth 100000 in
theorem rm_any : ∀ v : V, RmOk v := by
  refine V.ind fun k n s ks es ih lv cs w h l0 l1 => ?_
  have hf := lies_fit _ _ h
  rw [V.Fit] at hf
  obtain ⟨h1, h2, h3, h4, _⟩ := hf
  obtain ⟨A, a, B, bb, xs, rfl, hAn, hBn, ⟨ha1, ha2⟩, ⟨hb1, hb2⟩, hA, hB, hL⟩ := lies_open h
  have HA := Lib.hid hA
  have HB := Lib.hid hB
  have HL := Lib.hid hL
  have IH := Lib.hid ih
  have H2 := Lib.hid h2
  clear hA hB hL ih h2 h hAn hBn
  generalize hq : rmP (.mk k n s ks es) lv = r
  have HQ := Lib.hid hq
  have hse := size_empty s
  clear hq
  show Calls _ _ #[.agg #[.int .i64 k, .int .i64 n, .string s, .slice A ks.length a, .slice B es.length bb], .int .i64 lv] w _
  go_enter Tryz.func197, Tryz.ntmps197
  go_upto_region 1 with fail
  go_cut [63] (fun t w' => t = .bool (! fit1 k n s ks.length es.length) ∧ w' = w.alloc (.cells #[.int .i64 k, .int .i64 n, .string s, .slice A ks.length a, .slice B es.length bb] 25))
  case first =>
    as_aux_lemma =>
      go_wp2
      all_goals
        clear HQ HA HB HL IH H2
        subst_vars
        go_meet
        case rel => exact ⟨by simp_all [fit1, natz, nateq, ← Int.not_le, List.length_pos_iff], rfl⟩
  case rest =>
    obtain ⟨rfl, rfl⟩ := hcut
    cases hf1 : fit1 k n s ks.length es.length with
    | false =>
      have hr : Hid (none = r) := Lib.hid (by rw [← HQ.out, rmP, if_pos hf1])
      clear hf1
      go_wp2_with fail
      go_ret3
      exact ⟨by rw [← hr.out]; rfl, (Below.refl _ _).alloc (Nat.le_refl _) _⟩
    | true =>
      have HF1 := Lib.hid hf1
      clear hf1
      go_wp2_with fail
      go_quiet (fail)
      go_upto_region 4 with fail
      go_cut [105] (fun t w' => t = .bool (! fit2 k lv s ks.length es.length) ∧ Below (w.heap.size + 1) (w.alloc (.cells #[.int .i64 k, .int .i64 n, .string s, .slice A ks.length a, .slice B es.length bb] 25)) w')
      case first =>
        by_cases hsz : s.size ≤ 4096
        · have hv := Lib.hid (fun W => rval_any s (by omega) W)
          have hok : Hid ((runes s.data.toList).isSome = okS s) := Lib.hid rfl
          rw [hok.out] at hv
          cases hq : okS s with
          | true =>
            rw [hq] at hv
            rcases fit2_cls k lv s ks.length es.length hsz hq with ⟨c1, hfv⟩ | ⟨c1, c2, c3, c4, hfv⟩ | ⟨c1, c2, c3, c4, c5, hfv⟩ | ⟨c1, c2, c3, c4, c5, hfv⟩ | ⟨c1, c2, c3, c4, hfv⟩ | ⟨c1, c2, c3, c4, hfv⟩ | ⟨c1, c2, c3, hfv⟩
            all_goals
              as_aux_lemma =>
                have HFV := Lib.hid hfv
                clear hfv hq
                go_wp2_with fail
                refine (hv.out _).mono ?_
                rintro e' w' ⟨rfl, hb⟩
                have hB : Hid (Below (w.heap.size + 1) (w.alloc (.cells #[.int .i64 k, .int .i64 n, .string s, .slice A ks.length a, .slice B es.length bb] 25)) w') := Lib.hid ((below_drewN (Below.refl _ _) _).trans (hb.mono (by simp)))
                have p0 := box_cell hB.out 0 _ rfl
                have p3 := box_cell hB.out 3 _ rfl
                have p4 := box_cell hB.out 4 _ rfl
                go_wp2
                go_meet
                case rel => exact ⟨by rw [HFV.out]; (first | rfl | (go_light; refine congrArg Value.bool ?_; simp; omega)), hB.out⟩
          | false =>
            rw [hq] at hv
            have HFV : Hid (fit2 k lv s ks.length es.length = false) := Lib.hid (by simp [fit2, hq])
            clear hq
            go_wp2_with fail
            refine (hv.out _).mono ?_
            rintro e' w' ⟨rfl, hb⟩
            have hB : Hid (Below (w.heap.size + 1) (w.alloc (.cells #[.int .i64 k, .int .i64 n, .string s, .slice A ks.length a, .slice B es.length bb] 25)) w') := Lib.hid ((below_drewN (Below.refl _ _) _).trans (hb.mono (by simp)))
            go_wp2
            go_meet
            case rel => exact ⟨by rw [HFV.out]; (first | rfl | (go_light; refine congrArg Value.bool ?_; simp; omega)), hB.out⟩
        · have HFV : Hid (fit2 k lv s ks.length es.length = false) := Lib.hid (by simp [fit2, hsz])
          go_wp2
          go_meet
          case rel => exact ⟨by rw [HFV.out]; (first | rfl | (go_light; refine congrArg Value.bool ?_; simp; omega)), below_drewN (Below.refl _ _) _⟩
      case rest =>
        as_aux_lemma =>
        obtain ⟨rfl, hB0⟩ := hcut
        cases hf2 : fit2 k lv s ks.length es.length with
        | false =>
          have hr : Hid (none = r) := Lib.hid (by rw [← HQ.out, rmP, if_neg (by rw [HF1.out]; decide), if_pos hf2])
          clear hf2
          have HB0 := Lib.hid hB0
          go_wp2_with fail
          go_ret3
          exact ⟨by rw [← hr.out]; rfl, below_old HB0.out⟩
        | true =>
          have hlen := keys_len HF1.out hf2
          have hl31 : es.length ≤ 0 ∨ lv ≤ 31 := nest_of HF1.out hf2
          have hs4 : s.size ≤ 4096 := by simp [fit2] at hf2; omega
          have hne4 : es.length ≤ 1024 := by simp [fit2] at hf2; omega
          have hr0 : Hid ((match rkeys ks none s.size with | none => none | some b => rmL es lv 1 b) = r) := Lib.hid (by
            have e := HQ.out
            rw [rmP, if_neg (by rw [HF1.out]; decide), if_neg (by rw [hf2]; decide)] at e
            exact e)
          clear hf2
          have HB0 := Lib.hid hB0
          clear hB0
          go_wp2_with fail
          go_loopw [8, 9] (fun c t wr => ∃ (i : Nat) (q : Int), i ≤ ks.length ∧ t = .int .i64 i ∧ c = .int .i64 q ∧ 0 ≤ q ∧ q ≤ 4096 + 4096 * i ∧ rkeys ks none s.size = rkeys (ks.drop i) (prevK ks i) q ∧ Below (w.heap.size + 1) (w.alloc (.cells #[.int .i64 k, .int .i64 n, .string s, .slice A ks.length a, .slice B es.length bb] 25)) wr) (fun _ t _ => ks.length - (intOf t).toNat)
          case atStart => exact ⟨0, _, Nat.zero_le _, rfl, rfl, by omega, by omega, rfl, HB0.out⟩
          case round =>
            clear HB0
            obtain ⟨i, q, hi, rfl, rfl, q0, q1, hk0, hbel0⟩ := hrel
            have HK := Lib.hid hk0
            have HBL := Lib.hid hbel0
            have p3 := box_cell hbel0 3 _ rfl
            have p4 := box_cell hbel0 4 _ rfl
            clear hk0 hbel0
            by_cases hlt : i < ks.length
            · obtain ⟨x, hx⟩ : ∃ x, ks[i]? = some x := ⟨_, List.getElem?_eq_getElem hlt⟩
              have hxs := H2.out x (List.mem_of_getElem? hx)
              obtain ⟨b0, o0, hAe, hb0, hc0⟩ := HA.out.at_ (kv_at hx)
              have hc1 := old_cell HBL.out hb0 hc0
              clear hc0
              have hi1 : (i : Int) < (ks.length : Int) := by omega
              obtain rfl := hAe
              by_cases hz : x.size ≤ 4096
              · have hv := Lib.hid (fun W => rval_any x (by omega) W)
                have hok : Hid ((runes x.data.toList).isSome = okS x) := Lib.hid rfl
                rw [hok.out] at hv
                have g1 : w.heap.size < wr.heap.size := by have := HBL.out.size; simp at this; omega
                have g2 : b0 < wr.heap.size := by omega
                have hgb : decide ((4096 : Int) < (x.size : Int)) = false := by simp; omega
                cases hq : okS x with
                | false =>
                  rw [hq] at hv
                  have hr : Hid (none = r) := Lib.hid (by rw [← hr0.out, HK.out, rkeys_bad hx (by simp [keyOk, hq])])
                  clear hx hq hok
                  go_wp2_with fail
                  have k3 := fun u : Calm wr.heap.size wr => u.cell g1 p3
                  have k1 := fun u : Calm wr.heap.size wr => u.cell g2 hc1
                  refine wp_region_calm (w0 := wr) (B := wr.heap.size) (by kernel_rfl) (by kernel_rfl) (Below.refl _ _) ?_
                  repeat (go_big_quiet_step ((go_at_call 128; refine Calm.call (Nat.le_refl _) (hv.out _))))
                  refine wpQuiet_nil ?_
                  intro _ hw'
                  obtain ⟨u, rfl⟩ := hw'
                  go_wp2_with fail
                  go_ret3
                  exact ⟨by rw [← hr.out]; rfl, (below_old HBL.out).trans (u.below.mono (by omega))⟩
                | true =>
                  rw [hq] at hv
                  have hko : keyOk x = true := by simp [keyOk, hq]; exact hz
                  have k3 := fun u : Calm wr.heap.size wr => u.cell g1 p3
                  have k1 := fun u : Calm wr.heap.size wr => u.cell g2 hc1
                  by_cases hi0 : i ≤ 0
                  · have hst : Hid (rkeys ks none s.size = rkeys (ks.drop (i + 1)) (prevK ks (i + 1)) (q + x.size)) := Lib.hid (by
                      rw [HK.out]
                      obtain rfl : i = 0 := by omega
                      exact rkeys_first hx hko)
                    have hib : decide ((0 : Int) < (i : Int)) = false := by simp; omega
                    have hic : decide (0 < i) = false := by simp; omega
                    clear hx hq hok hko
                    go_wp2_with fail
                    refine wp_region_calm (w0 := wr) (B := wr.heap.size) (by kernel_rfl) (by kernel_rfl) (Below.refl _ _) ?_
                    repeat (go_big_quiet_step ((go_at_call 128; refine Calm.call (Nat.le_refl _) (hv.out _))))
                    refine wpQuiet_nil ?_
                    intro _ hw'
                    obtain ⟨u, rfl⟩ := hw'
                    go_wp2_with fail
                    go_roundw
                    case rel => exact ⟨i + 1, q + x.size, by omega, by go_num, rfl, by omega, by omega, hst.out, HBL.out.trans (u.below.mono (by omega))⟩
                    case measure => simp [intOf]; omega
                  · obtain ⟨p, hp⟩ : ∃ p, ks[i - 1]? = some p := ⟨_, List.getElem?_eq_getElem (by omega)⟩
                    have hst0 := Lib.hid (HK.out.trans (rkeys_next (by omega) hp hx hko))
                    have hib : decide ((0 : Int) < (i : Int)) = true := by simp; omega
                    have hic : decide (0 < i) = true := by simp; omega
                    have hpc : wr.cell? ⟨b0, o0 + (i - 1), none⟩ = some (.string p) := by
                      obtain ⟨b1, o1, e1, hb1, hd⟩ := HA.out.at_ (kv_at hp)
                      injection e1 with e1
                      injection e1 with e1 e2
                      subst e1
                      subst e2
                      exact old_cell HBL.out hb1 hd
                    have k2 := fun u : Calm wr.heap.size wr => u.cell g2 hpc
                    have hls := less_eq p x
                    by_cases hlp : scmp p x < 0
                    · rw [decide_eq_true hlp] at hls
                      have hst := Lib.hid (hst0.out.trans (if_pos hlp))
                      clear hx hq hok hko hlp hst0 hp
                      go_wp2_with fail
                      refine wp_region_calm (w0 := wr) (B := wr.heap.size) (by kernel_rfl) (by kernel_rfl) (Below.refl _ _) ?_
                      repeat (go_big_quiet_step ((go_at_call 128; refine Calm.call (Nat.le_refl _) (hv.out _))))
                      refine wpQuiet_nil ?_
                      intro _ hw'
                      obtain ⟨u, rfl⟩ := hw'
                      go_wp2_with fail
                      go_roundw
                      case rel => exact ⟨i + 1, q + x.size, by omega, by go_num, rfl, by omega, by omega, hst.out, HBL.out.trans (u.below.mono (by omega))⟩
                      case measure => simp [intOf]; omega
                    · rw [decide_eq_false hlp] at hls
                      have hr : Hid (none = r) := Lib.hid (by rw [← hr0.out, hst0.out, if_neg hlp])
                      clear hx hq hok hko hlp hst0 hp
                      go_wp2_with fail
                      refine wp_region_calm (w0 := wr) (B := wr.heap.size) (by kernel_rfl) (by kernel_rfl) (Below.refl _ _) ?_
                      repeat (go_big_quiet_step ((go_at_call 128; refine Calm.call (Nat.le_refl _) (hv.out _))))
                      refine wpQuiet_nil ?_
                      intro _ hw'
                      obtain ⟨u, rfl⟩ := hw'
                      go_wp2_with fail
                      go_ret3
                      exact ⟨by rw [← hr.out]; rfl, (below_old HBL.out).trans (u.below.mono (by omega))⟩
              · have hr : Hid (none = r) := Lib.hid (by rw [← hr0.out, HK.out, rkeys_bad hx (by simp [keyOk]; omega)])
                have hgt : (4096 : Int) < (x.size : Int) := by omega
                clear hx
                go_wp2_with fail
                go_quiet (fail)
                go_wp2_with fail
                go_ret3
                exact ⟨by rw [← hr.out]; rfl, below_drewN (below_old HBL.out) _⟩
            · have hend : Hid (rkeys ks none s.size = some q) := Lib.hid (by rw [HK.out, List.drop_eq_nil_of_le (by omega), rkeys])
              have hr1 : Hid (rmL es lv 1 q = r) := Lib.hid (by rw [← hr0.out, hend.out])
              have hqb : q ≤ 5000000 := by omega
              clear hend
              go_wp2_with fail
              go_loopw [7, 8, 10] (fun c e t wr => ∃ (j : Nat) (m b : Int), j ≤ es.length ∧ t = .int .i64 j ∧ c = .int .i64 m ∧ e = .int .i64 b ∧ (1 ≤ m ∧ m ≤ 4096 ∧ 0 ≤ b ∧ b ≤ 5000000) ∧ rmL (es.drop j) lv m b = r ∧ Below (w.heap.size + 1) (w.alloc (.cells #[.int .i64 k, .int .i64 n, .string s, .slice A ks.length a, .slice B es.length bb] 25)) wr) (fun _ _ t _ => es.length - (intOf t).toNat)
              case atStart => exact ⟨0, _, _, Nat.zero_le _, rfl, rfl, rfl, ⟨by omega, by omega, q0, hqb⟩, hr1.out, HBL.out⟩
              case round =>
                clear p3 p4 HK hr0 hr1 q0 q1 hqb hlt hi HBL
                obtain ⟨j, m, b, hj, rfl, rfl, rfl, ⟨m0, m1, b0, b1⟩, hr2, hbel0⟩ := hrel
                have HR := Lib.hid hr2
                have HBL := Lib.hid hbel0
                have p4 := box_cell hbel0 4 _ rfl
                clear hr2 hbel0
                by_cases hlt : j < es.length
                · obtain ⟨e, he⟩ : ∃ e, es[j]? = some e := ⟨_, List.getElem?_eq_getElem hlt⟩
                  obtain ⟨ek, en, es', eks, ees⟩ := e
                  obtain ⟨bq, oq, eA, ea, eC, ec, rfl, hbq, hle, c0, c1, c2, c3, c4⟩ := elem_open HB.out HL.out he
                  have d0 := old_cell HBL.out hbq c0
                  have d1 := old_cell HBL.out hbq c1
                  have d2 := old_cell HBL.out hbq c2
                  have d3 := old_cell HBL.out hbq c3
                  have d4 := old_cell HBL.out hbq c4
                  clear c0 c1 c2 c3 c4
                  have hcall := Lib.hid (IH.out _ (List.mem_of_getElem? he) (lv + 1) [.int .i64 ek, .int .i64 en, .string es', .slice eA eks.length ea, .slice eC ees.length ec] wr (old_lies HBL.out hle) (by omega) (by omega))
                  cases hap : rmP (.mk ek en es' eks ees) (lv + 1) with
                  | none =>
                    rw [hap] at hcall
                    have hr : Hid (none = r) := Lib.hid ((rmL_none he hap).symm.trans HR.out)
                    clear he hap hle
                    go_wp2_with fail
                    refine hcall.out.mono ?_
                    rintro e3 w3 ⟨rfl, hb3⟩
                    simp only [rmV]
                    go_wp2_with fail
                    go_ret3
                    exact ⟨by rw [← hr.out]; rfl, (below_old HBL.out).trans (hb3.mono (by have := HBL.out.size; simp at this; omega))⟩
                  | some q =>
                    obtain ⟨m', b'⟩ := q
                    rw [hap] at hcall
                    obtain ⟨⟨y0, y1⟩, y2, y3⟩ := rmP_bd _ _ _ _ hap
                    have hst := Lib.hid ((rmL_some he hap).symm.trans HR.out)
                    clear he hap hle
                    by_cases hm : m + m' ≤ 4096
                    · by_cases hbb : b + b' ≤ 65536
                      · have hst2 := Lib.hid ((if_neg (by omega)).symm.trans hst.out)
                        go_wp2_with fail
                        refine hcall.out.mono ?_
                        rintro e3 w3 ⟨rfl, hb3⟩
                        simp only [rmV]
                        go_wp2_with fail
                        go_roundw
                        case rel =>
                          (repeat apply Exists.intro)
                          exact ⟨⟨j + 1, m + m', b + b', by omega, by go_num, rfl, rfl, ⟨by omega, hm, by omega, by omega⟩, hst2.out, HBL.out.trans (hb3.mono (by have := HBL.out.size; simp at this; omega))⟩, rfl⟩
                        case measure => simp [intOf]; omega
                      · have hr := Lib.hid ((if_pos (by omega)).symm.trans hst.out)
                        go_wp2_with fail
                        refine hcall.out.mono ?_
                        rintro e3 w3 ⟨rfl, hb3⟩
                        simp only [rmV]
                        go_wp2_with fail
                        go_ret3
                        exact ⟨by rw [← hr.out]; rfl, (below_old HBL.out).trans (hb3.mono (by have := HBL.out.size; simp at this; omega))⟩
                    · have hr := Lib.hid ((if_pos (by omega)).symm.trans hst.out)
                      go_wp2_with fail
                      refine hcall.out.mono ?_
                      rintro e3 w3 ⟨rfl, hb3⟩
                      simp only [rmV]
                      go_wp2_with fail
                      go_ret3
                      exact ⟨by rw [← hr.out]; rfl, (below_old HBL.out).trans (hb3.mono (by have := HBL.out.size; simp at this; omega))⟩
                · have hr : Hid (some (m, b) = r) := Lib.hid (by rw [← HR.out, List.drop_eq_nil_of_le (by omega), rmL])
                  go_wp2_with fail
                  go_ret3
                  exact ⟨by rw [← hr.out]; rfl, below_old HBL.out⟩
end Go.Proofs.YtgdnkankleoaoaaGreatDoor
namespace Go.Proofs.YtgdnkankleoaoaaGreatDoor
open Go.RowKit
set_option maxHeartbeats 1000000 in
set_option maxRecDepth 100000 in
theorem equal_any (v u : V) (cs ds : List Value) (w : World) (h1 : Lies w (· < w.heap.size) v cs) (h2 : Lies w (· < w.heap.size) u ds) :
    Calls Tryz.prog 100 #[.agg cs.toArray, .agg ds.toArray] w fun e w' => e = .returned (.bool (eqV v u)) ∧ Below w.heap.size w w' := by
  have HT : Hid (Two v u cs ds w) := Lib.hid ⟨h1, h2⟩
  obtain ⟨k, n, s, ks, es⟩ := v
  obtain ⟨k', n', s', ks', es'⟩ := u
  obtain ⟨A, a, B, b, xs, rfl, _⟩ := lies_open h1
  obtain ⟨A', a', B', b', ys, rfl, _⟩ := lies_open h2
  clear h1 h2
  show Calls _ _ #[.agg #[.int .i64 k, .int .i64 n, .string s, .slice A ks.length a, .slice B es.length b], .agg #[.int .i64 k', .int .i64 n', .string s', .slice A' ks'.length a', .slice B' es'.length b']] w _
  generalize V.mk k n s ks es = v at HT ⊢
  generalize V.mk k' n' s' ks' es' = u at HT ⊢
  have q1 := Lib.hid (fun W hW => HT.out.val1 (W := W) hW)
  have q2 := Lib.hid (fun W hW => HT.out.val2 (W := W) hW)
  have q3 := Lib.hid (fun W hW => HT.out.cmp (W := W) hW)
  unfold eqV
  generalize valid v = x at q1 ⊢
  generalize valid u = y at q2 ⊢
  generalize vcmp v u = z at q3 ⊢
  clear HT
  cases x with
  | false =>
    go_enter Tryz.func100, Tryz.ntmps100
    go_wp2_with fail
    refine (q1.out _ (below2 _ _ _)).mono ?_
    rintro e1 w1 ⟨rfl, hb1⟩
    have hB1 := Lib.hid (two_step (Below.refl _ _) (hb1))
    go_wp2_with fail
    go_ret
    exact ⟨rfl, below_two hB1.out⟩
  | true =>
    cases y with
    | false =>
      go_enter Tryz.func100, Tryz.ntmps100
      go_wp2_with fail
      refine (q1.out _ (below2 _ _ _)).mono ?_
      rintro e1 w1 ⟨rfl, hb1⟩
      have hB1 := Lib.hid (two_step (Below.refl _ _) (hb1))
      have m0 := (box_two hB1.out 0).2
      have m1 := (box_two hB1.out 1).2
      have m2 := (box_two hB1.out 2).2
      have m3 := (box_two hB1.out 3).2
      have m4 := (box_two hB1.out 4).2
      simp only [List.getElem?_toArray, List.getElem?_cons_succ, List.getElem?_cons_zero] at m0 m1 m2 m3 m4
      go_wp2_with fail
      refine (q2.out _ (below_two hB1.out)).mono ?_
      rintro e2 w2 ⟨rfl, hb2⟩
      have hB2 := Lib.hid (two_step hB1.out hb2)
      go_wp2_with fail
      go_ret
      exact ⟨rfl, below_two hB2.out⟩
    | true =>
      go_enter Tryz.func100, Tryz.ntmps100
      go_wp2_with fail
      refine (q1.out _ (below2 _ _ _)).mono ?_
      rintro e1 w1 ⟨rfl, hb1⟩
      have hB1 := Lib.hid (two_step (Below.refl _ _) (hb1))
      have m0 := (box_two hB1.out 0).2
      have m1 := (box_two hB1.out 1).2
      have m2 := (box_two hB1.out 2).2
      have m3 := (box_two hB1.out 3).2
      have m4 := (box_two hB1.out 4).2
      simp only [List.getElem?_toArray, List.getElem?_cons_succ, List.getElem?_cons_zero] at m0 m1 m2 m3 m4
      go_wp2_with fail
      refine (q2.out _ (below_two hB1.out)).mono ?_
      rintro e2 w2 ⟨rfl, hb2⟩
      have hB2 := Lib.hid (two_step hB1.out hb2)
      clear m0 m1 m2 m3 m4
      have m0 := box_two hB2.out 0
      have m1 := box_two hB2.out 1
      have m2 := box_two hB2.out 2
      have m3 := box_two hB2.out 3
      have m4 := box_two hB2.out 4
      simp only [List.getElem?_toArray, List.getElem?_cons_succ, List.getElem?_cons_zero] at m0 m1 m2 m3 m4
      go_wp2_with fail
      refine (q3.out _ (below_two hB2.out)).mono ?_
      rintro e3 w3 ⟨rfl, hb3⟩
      go_wp2_with fail
      go_ret
      exact ⟨ret_bool (by rw [Bool.eq_iff_iff]; simp), chain (below_two hB2.out) hb3⟩

theorem below_one {w w' : World} {o : Obj} (hb : Below (w.heap.size + 1) (w.alloc o) w') : Below w.heap.size w w' := below_old hb
theorem one_step {w w1 w2 : World} {o : Obj} (hb : Below (w.heap.size + 1) (w.alloc o) w1) (hc : Below w1.heap.size w1 w2) : Below (w.heap.size + 1) (w.alloc o) w2 :=
  hb.trans (hc.mono (by have := hb.size; simp at this; omega))
theorem below1 (w : World) (o : Obj) : Below w.heap.size w (w.alloc o) := (Below.refl _ _).alloc (Nat.le_refl _) o
end Go.Proofs.YtgdnkankleoaoaaGreatDoor
namespace Go.Proofs.YtgdnkankleoaoaaGreatDoor
open Go.RowKit
def validR (v : V) : Bool := match rmP v 0 with | none => false | some (m, b) => decide (m ≤ 4096) && decide (b ≤ 65536)
set_option maxHeartbeats 1000000 in
set_option maxRecDepth 100000 in
theorem rvalid_any (v : V) (cs : List Value) (w : World) (h : Lies w (· < w.heap.size) v cs) :
    Calls Tryz.prog 112 #[.agg cs.toArray] w fun e w' => e = .returned (.bool (validR v)) ∧ Below w.heap.size w w' := by
  have q1 := Lib.hid (fun W (hW : Below w.heap.size w W) => rm_any v 0 cs W (below_lies hW h) (by omega) (by omega))
  have hbd : ∀ m b, rmP v 0 = some (m, b) → (1 ≤ m ∧ m ≤ 4096) ∧ (0 ≤ b ∧ b ≤ 5000000) := fun m b hh => rmP_bd v 0 m b hh
  obtain ⟨k, n, s, ks, es⟩ := v
  obtain ⟨A, a, B, b, xs, rfl, _⟩ := lies_open h
  clear h
  show Calls _ _ #[.agg #[.int .i64 k, .int .i64 n, .string s, .slice A ks.length a, .slice B es.length b]] w _
  unfold validR
  generalize rmP (.mk k n s ks es) 0 = o at q1 hbd ⊢
  rcases o with _ | ⟨m, c⟩
  · clear hbd
    simp only [rmV] at q1
    go_enter Tryz.func112, Tryz.ntmps112
    go_wp2_with fail
    refine (q1.out _ (below1 _ _)).mono ?_
    rintro e1 w1 ⟨rfl, hb1⟩
    go_wp2_with fail
    go_ret
    exact ⟨rfl, chain (below1 _ _) hb1⟩
  · obtain ⟨⟨m0, m1⟩, c0, c1⟩ := hbd _ _ rfl
    clear hbd
    simp only [rmV] at q1
    by_cases hc : c ≤ 65536
    all_goals
      go_enter Tryz.func112, Tryz.ntmps112
      go_wp2_with fail
      refine (q1.out _ (below1 _ _)).mono ?_
      rintro e1 w1 ⟨rfl, hb1⟩
      go_wp2_with fail
      go_ret
      exact ⟨ret_bool (by simp [m1, hc]), chain (below1 _ _) hb1⟩
end Go.Proofs.YtgdnkankleoaoaaGreatDoor
