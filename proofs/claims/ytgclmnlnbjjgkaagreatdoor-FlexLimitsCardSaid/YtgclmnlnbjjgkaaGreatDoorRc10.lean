/- The contracts of the small functions of the layer flex's reference. The reference's gap and named. The reference's named and number. -/
import Derived.Test.YtgclmnlnbjjgkaaGreatDoorJl2
import Derived.Test.YtgclmnlnbjjgkaaGreatDoorFa
import Derived.Test.YtgclmnlnbjjgkaaGreatDoorFxO
import Derived.Test.YtgclmnlnbjjgkaaGreatDoorFg
import Derived.Test.YtgclmnlnbjjgkaaGreatDoorRnX
set_option linter.unusedVariables false
set_option linter.unusedSimpArgs false
namespace Go.Proofs.YtgclmnlnbjjgkaaGreatDoor
open Go.RowKit
theorem rname_any (b : UInt8) (w : World) : Calls Tryz.prog 31 #[.int .u8 b.toNat] w fun e w' => e = .returned (.bool (nameB b)) ∧ w = w' := by
  have hb := UInt8.toNat_lt b
  unfold nameB
  generalize b.toNat = n at *
  go_enter Tryz.func31, Tryz.ntmps31
  go_wp2
  all_goals go_ret
  all_goals exact ⟨ret_bool (by (try simp only [beq_iff_eq, beq_eq_false_iff_ne, decide_eq_true_eq, decide_eq_false_iff_not, ne_eq] at *); rw [Bool.eq_iff_iff]; first | (simp; omega) | (simp; done) | omega), rfl⟩
theorem rdig_any (b : UInt8) (w : World) : Calls Tryz.prog 33 #[.int .u8 b.toNat] w fun e w' => e = .returned (.bool (digB b)) ∧ w = w' := by
  have hb := UInt8.toNat_lt b
  unfold digB
  generalize b.toNat = n at *
  go_enter Tryz.func33, Tryz.ntmps33
  go_wp2
  all_goals go_ret
  all_goals exact ⟨ret_bool (by (try simp only [beq_iff_eq, beq_eq_false_iff_ne, decide_eq_true_eq, decide_eq_false_iff_not, ne_eq] at *); rw [Bool.eq_iff_iff]; first | (simp; omega) | (simp; done) | omega), rfl⟩
set_option maxHeartbeats 4000000 in
theorem rkw_any (s : ByteArray) (w : World) : Calls Tryz.prog 11 #[.string s] w fun e w' => e = .returned (.bool (kwB s.data.toList)) ∧ w = w' := by
  rw [← Lib.toList_data]
  obtain ⟨X, hX⟩ : ∃ X, s.toList = X := ⟨_, rfl⟩
  rw [hX]
  unfold kwB
  go_enter Tryz.func11, Tryz.ntmps11
  go_wp2
  all_goals go_ret
  all_goals exact ⟨ret_bool (by simp_all), rfl⟩
/-- The end of the name at an offset, which is the offset if there is none. -/
def wordE (l : List UInt8) (k : Nat) : Nat := if atF nameB l k = true then span nmdB l k else k
set_option maxHeartbeats 1000000 in
theorem rwordE_any (s : ByteArray) (k : Nat) (hs : s.size ≤ maxLen) (hk : k ≤ s.size) (w : World) : Calls Tryz.prog 21 #[.string s, .int .i64 k] w fun e w' => e = .returned (.int .i64 (wordE s.data.toList k : Nat)) ∧ w = w' := by
  unfold maxLen at hs
  have hl : s.data.toList.length = s.size := by simp
  have HL := Lib.hid hl
  clear hl
  by_cases hin : k < s.size
  · obtain ⟨b0, hb0⟩ : ∃ b, s[k] = b := ⟨_, rfl⟩
    have HB0 := Lib.hid (at_list hin hb0)
    have HA0 := Lib.hid (fun W => rname_any b0 W)
    cases h0 : nameB b0 with
    | false =>
      have HW : Hid (wordE s.data.toList k = k) := Lib.hid (by unfold wordE; rw [atF_at HB0.out, h0]; rfl)
      rw [h0] at HA0
      rw [HW.out]
      go_enter Tryz.func21, Tryz.ntmps21
      go_wp2_with (go_at_call 31; refine (HA0.out _).mono ?_; rintro e w' ⟨rfl, rfl⟩)
      all_goals go_ret
      all_goals exact ⟨rfl, rfl⟩
    | true =>
      have HW : Hid (wordE s.data.toList k = span nmdB s.data.toList k) := Lib.hid (by unfold wordE; rw [atF_at HB0.out, h0]; rfl)
      rw [h0] at HA0
      rw [HW.out]
      have hq3 : decide (s.size ≤ k) = false := by rw [decide_eq_false_iff_not]; omega
      have hq4 : decide ((s.size : Int) ≤ (k : Int)) = false := by rw [decide_eq_false_iff_not]; omega
      clear h0
      go_enter Tryz.func21, Tryz.ntmps21
      go_wp2_with (go_at_call 31; refine (HA0.out _).mono ?_; rintro e w' ⟨rfl, rfl⟩)
      go_loop [1] (fun t => ∃ j : Nat, j ≤ s.size ∧ t = .int .i64 j ∧ span nmdB s.data.toList k = span nmdB s.data.toList j) (fun t => s.size - (intOf t).toNat)
      case atStart => exact ⟨k, hk, rfl, rfl⟩
      case round =>
        obtain ⟨j, hj, rfl, hsp⟩ := hrel
        have HS := Lib.hid hsp
        clear hsp
        by_cases hlt : j < s.size
        · obtain ⟨b, hb⟩ : ∃ b, s[j] = b := ⟨_, rfl⟩
          have H3 := Lib.hid (at_list hlt hb)
          have HA := Lib.hid (fun W => rname_any b W)
          have HB := Lib.hid (fun W => rdig_any b W)
          cases h1 : nameB b with
          | true =>
            have HN := Lib.hid (span_inq H3.out (show nmdB b = true by rw [nmd_split, h1]; rfl))
            rw [h1] at HA
            clear h1
            go_wp2_with (go_at_call 31; refine (HA.out _).mono ?_; rintro e w' ⟨rfl, rfl⟩)
            go_round
            case rel => exact ⟨j + 1, by omega, by go_num, HS.out.trans HN.out⟩
            case measure => simp [intOf]; omega
          | false =>
            rw [h1] at HA
            cases h2 : digB b with
            | true =>
              have HN := Lib.hid (span_inq H3.out (show nmdB b = true by rw [nmd_split, h1, h2]; rfl))
              rw [h2] at HB
              clear h1 h2
              go_wp2_with (first
                | (go_at_call 31; refine (HA.out _).mono ?_; rintro e w' ⟨rfl, rfl⟩)
                | (go_at_call 33; refine (HB.out _).mono ?_; rintro e w' ⟨rfl, rfl⟩))
              go_round
              case rel => exact ⟨j + 1, by omega, by go_num, HS.out.trans HN.out⟩
              case measure => simp [intOf]; omega
            | false =>
              have HN := Lib.hid (span_noq H3.out (show nmdB b = false by rw [nmd_split, h1, h2]; rfl))
              rw [h2] at HB
              clear h1 h2
              go_wp2_with (first
                | (go_at_call 31; refine (HA.out _).mono ?_; rintro e w' ⟨rfl, rfl⟩)
                | (go_at_call 33; refine (HB.out _).mono ?_; rintro e w' ⟨rfl, rfl⟩))
              go_ret
              exact ⟨ret_int (by rw [HS.out, HN.out]), rfl⟩
        · have HN := Lib.hid (span_end (p := nmdB) (l := s.data.toList) (k := j) (by rw [HL.out]; omega))
          have hje : j = s.size := by omega
          go_wp2
          all_goals go_ret
          all_goals exact ⟨ret_int (by rw [HS.out, HN.out]; (try omega)), rfl⟩
  · have HW : Hid (wordE s.data.toList k = k) := Lib.hid (by unfold wordE; rw [atF_end (by rw [HL.out]; omega)]; rfl)
    rw [HW.out]
    go_enter Tryz.func21, Tryz.ntmps21
    go_wp2
    all_goals go_ret
    all_goals exact ⟨rfl, rfl⟩
set_option maxHeartbeats 1000000 in
theorem rName_any (s : ByteArray) (hs : s.size ≤ maxLen) (w : World) : Calls Tryz.prog 13 #[.string s] w fun e w' => e = .returned (.bool (nameS s.data.toList)) ∧ w = w' := by
  have HE := Lib.hid (fun W => rwordE_any s 0 hs (Nat.zero_le _) W)
  unfold maxLen at hs
  have hl : s.data.toList.length = s.size := by simp
  have hne : ∀ x : Bool, atF nameB s.data.toList 0 = x → (s.size = 0 → x = false) := fun x hx h => by rw [← hx]; exact atF_end (by rw [hl]; omega)
  unfold nameS wordE at *
  rw [hl]
  have HNE : Hid (s.toList.isEmpty = decide (s.size = 0)) := Lib.hid (by rw [Lib.toList_data, Bool.eq_iff_iff, List.isEmpty_iff_length_eq_zero, hl, decide_eq_true_eq])
  clear hl
  generalize span nmdB s.data.toList 0 = n at HE ⊢
  generalize atF nameB s.data.toList 0 = b at HE hne ⊢
  obtain ⟨z, hz⟩ : ∃ z, s.toList.isEmpty = z := ⟨_, rfl⟩
  rw [hz] at HNE
  have hz2 : z = decide (s.size = 0) := HNE.out
  have hne2 := hne b rfl
  clear hne
  by_cases h0 : s.size = 0
  · rw [hne2 h0, Bool.false_and, Bool.false_and]
    have hz3 : z = true := by rw [hz2]; simp [h0]
    subst hz3
    clear hz2 HNE hne2
    go_enter Tryz.func13, Tryz.ntmps13
    go_wp2_with (go_at_call 21; refine (HE.out _).mono ?_; rintro e w' ⟨rfl, rfl⟩)
    all_goals go_ret
    all_goals exact ⟨rfl, rfl⟩
  · have hz3 : z = false := by rw [hz2]; simp [h0]
    subst hz3
    clear hz2 HNE hne2
    obtain ⟨m, hm⟩ : ∃ m, (if b = true then n else 0) = m := ⟨_, rfl⟩
    rw [hm] at HE
    have HM := Lib.hid hm
    clear hm
    by_cases h1 : s.size ≤ 32
    all_goals
      by_cases h2 : m = s.size
      all_goals
        go_enter Tryz.func13, Tryz.ntmps13
        go_wp2_with (go_at_call 21; refine (HE.out _).mono ?_; rintro e w' ⟨rfl, rfl⟩)
        all_goals go_ret
        all_goals exact ⟨ret_bool (by have h9 := HM.out; clear HM; cases b <;> first | (simp at h9 ⊢; done) | (simp at h9 ⊢; omega) | (simp_all; done) | (simp_all; omega)), rfl⟩
end Go.Proofs.YtgclmnlnbjjgkaaGreatDoor
namespace Go.Proofs.YtgclmnlnbjjgkaaGreatDoor
open Go.RowKit
set_option maxHeartbeats 4000000 in
set_option maxRecDepth 100000 in
theorem rgap_any (s : ByteArray) (k : Nat) (hs : s.size ≤ maxLen) (hk : k ≤ s.size) (w : World) : Calls Tryz.prog 17 #[.string s, .int .i64 k] w fun e w' => e = .returned (.int .i64 (gapP s.data.toList k : Nat)) ∧ w = w' := by
  have HSK := Lib.hid (fun j (hj : j ≤ s.size) W => rskip_any s j hs hj W)
  unfold maxLen at hs
  have HL := Lib.hid (show s.data.toList.length = s.size by simp)
  go_enter Tryz.func17, Tryz.ntmps17
  go_wp2
  go_loop [1] (fun t => ∃ j : Nat, j ≤ s.size ∧ t = .int .i64 j ∧ Hid (gapP s.data.toList k = gapP s.data.toList j)) (fun t => s.size - (intOf t).toNat)
  case atStart => exact ⟨k, hk, rfl, Lib.hid rfl⟩
  case round =>
    obtain ⟨j, hj, rfl, HG⟩ := hrel
    have hm0 := GapAt.start (l := s.data.toList) (k := j) (by rw [HL.out]; exact hj)
    have hjm := span_ge blankB s.data.toList j
    have hms : span blankB s.data.toList j ≤ s.size := by rw [← HL.out]; exact span_le (by rw [HL.out]; exact hj)
    have HS := Lib.hid (HSK.out j hj)
    generalize span blankB s.data.toList j = m at hm0 hjm hms HS
    have HM := Lib.hid hm0
    clear hm0
    by_cases hlt : m < s.size
    · obtain ⟨b, hb⟩ : ∃ b, s[m] = b := ⟨_, rfl⟩
      have HB := Lib.hid (at_list hlt hb)
      have qm : ((m : Int) == (s.size : Int)) = false := beq_eq_false_iff_ne.2 (fun h => by omega)
      by_cases h35 : b.toNat = 35
      · have q35 : ((b.toNat : Int) != 35) = false := by rw [bne_eq_false_iff_eq]; omega
        have hg1 := gap_line HB.out h35
        have hp1 : m + 1 ≤ span nolfB s.data.toList m := by
          rw [span_inq HB.out (by unfold nolfB; simp; omega)]
          exact span_ge _ _ _
        have hps : span nolfB s.data.toList m ≤ s.size := by rw [← HL.out]; exact span_le (by rw [HL.out]; exact hms)
        obtain ⟨p, hp⟩ : ∃ p, span nolfB s.data.toList m = p := ⟨_, rfl⟩
        have HP := Lib.hid hp
        rw [hp] at hg1 hp1 hps
        have HGP := Lib.hid (HG.out.trans (HM.out.1.trans hg1))
        clear h35 hg1 hp
        go_wp2_with (go_at_call 30; refine (HS.out _).mono ?_; rintro e w' ⟨rfl, rfl⟩)
        go_loop [1] (fun t => ∃ i : Nat, m ≤ i ∧ i ≤ s.size ∧ t = .int .i64 i ∧ Hid (span nolfB s.data.toList m = span nolfB s.data.toList i)) (fun t => s.size - (intOf t).toNat)
        case atStart => exact ⟨m, Nat.le_refl _, hms, rfl, Lib.hid rfl⟩
        case round =>
          obtain ⟨i, hmi, hi, rfl, HSI⟩ := hrel
          by_cases hil : i < s.size
          · obtain ⟨c, hc⟩ : ∃ c, s[i] = c := ⟨_, rfl⟩
            have HC := Lib.hid (at_list hil hc)
            by_cases h10 : c.toNat = 10
            · have q10 : ((c.toNat : Int) != 10) = false := by rw [bne_eq_false_iff_eq]; omega
              have HN := Lib.hid (span_noq HC.out (p := nolfB) (by unfold nolfB; simp; omega))
              clear h10
              go_wp2_with fail
              go_round
              case rel => exact ⟨i, hi, rfl, Lib.hid (by rw [HGP.out, ← HP.out, HSI.out, HN.out])⟩
              case measure => have := HP.out; have := HSI.out; have := HN.out; simp [intOf]; omega
            · have q10 : ((c.toNat : Int) != 10) = true := by rw [bne_iff_ne]; omega
              have HN := Lib.hid (span_inq HC.out (p := nolfB) (by unfold nolfB; simp; omega))
              clear h10
              go_wp2_with fail
              go_round
              case rel => exact ⟨i + 1, by omega, by omega, by go_num, Lib.hid (HSI.out.trans HN.out)⟩
              case measure => simp [intOf]; omega
          · have HN := Lib.hid (span_end (p := nolfB) (l := s.data.toList) (k := i) (by rw [HL.out]; omega))
            go_wp2_with fail
            go_round
            case rel => exact ⟨i, hi, rfl, Lib.hid (by rw [HGP.out, ← HP.out, HSI.out, HN.out])⟩
            case measure => have := HP.out; have := HSI.out; have := HN.out; simp [intOf]; omega
      · have q35 : ((b.toNat : Int) != 35) = true := by rw [bne_iff_ne]; omega
        have HE := Lib.hid (HG.out.trans (HM.out.stop HB.out h35))
        clear h35
        go_wp2_with (go_at_call 30; refine (HS.out _).mono ?_; rintro e w' ⟨rfl, rfl⟩)
        go_ret
        exact ⟨ret_int (by rw [HE.out]), rfl⟩
    · have hme : m = s.size := by omega
      have HE := Lib.hid (HG.out.trans (HM.out.end_ (by rw [HL.out]; exact hme)))
      have qm : ((m : Int) == (s.size : Int)) = true := by rw [beq_iff_eq]; omega
      clear hme
      go_wp2_with (go_at_call 30; refine (HS.out _).mono ?_; rintro e w' ⟨rfl, rfl⟩)
      go_ret
      exact ⟨ret_int (by rw [HE.out]), rfl⟩
end Go.Proofs.YtgclmnlnbjjgkaaGreatDoor
namespace Go.Proofs.YtgclmnlnbjjgkaaGreatDoor
open Go.RowKit
def RxPost (x : Fx) (w : World) (e : Ending) (w' : World) : Prop := e = .returned x.rval ∧ Below w.heap.size w w'
theorem rx_ok {x : Fx} {w w' : World} {f : FuncId} {args : Array Value} (hx : x.e = 0) (h : Calls Tryz.prog f args w (RxPost x w)) : Calls Tryz.prog f args w fun e w' => e = .returned (.tuple #[.agg #[.int .i64 x.t.k, .int .i64 x.t.o, .string x.t.s, .int .i64 x.t.i], .int .i64 x.p, .int .i64 0, .int .i64 0]) ∧ Below w.heap.size w w' := by
  refine h.mono fun e w' he => ⟨he.1.trans ?_, he.2⟩
  unfold Fx.rval Fk.cs
  rw [hx, if_pos rfl, if_pos rfl]
  rfl
theorem rx_no {x : Fx} {w w' : World} {f : FuncId} {args : Array Value} (hx : ¬ x.e = 0) (h : Calls Tryz.prog f args w (RxPost x w)) : Calls Tryz.prog f args w fun e w' => e = .returned (.tuple #[.agg #[.int .i64 x.t.k, .int .i64 x.t.o, .string x.t.s, .int .i64 x.t.i], .int .i64 0, .int .i64 x.p, .int .i64 x.e]) ∧ Below w.heap.size w w' := by
  refine h.mono fun e w' he => ⟨he.1.trans ?_, he.2⟩
  unfold Fx.rval Fk.cs
  rw [if_neg hx, if_neg hx]
  rfl
theorem rx_ret {F : Func} {a b c d : Nat} {x : Fx} {w : World} {A : Act} {X : World} {g : Nat} {p q e : Nat} (hr : F.results = #[.cell a 36, .tmp b, .tmp c, .tmp d])
    (ha : A.tmps[a]?.getD undef = .pointer (some ⟨g, 0, none⟩)) (hb : A.tmps[b]?.getD undef = .int .i64 p) (hc : A.tmps[c]?.getD undef = .int .i64 q) (hd2 : A.tmps[d]?.getD undef = .int .i64 e) (hd : A.defers = [])
    (hp : (if x.e = 0 then x.p else 0) = p) (hq : (if x.e = 0 then 0 else x.p) = q) (he : x.e = e)
    (bx : Box X g 36 #[.int .i64 x.t.k, .int .i64 x.t.o, .string x.t.s, .int .i64 x.t.i])
    (h : Below w.heap.size w X) : bodyPost Tryz.prog F (RxPost x w) Exit.ret A X := by
  obtain ⟨t0, t1, t2, t3⟩ := box4 bx
  refine bodyPost_ret (v := .tuple #[.agg #[.int .i64 x.t.k, .int .i64 x.t.o, .string x.t.s, .int .i64 x.t.i], .int .i64 p, .int .i64 q, .int .i64 e]) ?_ hd ⟨?_, h⟩
  · simp [results, hr, go_sem, ha, hb, hc, hd2, t0, t1, t2, t3]
  · unfold Fx.rval Fk.cs
    rw [hp, hq, he]
/-- The kind that named hands back. -/
def kindK (l : List UInt8) (k f : Nat) : Nat := if k = 1 ∧ kwB (sub l f (span nmdB l f)) = true then 2 else k
set_option maxHeartbeats 4000000 in
set_option maxRecDepth 100000 in
theorem rnamed_any (s : ByteArray) (k o f : Nat) (hs : s.size ≤ 1048576) (hf : f ≤ s.size) (hn : atF nameB s.data.toList f = true) (w : World) : Calls Tryz.prog 32 #[.string s, .int .i64 k, .int .i64 o, .int .i64 f] w (RxPost (namedP s.data.toList (kindK s.data.toList k f) o f) w) := by
  have hsm : s.size ≤ maxLen := by unfold maxLen; omega
  have he := fun W => rwordE_any s f hsm hf W
  have hw : wordE s.data.toList f = span nmdB s.data.toList f := by unfold wordE; rw [if_pos hn]
  rw [hw] at he
  have HE := Lib.hid he
  have hl : s.data.toList.length = s.size := by simp
  have hts : span nmdB s.data.toList f ≤ s.size := by rw [← hl]; exact span_le (by omega)
  have hft := span_ge nmdB s.data.toList f
  have HX := Lib.hid (bs_ext s f (span nmdB s.data.toList f))
  have hk := fun W => rkw_any (s.extract f (span nmdB s.data.toList f)) W
  rw [ext_subd] at hk
  obtain ⟨W1, hW1⟩ : ∃ X, X = w.alloc (.cells #[.int .i64 0, .int .i64 0, .string ⟨#[]⟩, .int .i64 0] 36) := ⟨_, rfl⟩
  have HW1 := Lib.hid hW1
  have HBX : Hid (Box W1 w.heap.size 36 #[.int .i64 0, .int .i64 0, .string ⟨#[]⟩, .int .i64 0]) := Lib.hid (by rw [hW1]; exact Box.laid w _ _)
  have HBL : Hid (Below w.heap.size w W1) := Lib.hid (by rw [hW1]; exact (Below.refl _ _).alloc (Nat.le_refl _) _)
  obtain ⟨t0, t1, t2, t3⟩ := box4 HBX.out
  obtain ⟨f0, f1, f2, f3⟩ := free4 HBX.out
  unfold namedP kindK
  rw [← HX.out]
  clear hW1 hl HX hsm hw he hn
  generalize kwB (sub s.data.toList f (span nmdB s.data.toList f)) = b at *
  have HK := Lib.hid hk
  clear hk
  generalize span nmdB s.data.toList f = t at *
  by_cases h : 32 < t - f
  · rw [if_pos h]
    go_enter Tryz.func32, Tryz.ntmps32
    go_upto_region 1 with fail
    rw [← HW1.out]
    have q : (32 : Int) < (t : Int) - (f : Int) := by omega
    go_wp2_with (go_at_call 21; refine (HE.out _).mono ?_; rintro e w' ⟨rfl, rfl⟩)
    exact rx_ret Tryz.results32 rfl rfl rfl rfl rfl rfl rfl rfl (put4 HBX.out _ _ _ _) (below_four (Nat.le_refl _) HBL.out _ _ _ _)
  · rw [if_neg h]
    by_cases hk1 : k = 1
    · subst hk1
      cases b
      all_goals
        go_enter Tryz.func32, Tryz.ntmps32
        go_upto_region 1 with fail
        rw [← HW1.out]
        have q : ¬ (32 : Int) < (t : Int) - (f : Int) := by omega
        go_wp2_with (first
          | (go_at_call 21; refine (HE.out _).mono ?_; rintro e w' ⟨rfl, rfl⟩)
          | (go_at_call 11; refine (HK.out _).mono ?_; rintro e w' ⟨rfl, rfl⟩))
        exact rx_ret Tryz.results32 rfl rfl rfl rfl rfl rfl rfl rfl (put4 HBX.out _ _ _ _) (below_four (Nat.le_refl _) HBL.out _ _ _ _)
    · rw [if_neg (fun h => hk1 h.1)]
      have qk : ((k : Int) == 1) = false := beq_eq_false_iff_ne.2 (fun h => hk1 (by omega))
      go_enter Tryz.func32, Tryz.ntmps32
      go_upto_region 1 with fail
      rw [← HW1.out]
      have q : ¬ (32 : Int) < (t : Int) - (f : Int) := by omega
      go_wp2_with (first
        | (go_at_call 21; refine (HE.out _).mono ?_; rintro e w' ⟨rfl, rfl⟩)
        | (go_at_call 11; refine (HK.out _).mono ?_; rintro e w' ⟨rfl, rfl⟩))
      exact rx_ret Tryz.results32 rfl rfl rfl rfl rfl rfl rfl rfl (put4 HBX.out _ _ _ _) (below_four (Nat.le_refl _) HBL.out _ _ _ _)
end Go.Proofs.YtgclmnlnbjjgkaaGreatDoor
