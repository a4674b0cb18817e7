/- The walk of the program's unit, and numericEscape, escape. -/
import Derived.Test.YtgclmnlnbjjgkaaDoorJl6
import Derived.Deep.Light
import Derived.Deep.CutBlock
import Derived.Deep.DeepCutAuto
set_option linter.unusedVariables false
set_option linter.unusedSimpArgs false
namespace Go.Proofs.YtgclmnlnbjjgkaaDoor
open Go.RowKit
theorem hexno (b : UInt8) (h : hexP b = none) (w : World) : Calls Tryd.prog 68 #[.int .u8 b.toNat] w fun e w' => e = .returned (.tuple #[.int .i64 0, .bool false]) ∧ w = w' := by
  have := hex_any b w
  rw [h] at this; exact this
theorem hexyes (b : UInt8) (d : Nat) (h : hexP b = some d) (w : World) : Calls Tryd.prog 68 #[.int .u8 b.toNat] w fun e w' => e = .returned (.tuple #[.int .i64 d, .bool true]) ∧ w = w' := by
  have := hex_any b w
  rw [h] at this; exact this
theorem possz (x y : Int) (a b : Nat) (low : Bool) (hx : x = a) (hy : y = b) (ha : a ≤ 65535) (hb : b ≤ 65535) (w : World) : Calls Tryd.prog 69 #[.int .i64 x, .int .i64 y, .bool low] w fun e w' => e = .returned (.bool (possP a b low)) ∧ w = w' := by
  subst hx; subst hy
  exact possible_any a b low (by omega) (by omega) w
set_option maxHeartbeats 4000000 in
set_option maxRecDepth 100000 in
theorem unit_any (s : ByteArray) (k : Nat) (low : Bool) (hs : s.size ≤ 1048576) (hk : k ≤ s.size) (w : World) : Calls Tryd.prog 64 #[.string s, .int .i64 k, .bool low] w fun e w' => e = .returned (unitV (unitP low (s.data.toList.drop k))) ∧ w = w' := by
  obtain ⟨m, hm⟩ : ∃ m, m = min (k + 6) s.size := ⟨_, rfl⟩
  obtain ⟨r, hr⟩ : ∃ r, s.extract k m = r := ⟨_, rfl⟩
  have hrl : r.data.toList = (s.data.toList.drop k).take 6 := by
    rw [← hr, ← Lib.toList_data, ext_sub]
    unfold sub
    by_cases h : k + 6 ≤ s.size
    · rw [show m - k = 6 from by omega]
    · have hl : s.data.toList.length = s.size := by simp
      rw [List.take_of_length_le (by rw [List.length_drop, hl]; omega), List.take_of_length_le (by rw [List.length_drop, hl]; omega)]
  have hrs : r.size = m - k := by rw [← hr]; simp; omega
  have hu : unitP low (s.data.toList.drop k) = if beginsU r.data.toList = true then unitD low 4 0 (r.data.toList.drop 2) else .bad := by
    rw [← unitP_take, unitP_cut, ← hrl]
  have hr6 : r.size ≤ 6 := by omega
  have hmm : (k + 6 ≤ s.size ∧ m = k + 6) ∨ (s.size < k + 6 ∧ m = s.size) := by omega
  have hkm : k ≤ m := by omega
  have hms : m ≤ s.size := by omega
  clear hm hrs
  obtain ⟨n2, hn2⟩ : ∃ n, n = min 2 r.size := ⟨_, rfl⟩
  obtain ⟨p2, hp2⟩ : ∃ p, r.extract 0 n2 = p := ⟨_, rfl⟩
  have hpre := hasP_take r n2 hn2
  rw [hp2] at hpre
  have HP := Lib.hid (fun W => has_any ⟨#[92, 117]⟩ p2 (by decide) (by rw [← hp2]; simp; omega) W)
  rw [hpre] at HP
  have hnn : (2 ≤ r.size ∧ n2 = 2) ∨ (r.size < 2 ∧ n2 = r.size) := by omega
  have hn22 : n2 ≤ r.size := by omega
  have hRL : r.data.toList.length = r.size := by simp
  have HRL := Lib.hid hRL
  clear hn2 hpre hrl hRL
  have HU := Lib.hid hu
  clear hu
  obtain ⟨u, hu⟩ : ∃ u, u = unitP low (s.data.toList.drop k) := ⟨_, rfl⟩
  rw [← hu] at HU ⊢
  clear hu
  obtain ⟨bu, hbu⟩ : ∃ bu, beginsU r.data.toList = bu := ⟨_, rfl⟩
  rw [hbu] at HU HP
  clear hbu
  go_enter Tryd.func64, Tryd.ntmps64
  go_upto_region 1 with fail
  go_cut [8] (fun t8 wx => wx = w ∧ t8 = .string r)
  case first => as_aux_lemma =>
    rcases hmm with ⟨h1, h2⟩ | ⟨h1, h2⟩
    all_goals
      have H2 := Lib.hid h2
      clear h2
      go_wp2_with fail
      go_meet
      refine ⟨rfl, ?_⟩
      rw [← hr, H2.out]
  case rest =>
    obtain ⟨hweq, rfl⟩ := hcut
    have hweq := hweq.symm
    subst hweq
    clear hr hmm hkm hms
    go_upto_region 2 with fail
    go_cut [28] (fun t28 wx => wx = w ∧ t28 = .bool (!bu))
    case first => as_aux_lemma =>
      rcases hnn with ⟨h1, h2⟩ | ⟨h1, h2⟩
      · subst h2
        go_wp2_with (go_at_call 32; refine (HP.out _).mono ?_; rintro e w' ⟨rfl, rfl⟩)
        go_meet
        exact ⟨rfl, rfl⟩
      · subst h2
        have hpr : p2 = r := by rw [← hp2]; exact ByteArray.extract_zero_size
        subst hpr
        go_wp2_with (go_at_call 32; refine (HP.out _).mono ?_; rintro e w' ⟨rfl, rfl⟩)
        go_meet
        exact ⟨rfl, rfl⟩
    case rest =>
      obtain ⟨hweq, rfl⟩ := hcut
      have hweq := hweq.symm
      subst hweq
      clear hp2 hnn hn22 HP
      cases bu with
      | false =>
        have hub : u = .bad := by have := HU.out; rw [if_neg Bool.false_ne_true] at this; exact this
        subst hub
        clear HU
        go_wp2_with fail
        go_ret2
        exact ⟨rfl, rfl⟩
      | true =>
        have hut : u = unitD low 4 0 (r.data.toList.drop 2) := by have := HU.out; rw [if_pos rfl] at this; exact this
        have HA : Hid (UnitAt low r.data.toList u 2 0 65536) := Lib.hid ⟨0, by omega, by omega, by simp, by simp, by simp, hut⟩
        clear HU hut
        go_wp2
        go_loop [9, 10, 11] (fun ta tc tj => ∃ (j : Nat) (a c : Int), 2 ≤ j ∧ (j ≤ r.size ∨ j = 2) ∧ tj = .int .i64 j ∧ ta = .int .i64 a ∧ tc = .int .i64 c ∧ Hid (UnitAt low r.data.toList u j a c)) (fun _ _ tj => 7 - (intOf tj).toNat)
        case atStart => exact ⟨2, 0, 65536, Nat.le_refl _, .inr rfl, rfl, rfl, rfl, HA⟩
        case round =>
          clear HA
          obtain ⟨j, a, c, hj2, hj6, rfl, rfl, rfl, HA⟩ := hrel
          obtain ⟨ra, rb, rc, rd⟩ := HA.out.range
          by_cases hlt : j < r.size
          · obtain ⟨b, hb⟩ : ∃ b, r[j] = b := ⟨_, rfl⟩
            have HB := Lib.hid (at_list hlt hb)
            have hj : j < 6 := by omega
            rcases hexP_none_or b with hx | ⟨d, hx, hd⟩
            · obtain ⟨hub, c', hc, hc1, hc2⟩ := HA.out.bad hj HB.out hx
              subst hub
              have HX := Lib.hid (hexno b hx)
              clear hx
              go_wp2_with (go_at_call 68; refine (HX.out _).mono ?_; rintro e w' ⟨rfl, rfl⟩)
              go_ret2
              exact ⟨rfl, rfl⟩
            · obtain ⟨c', p, A, B, hc, hp, hA, hB, hA1, hB1, hc1, hc2, hp1, hp2, hd2, hyes, hno⟩ := HA.out.next hj HB.out hx
              have HX := Lib.hid (hexyes b d hx)
              have HYES := Lib.hid hyes
              have HNO := Lib.hid hno
              have HPO := Lib.hid (fun W => possz (a + p) (a + p + c' - 1) A B low hA hB hA1 hB1 W)
              clear hx hyes hno hA hB hA1 hB1
              cases hpo : possP A B low with
              | true =>
                rw [hpo] at HPO
                have HN := Lib.hid (HYES.out hpo)
                clear hpo
                go_wp2_with (first | (go_at_call 68; refine (HX.out _).mono ?_; rintro e w' ⟨rfl, rfl⟩) | (go_at_call 69; refine (HPO.out _).mono ?_; rintro e w' ⟨rfl, rfl⟩))
                go_round
                case rel => exact ⟨j + 1, a + p, c', by omega, by omega, by go_num, rfl, rfl, HN⟩
                case measure => simp [intOf]; omega
              | false =>
                rw [hpo] at HPO
                have hub := HNO.out hpo
                subst hub
                clear hpo
                go_wp2_with (first | (go_at_call 68; refine (HX.out _).mono ?_; rintro e w' ⟨rfl, rfl⟩) | (go_at_call 69; refine (HPO.out _).mono ?_; rintro e w' ⟨rfl, rfl⟩))
                go_ret2
                exact ⟨rfl, rfl⟩
          · obtain ⟨h1, h2⟩ := HA.out.done (by rw [HRL.out]; omega)
            by_cases h6 : r.size < 6
            · have hut := h1 (by omega)
              subst hut
              clear h1 h2
              go_wp2
              go_ret2
              exact ⟨rfl, rfl⟩
            · obtain ⟨n, hn, hu⟩ := h2 (by omega)
              subst hn
              subst hu
              clear h1 h2
              go_wp2
              go_ret2
              exact ⟨rfl, rfl⟩
end Go.Proofs.YtgclmnlnbjjgkaaDoor
