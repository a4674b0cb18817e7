/- The contract of the reference's four digits. -/
import Derived.Test.YtgclmnlnbjjgkaaGreatDoorJl3
import Derived.Test.YtgclmnlnbjjgkaaGreatDoorJl6
set_option linter.unusedVariables false
set_option linter.unusedSimpArgs false
namespace Go.Proofs.YtgclmnlnbjjgkaaGreatDoor
open Go.RowKit
theorem rhexno (b : UInt8) (h : hexP b = none) (w : World) : Calls Tryz.prog 89 #[.int .u8 b.toNat] w fun e w' => e = .returned (.tuple #[.int .i64 0, .bool false]) ∧ w = w' := by
  have := rhex_any b w
  rw [h] at this; exact this
theorem rhexyes (b : UInt8) (d : Nat) (h : hexP b = some d) (w : World) : Calls Tryz.prog 89 #[.int .u8 b.toNat] w fun e w' => e = .returned (.tuple #[.int .i64 d, .bool true]) ∧ w = w' := by
  have := rhex_any b w
  rw [h] at this; exact this
def QuadPost (u : U) (avail : Nat) (w : World) (e : Ending) (w' : World) : Prop := w = w' ∧ match u with
  | .ok n => e = .returned (.tuple #[.int .i64 4, .int .i64 n])
  | .trunc => e = .returned (.tuple #[.int .i64 avail, .int .i64 0]) ∧ avail < 4
  | .bad => ∃ j : Nat, j < 4 ∧ e = .returned (.tuple #[.int .i64 j, .int .i64 (-1)])
theorem quadR_step {lo hi m n d j : Nat} {b : UInt8} {l : List UInt8} (hl : l[j]? = some b) (hb : hexP b = some d) : quadR lo hi (m + 1) n (l.drop j) = if (n * 16 + d + 1) * 16 ^ m - 1 < lo ∨ hi < (n * 16 + d) * 16 ^ m then .bad else quadR lo hi m (n * 16 + d) (l.drop (j + 1)) := by
  obtain ⟨h1, rfl⟩ := List.getElem?_eq_some_iff.1 hl
  rw [List.drop_eq_getElem_cons h1, quadR, hb]
theorem quadR_stop {lo hi m n j : Nat} {b : UInt8} {l : List UInt8} (hl : l[j]? = some b) (hb : hexP b = none) : quadR lo hi (m + 1) n (l.drop j) = .bad := by
  obtain ⟨h1, rfl⟩ := List.getElem?_eq_some_iff.1 hl
  rw [List.drop_eq_getElem_cons h1, quadR, hb]
theorem quadR_nil {lo hi m n : Nat} (h : m ≠ 0) : quadR lo hi m n [] = .trunc := by
  obtain ⟨m, rfl⟩ : ∃ x, m = x + 1 := ⟨m - 1, by omega⟩
  rw [quadR]
theorem zor4 (z d : Int) (h0 : 0 ≤ z) (h1 : z ≤ 65536) (h2 : 0 ≤ d) (h3 : d < 16) : bits .or .i64 (z * 16) d = z * 16 + d := by
  obtain ⟨a, rfl⟩ := Int.eq_ofNat_of_zero_le h0
  obtain ⟨c, rfl⟩ := Int.eq_ofNat_of_zero_le h2
  have h := or_low 4 a c (by omega)
  have h4 := or_i64 (2 ^ 4 * a) c (by omega) (by omega)
  rw [h] at h4
  have e1 : ((2 ^ 4 * a : Nat) : Int) = (a : Int) * 16 := by omega
  have e2 : ((2 ^ 4 * a + c : Nat) : Int) = (a : Int) * 16 + (c : Int) := by omega
  rw [e1, e2] at h4
  exact h4
/-- Where the reading of the digits stands. -/
def QuadAt (lo hi : Nat) (l : List UInt8) (u : U) (j : Nat) (z : Int) : Prop := ∃ m : Nat, j ≤ 4 ∧ z = (m : Int) ∧ m < 16 ^ j ∧ u = quadR lo hi (4 - j) m (l.drop j)
theorem QuadAt.range {lo hi : Nat} {l : List UInt8} {u : U} {j : Nat} {z : Int} (h : QuadAt lo hi l u j z) : 0 ≤ z ∧ z ≤ 65535 ∧ (j < 4 → z ≤ 4095) := by
  obtain ⟨m, h1, rfl, h5, -⟩ := h
  have hj : j = 0 ∨ j = 1 ∨ j = 2 ∨ j = 3 ∨ j = 4 := by omega
  rcases hj with rfl | rfl | rfl | rfl | rfl <;> simp at h5 ⊢ <;> omega
theorem QuadAt.next {lo hi : Nat} {l : List UInt8} {u : U} {j d : Nat} {z : Int} {b : UInt8} (h : QuadAt lo hi l u j z) (hj : j < 4) (hl : l[j]? = some b) (hb : hexP b = some d) (p : Int) (hp : p = ((16 ^ (3 - j) : Nat) : Int)) :
    ((z * 16 + d + 1) * p - 1 < (lo : Int) ∨ (hi : Int) < (z * 16 + d) * p → u = .bad) ∧ (¬ ((z * 16 + d + 1) * p - 1 < (lo : Int)) → ¬ ((hi : Int) < (z * 16 + d) * p) → QuadAt lo hi l u (j + 1) (z * 16 + d)) := by
  obtain ⟨m, h1, rfl, h5, hu⟩ := h
  subst hp
  have hd := hexP_lt hb
  have hm : 4 - j = (3 - j) + 1 := by omega
  rw [hm, quadR_step hl hb] at hu
  have e6 : 4 - (j + 1) = 3 - j := by omega
  have hp1 : 1 ≤ 16 ^ (3 - j) := Nat.pow_pos (by omega)
  have E1 : (((m : Int) * 16 + (d : Int) + 1) * ((16 ^ (3 - j) : Nat) : Int)) = (((m * 16 + d + 1) * 16 ^ (3 - j) : Nat) : Int) := by
    rw [Int.natCast_mul]; rfl
  have E2 : (((m : Int) * 16 + (d : Int)) * ((16 ^ (3 - j) : Nat) : Int)) = (((m * 16 + d) * 16 ^ (3 - j) : Nat) : Int) := by
    rw [Int.natCast_mul]; rfl
  rw [E1, E2]
  have E3 : 1 ≤ (m * 16 + d + 1) * 16 ^ (3 - j) := Nat.mul_pos (by omega) hp1
  refine ⟨fun hh => ?_, fun g1 g2 => ?_⟩
  · rw [if_pos (by omega)] at hu
    exact hu
  · rw [if_neg (by omega)] at hu
    refine ⟨m * 16 + d, by omega, by omega, ?_, by rw [e6]; exact hu⟩
    have hjj : j = 0 ∨ j = 1 ∨ j = 2 ∨ j = 3 := by omega
    rcases hjj with rfl | rfl | rfl | rfl <;> simp at h5 ⊢ <;> omega
theorem QuadAt.bad {lo hi : Nat} {l : List UInt8} {u : U} {j : Nat} {z : Int} {b : UInt8} (h : QuadAt lo hi l u j z) (hj : j < 4) (hl : l[j]? = some b) (hb : hexP b = none) : u = .bad := by
  obtain ⟨m, h1, rfl, h5, hu⟩ := h
  have hm : 4 - j = (3 - j) + 1 := by omega
  rw [hm, quadR_stop hl hb] at hu
  exact hu
theorem QuadAt.short {lo hi : Nat} {l : List UInt8} {u : U} {j : Nat} {z : Int} (h : QuadAt lo hi l u j z) (hj : j < 4) (hl : l.length ≤ j) : u = .trunc := by
  obtain ⟨m, h1, rfl, h5, hu⟩ := h
  rw [List.drop_eq_nil_of_le hl, quadR_nil (by omega)] at hu
  exact hu
theorem QuadAt.done {lo hi : Nat} {l : List UInt8} {u : U} {z : Int} (h : QuadAt lo hi l u 4 z) : ∃ m : Nat, z = (m : Int) ∧ u = .ok m := by
  obtain ⟨m, h1, h2, h5, hu⟩ := h
  exact ⟨m, h2, by rw [hu]; simp [quadR]⟩
set_option maxHeartbeats 10000000 in
set_option maxRecDepth 100000 in
theorem rquad_any (s : ByteArray) (k : Nat) (lo hi : Nat) (zl zh : Int) (hzl : zl = (lo : Int)) (hzh : zh = (hi : Int)) (hl0 : 0 ≤ zl ∧ zl ≤ 65535) (hh0 : 0 ≤ zh ∧ zh ≤ 65535) (hs : s.size ≤ 1048576) (hk : k ≤ s.size) (w : World) :
    Calls Tryz.prog 88 #[.string s, .int .i64 k, .int .i64 zl, .int .i64 zh] w (QuadPost (quadR lo hi 4 0 (s.data.toList.drop k)) (s.size - k) w) := by
  have hl : s.data.toList.length = s.size := by simp
  have HL := Lib.hid hl
  obtain ⟨u, hu⟩ : ∃ u, quadR lo hi 4 0 (s.data.toList.drop k) = u := ⟨_, rfl⟩
  have HA : Hid (QuadAt lo hi (s.data.toList.drop k) u 0 0) := Lib.hid ⟨0, by omega, rfl, by simp, by rw [← hu]; simp⟩
  rw [hu]
  have HZL := Lib.hid hzl
  have HZH := Lib.hid hzh
  obtain ⟨l0, l1⟩ := hl0
  obtain ⟨h0, h1⟩ := hh0
  clear hl hu hzl hzh
  go_enter Tryz.func88, Tryz.ntmps88
  go_wp2
  go_loop [10, 11] (fun tn tj => ∃ (j : Nat) (z : Int), j ≤ 4 ∧ k + j ≤ s.size ∧ tj = .int .i64 j ∧ tn = .int .i64 z ∧ Hid (QuadAt lo hi (s.data.toList.drop k) u j z)) (fun _ tj => 5 - (intOf tj).toNat)
  case atStart => exact ⟨0, 0, by omega, hk, rfl, rfl, HA⟩
  case round =>
    clear HA
    obtain ⟨j, z, hj4, hkj, rfl, rfl, HA⟩ := hrel
    obtain ⟨r1, r2, r3⟩ := HA.out.range
    by_cases hj : j < 4
    · have r4 := r3 hj
      clear r3
      by_cases hend : s.size ≤ k + j
      · have hut := HA.out.short hj (by rw [List.length_drop, HL.out]; omega)
        subst hut
        go_wp2_with fail
        go_ret2
        exact ⟨rfl, by rw [show s.size - k = j from by omega]; rfl, by omega⟩
      · have hlt : k + j < s.size := by omega
        obtain ⟨b, hb⟩ : ∃ b, s[k + j] = b := ⟨_, rfl⟩
        have hbl : (s.data.toList.drop k)[j]? = some b := by rw [List.getElem?_drop]; exact at_list hlt hb
        have HB := Lib.hid hbl
        clear hbl hend
        rcases hexP_none_or b with hx | ⟨d, hx, hd⟩
        · have hub := HA.out.bad hj HB.out hx
          subst hub
          have HX := Lib.hid (rhexno b hx)
          have hor := zor4 z 0 r1 (by omega) (by omega) (by omega)
          clear hx
          go_wp2_with (go_at_call 89; refine (HX.out _).mono ?_; rintro e w' ⟨rfl, rfl⟩)
          go_ret2
          exact ⟨rfl, j, hj, rfl⟩
        · have HX := Lib.hid (rhexyes b d hx)
          have HNX := Lib.hid (fun p hp => HA.out.next hj HB.out hx p hp)
          have hor := zor4 z (d : Int) r1 (by omega) (by omega) (by omega)
          obtain ⟨y, hy⟩ : ∃ y : Int, y = z * 16 + (d : Int) := ⟨_, rfl⟩
          rw [← hy] at hor
          have hy0 : 0 ≤ y := by omega
          have hy1 : y ≤ 65535 := by omega
          have HY := Lib.hid hy
          clear hx hy
          have hjj : j = 0 ∨ j = 1 ∨ j = 2 ∨ j = 3 := by omega
          rcases hjj with rfl | rfl | rfl | rfl
          · have hb0 : s[k] = b := hb
            clear hb
            have hn := HNX.out 4096 (by simp)
            rw [← HY.out] at hn
            by_cases c1 : (y + 1) * 4096 - 1 < zl
            · have hub := hn.1 (.inl (by have := HZL.out; omega))
              subst hub
              clear hn
              go_wp2_with (go_at_call 89; refine (HX.out _).mono ?_; rintro e w' ⟨rfl, rfl⟩)
              go_ret2
              exact ⟨rfl, 0, by omega, rfl⟩
            · by_cases c2 : zh < y * 4096
              · have hub := hn.1 (.inr (by have := HZH.out; omega))
                subst hub
                clear hn
                go_wp2_with (go_at_call 89; refine (HX.out _).mono ?_; rintro e w' ⟨rfl, rfl⟩)
                go_ret2
                exact ⟨rfl, 0, by omega, rfl⟩
              · have HN := Lib.hid (hn.2 (by have := HZL.out; omega) (by have := HZH.out; omega))
                clear hn
                go_wp2_with (go_at_call 89; refine (HX.out _).mono ?_; rintro e w' ⟨rfl, rfl⟩)
                go_round
                case rel => exact ⟨0 + 1, y, by omega, by omega, by go_num, rfl, Lib.hid (by rw [HY.out]; have h := HN.out; rw [HY.out] at h; exact h)⟩
                case measure => simp [intOf]
          · have hn := HNX.out 256 (by simp)
            rw [← HY.out] at hn
            by_cases c1 : (y + 1) * 256 - 1 < zl
            · have hub := hn.1 (.inl (by have := HZL.out; omega))
              subst hub
              clear hn
              go_wp2_with (go_at_call 89; refine (HX.out _).mono ?_; rintro e w' ⟨rfl, rfl⟩)
              go_ret2
              exact ⟨rfl, 1, by omega, rfl⟩
            · by_cases c2 : zh < y * 256
              · have hub := hn.1 (.inr (by have := HZH.out; omega))
                subst hub
                clear hn
                go_wp2_with (go_at_call 89; refine (HX.out _).mono ?_; rintro e w' ⟨rfl, rfl⟩)
                go_ret2
                exact ⟨rfl, 1, by omega, rfl⟩
              · have HN := Lib.hid (hn.2 (by have := HZL.out; omega) (by have := HZH.out; omega))
                clear hn
                go_wp2_with (go_at_call 89; refine (HX.out _).mono ?_; rintro e w' ⟨rfl, rfl⟩)
                go_round
                case rel => exact ⟨1 + 1, y, by omega, by omega, by go_num, rfl, Lib.hid (by rw [HY.out]; have h := HN.out; rw [HY.out] at h; exact h)⟩
                case measure => simp [intOf]
          · have hn := HNX.out 16 (by simp)
            rw [← HY.out] at hn
            by_cases c1 : (y + 1) * 16 - 1 < zl
            · have hub := hn.1 (.inl (by have := HZL.out; omega))
              subst hub
              clear hn
              go_wp2_with (go_at_call 89; refine (HX.out _).mono ?_; rintro e w' ⟨rfl, rfl⟩)
              go_ret2
              exact ⟨rfl, 2, by omega, rfl⟩
            · by_cases c2 : zh < y * 16
              · have hub := hn.1 (.inr (by have := HZH.out; omega))
                subst hub
                clear hn
                go_wp2_with (go_at_call 89; refine (HX.out _).mono ?_; rintro e w' ⟨rfl, rfl⟩)
                go_ret2
                exact ⟨rfl, 2, by omega, rfl⟩
              · have HN := Lib.hid (hn.2 (by have := HZL.out; omega) (by have := HZH.out; omega))
                clear hn
                go_wp2_with (go_at_call 89; refine (HX.out _).mono ?_; rintro e w' ⟨rfl, rfl⟩)
                go_round
                case rel => exact ⟨2 + 1, y, by omega, by omega, by go_num, rfl, Lib.hid (by rw [HY.out]; have h := HN.out; rw [HY.out] at h; exact h)⟩
                case measure => simp [intOf]
          · have hn := HNX.out 1 (by simp)
            rw [← HY.out] at hn
            by_cases c1 : (y + 1) * 1 - 1 < zl
            · have hub := hn.1 (.inl (by have := HZL.out; omega))
              subst hub
              clear hn
              go_wp2_with (go_at_call 89; refine (HX.out _).mono ?_; rintro e w' ⟨rfl, rfl⟩)
              go_ret2
              exact ⟨rfl, 3, by omega, rfl⟩
            · by_cases c2 : zh < y * 1
              · have hub := hn.1 (.inr (by have := HZH.out; omega))
                subst hub
                clear hn
                go_wp2_with (go_at_call 89; refine (HX.out _).mono ?_; rintro e w' ⟨rfl, rfl⟩)
                go_ret2
                exact ⟨rfl, 3, by omega, rfl⟩
              · have HN := Lib.hid (hn.2 (by have := HZL.out; omega) (by have := HZH.out; omega))
                clear hn
                go_wp2_with (go_at_call 89; refine (HX.out _).mono ?_; rintro e w' ⟨rfl, rfl⟩)
                go_round
                case rel => exact ⟨3 + 1, y, by omega, by omega, by go_num, rfl, Lib.hid (by rw [HY.out]; have h := HN.out; rw [HY.out] at h; exact h)⟩
                case measure => simp [intOf]
    · have hje : j = 4 := by omega
      subst hje
      obtain ⟨m, hm, hu⟩ := HA.out.done
      subst hu
      subst hm
      go_wp2_with fail
      go_ret2
      exact ⟨rfl, rfl⟩
end Go.Proofs.YtgclmnlnbjjgkaaGreatDoor
