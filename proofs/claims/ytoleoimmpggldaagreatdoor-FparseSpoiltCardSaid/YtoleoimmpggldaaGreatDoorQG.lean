import Derived.Test.YtoleoimmpggldaaGreatDoorHJ
import Derived.Test.YtoleoimmpggldaaGreatDoorHL
import Derived.Deep.QuietTactic
import Derived.BigQuiet
import Derived.Test.YtoleoimmpggldaaGreatDoorQA
set_option linter.unusedVariables false
set_option linter.unusedSectionVars false
set_option linter.unusedSimpArgs false
set_option maxHeartbeats 10000000
set_option maxRecDepth 100000
namespace Go.Proofs.YtoleoimmpggldaaGreatDoor
open Go.RowKit
theorem rhexno (b : UInt8) (h : hexP b = none) (w : World) : Calls Tryz.prog 115 #[.int .u8 b.toNat] w fun e w' => e = .returned (.tuple #[ι 0, .bool false]) ∧ w = w' := by
 have := rhex_any b w;rw [h] at this; exact this
theorem rhexyes (b : UInt8) (d : Nat) (h : hexP b = some d) (w : World) : Calls Tryz.prog 115 #[.int .u8 b.toNat] w fun e w' => e = .returned (.tuple #[ι d, .bool true]) ∧ w = w' := by
 have := rhex_any b w;rw [h] at this; exact this
def QuadPost (u : U) (avail : Nat) (w : World) (e : Ending) (w' : World) : Prop := w = w' ∧ match u with
 | .ok n => e = .returned (.tuple #[ι 4, ι n])
 | .trunc => e = .returned (.tuple #[ι avail, ι 0]) ∧ avail < 4
 | .bad => ∃ j : Nat, j < 4 ∧ e = .returned (.tuple #[ι j, ι (-1)])
theorem quadR_step {lo hi m n d j : Nat} {b : UInt8} {l : List UInt8} (hl : l[j]? = some b) (hb : hexP b = some d) : quadR lo hi (m + 1) n (l.drop j) = if (n * 16 + d + 1) * 16 ^ m - 1 < lo ∨ hi < (n * 16 + d) * 16 ^ m then .bad else quadR lo hi m (n * 16 + d) (l.drop (j + 1)) := by
 obtain ⟨h1, rfl⟩ := gE.1 hl;rw [List.drop_eq_getElem_cons h1, quadR, hb]
theorem quadR_stop {lo hi m n j : Nat} {b : UInt8} {l : List UInt8} (hl : l[j]? = some b) (hb : hexP b = none) : quadR lo hi (m + 1) n (l.drop j) = .bad := by
 obtain ⟨h1, rfl⟩ := gE.1 hl;rw [List.drop_eq_getElem_cons h1, quadR, hb]
theorem quadR_nil {lo hi m n : Nat} (h : m ≠ 0) : quadR lo hi m n [] = .trunc := by
 obtain ⟨m, rfl⟩ : ∃ x, m = x + 1 := ⟨m - 1, by omega⟩
 rw [quadR]
theorem zor4 (z d : Int) (h0 : 0 ≤ z) (h1 : z ≤ 65536) (h2 : 0 ≤ d) (h3 : d < 16) : bits .or .i64 (z * 16) d = z * 16 + d := by
 obtain ⟨a, rfl⟩ := Int.eq_ofNat_of_zero_le h0;obtain ⟨c, rfl⟩ := Int.eq_ofNat_of_zero_le h2;have h := or_low 4 a c (by omega);have h4 := or_i64 (2 ^ 4 * a) c (by omega) (by omega);rw [h] at h4;have e1 : ((2 ^ 4 * a : Nat) : Int) = (a : Int) * 16 := by omega
 have e2 : ((2 ^ 4 * a + c : Nat) : Int) = (a : Int) * 16 + (c : Int) := by omega
 rw [e1, e2] at h4;exact h4
def QuadAt (lo hi : Nat) (l : List UInt8) (u : U) (j : Nat) (z : Int) : Prop := ∃ m : Nat, j ≤ 4 ∧ z = (m : Int) ∧ m < 16 ^ j ∧ u = quadR lo hi (4 - j) m (l.drop j)
theorem QuadAt.range {lo hi : Nat} {l : List UInt8} {u : U} {j : Nat} {z : Int} (h : QuadAt lo hi l u j z) : 0 ≤ z ∧ z ≤ 65535 ∧ (j < 4 → z ≤ 4095) := by
 obtain ⟨m, h1, rfl, h5, -⟩ := h;have hj : j = 0 ∨ j = 1 ∨ j = 2 ∨ j = 3 ∨ j = 4 := by omega
 rcases hj with rfl | rfl | rfl | rfl | rfl <;> simp at h5 ⊢ <;> omega
theorem QuadAt.next {lo hi : Nat} {l : List UInt8} {u : U} {j d : Nat} {z : Int} {b : UInt8} (h : QuadAt lo hi l u j z) (hj : j < 4) (hl : l[j]? = some b) (hb : hexP b = some d) (p : Int) (hp : p = ((16 ^ (3 - j) : Nat) : Int)) :
 ((z * 16 + d + 1) * p - 1 < (lo : Int) ∨ (hi : Int) < (z * 16 + d) * p → u = .bad) ∧ (¬ ((z * 16 + d + 1) * p - 1 < (lo : Int)) → ¬ ((hi : Int) < (z * 16 + d) * p) → QuadAt lo hi l u (j + 1) (z * 16 + d)) := by
 obtain ⟨m, h1, rfl, h5, hu⟩ := h;subst hp;have hd := hexP_lt hb;have hm : 4 - j = (3 - j) + 1 := by omega
 rw [hm, quadR_step hl hb] at hu;have e6 : 4 - (j + 1) = 3 - j := by omega
 have hp1 : 1 ≤ 16 ^ (3 - j) := Nat.pow_pos (by omega);have E1 : (((m : Int) * 16 + (d : Int) + 1) * ((16 ^ (3 - j) : Nat) : Int)) = (((m * 16 + d + 1) * 16 ^ (3 - j) : Nat) : Int) := by
  rw [Int.natCast_mul]; rfl
 have E2 : (((m : Int) * 16 + (d : Int)) * ((16 ^ (3 - j) : Nat) : Int)) = (((m * 16 + d) * 16 ^ (3 - j) : Nat) : Int) := by
  rw [Int.natCast_mul]; rfl
 rw [E1, E2];have E3 : 1 ≤ (m * 16 + d + 1) * 16 ^ (3 - j) := Nat.mul_pos (by omega) hp1;refine ⟨fun hh => ?_, fun g1 g2 => ?_⟩
 · rw [if_pos (by omega)] at hu;exact hu
 · rw [if_neg (by omega)] at hu;refine ⟨m * 16 + d, by omega, by omega, ?_, by rw [e6]; exact hu⟩;have hjj : j = 0 ∨ j = 1 ∨ j = 2 ∨ j = 3 := by omega
   rcases hjj with rfl | rfl | rfl | rfl <;> simp at h5 ⊢ <;> omega
theorem QuadAt.bad {lo hi : Nat} {l : List UInt8} {u : U} {j : Nat} {z : Int} {b : UInt8} (h : QuadAt lo hi l u j z) (hj : j < 4) (hl : l[j]? = some b) (hb : hexP b = none) : u = .bad := by
 obtain ⟨m, h1, rfl, h5, hu⟩ := h;have hm : 4 - j = (3 - j) + 1 := by omega
 rw [hm, quadR_stop hl hb] at hu;exact hu
theorem QuadAt.short {lo hi : Nat} {l : List UInt8} {u : U} {j : Nat} {z : Int} (h : QuadAt lo hi l u j z) (hj : j < 4) (hl : l.length ≤ j) : u = .trunc := by
 obtain ⟨m, h1, rfl, h5, hu⟩ := h;rw [List.drop_eq_nil_of_le hl, quadR_nil (by omega)] at hu;exact hu
theorem QuadAt.done {lo hi : Nat} {l : List UInt8} {u : U} {z : Int} (h : QuadAt lo hi l u 4 z) : ∃ m : Nat, z = (m : Int) ∧ u = .ok m := by
 obtain ⟨m, h1, h2, h5, hu⟩ := h;exact ⟨m, h2, by rw [hu]; simp [quadR]⟩
theorem rquad_any (s : ByteArray) (k : Nat) (lo hi : Nat) (zl zh : Int) (hzl : zl = (lo : Int)) (hzh : zh = (hi : Int)) (hl0 : 0 ≤ zl ∧ zl ≤ 65535) (hh0 : 0 ≤ zh ∧ zh ≤ 65535) (hs : s.size ≤ 1048576) (hk : k ≤ s.size) (w : World) :
 Calls Tryz.prog 114 #[.string s, ι k, ι zl, ι zh] w (QuadPost (quadR lo hi 4 0 (s.data.toList.drop k)) (s.size - k) w) := by
 have hl : s.data.toList.length = s.size := by simp
 have HL := hI hl;obtain ⟨u, hu⟩ : ∃ u, quadR lo hi 4 0 (s.data.toList.drop k) = u := ⟨_, rfl⟩
 have HA : Hid (QuadAt lo hi (s.data.toList.drop k) u 0 0) := hI ⟨0, by omega, rfl, by simp, by rw [← hu]; simp⟩;rw [hu];have HZL := hI hzl;have HZH := hI hzh;obtain ⟨l0, l1⟩ := hl0;obtain ⟨h0, h1⟩ := hh0;clear hl hu hzl hzh
 go_enter Tryz.func114, Tryz.ntmps114
 go_wp2
 go_loop [10, 11] (fun tn tj => ∃ (j : Nat) (z : Int), j ≤ 4 ∧ k + j ≤ s.size ∧ tj = ι j ∧ tn = ι z ∧ Hid (QuadAt lo hi (s.data.toList.drop k) u j z)) (fun _ tj => 5 - (intOf tj).toNat)
 case atStart => exact ⟨0, 0, by omega, hk, rfl, rfl, HA⟩
 case round =>
  clear HA;obtain ⟨j, z, hj4, hkj, rfl, rfl, HA⟩ := hrel;obtain ⟨r1, r2, r3⟩ := HA.out.range
  by_cases hj : j < 4
  · have r4 := r3 hj;clear r3
    by_cases hend : s.size ≤ k + j
    · have hut := HA.out.short hj (by rw [List.length_drop, HL.out]; omega);subst hut;go_wp2_with fail
      go_ret2
      exact ⟨rfl, by rw [show s.size - k = j from by omega]; rfl, by omega⟩
    · have hlt : k + j < s.size := by omega
      obtain ⟨b, hb⟩ : ∃ b, s[k + j] = b := ⟨_, rfl⟩
      have hbl : (s.data.toList.drop k)[j]? = some b := by rw [List.getElem?_drop]; exact at_list hlt hb
      have HB := hI hbl;clear hbl hend;rcases hexP_none_or b with hx | ⟨d, hx, hd⟩
      · have hub := HA.out.bad hj HB.out hx;subst hub;have HX := hI (rhexno b hx);have hor := zor4 z 0 r1 (by omega) (by omega) (by omega);clear hx
        go_wp2_with (go_at_call 115; refine (HX.out _).mono ?_; rintro e w' ⟨rfl, rfl⟩)
        go_ret2
        exact ⟨rfl, j, hj, rfl⟩
      · have HX := hI (rhexyes b d hx);have HNX := hI (fun p hp => HA.out.next hj HB.out hx p hp);have hor := zor4 z (d : Int) r1 (by omega) (by omega) (by omega);obtain ⟨y, hy⟩ : ∃ y : Int, y = z * 16 + (d : Int) := ⟨_, rfl⟩
        rw [← hy] at hor;have hy0 : 0 ≤ y := by omega
        have hy1 : y ≤ 65535 := by omega
        have HY := hI hy;clear hx hy;have hjj : j = 0 ∨ j = 1 ∨ j = 2 ∨ j = 3 := by omega
        rcases hjj with rfl | rfl | rfl | rfl
        · have hb0 : s[k] = b := hb;clear hb;have hn := HNX.out 4096 (by simp);rw [← HY.out] at hn
          by_cases c1 : (y + 1) * 4096 - 1 < zl
          · have hub := hn.1 (.inl (by have := HZL.out; omega));subst hub;clear hn
            go_wp2_with (go_at_call 115; refine (HX.out _).mono ?_; rintro e w' ⟨rfl, rfl⟩)
            go_ret2
            exact ⟨rfl, 0, by omega, rfl⟩
          · by_cases c2 : zh < y * 4096
            · have hub := hn.1 (.inr (by have := HZH.out; omega));subst hub;clear hn
              go_wp2_with (go_at_call 115; refine (HX.out _).mono ?_; rintro e w' ⟨rfl, rfl⟩)
              go_ret2
              exact ⟨rfl, 0, by omega, rfl⟩
            · have HN := hI (hn.2 (by have := HZL.out; omega) (by have := HZH.out; omega));clear hn
              go_wp2_with (go_at_call 115; refine (HX.out _).mono ?_; rintro e w' ⟨rfl, rfl⟩)
              go_round
              case rel => exact ⟨0 + 1, y, by omega, by omega, by go_num, rfl, hI (by rw [HY.out]; have h := HN.out; rw [HY.out] at h; exact h)⟩
              case measure => simp [intOf]
        · have hn := HNX.out 256 (by simp);rw [← HY.out] at hn
          by_cases c1 : (y + 1) * 256 - 1 < zl
          · have hub := hn.1 (.inl (by have := HZL.out; omega));subst hub;clear hn
            go_wp2_with (go_at_call 115; refine (HX.out _).mono ?_; rintro e w' ⟨rfl, rfl⟩)
            go_ret2
            exact ⟨rfl, 1, by omega, rfl⟩
          · by_cases c2 : zh < y * 256
            · have hub := hn.1 (.inr (by have := HZH.out; omega));subst hub;clear hn
              go_wp2_with (go_at_call 115; refine (HX.out _).mono ?_; rintro e w' ⟨rfl, rfl⟩)
              go_ret2
              exact ⟨rfl, 1, by omega, rfl⟩
            · have HN := hI (hn.2 (by have := HZL.out; omega) (by have := HZH.out; omega));clear hn
              go_wp2_with (go_at_call 115; refine (HX.out _).mono ?_; rintro e w' ⟨rfl, rfl⟩)
              go_round
              case rel => exact ⟨1 + 1, y, by omega, by omega, by go_num, rfl, hI (by rw [HY.out]; have h := HN.out; rw [HY.out] at h; exact h)⟩
              case measure => simp [intOf]
        · have hn := HNX.out 16 (by simp);rw [← HY.out] at hn
          by_cases c1 : (y + 1) * 16 - 1 < zl
          · have hub := hn.1 (.inl (by have := HZL.out; omega));subst hub;clear hn
            go_wp2_with (go_at_call 115; refine (HX.out _).mono ?_; rintro e w' ⟨rfl, rfl⟩)
            go_ret2
            exact ⟨rfl, 2, by omega, rfl⟩
          · by_cases c2 : zh < y * 16
            · have hub := hn.1 (.inr (by have := HZH.out; omega));subst hub;clear hn
              go_wp2_with (go_at_call 115; refine (HX.out _).mono ?_; rintro e w' ⟨rfl, rfl⟩)
              go_ret2
              exact ⟨rfl, 2, by omega, rfl⟩
            · have HN := hI (hn.2 (by have := HZL.out; omega) (by have := HZH.out; omega));clear hn
              go_wp2_with (go_at_call 115; refine (HX.out _).mono ?_; rintro e w' ⟨rfl, rfl⟩)
              go_round
              case rel => exact ⟨2 + 1, y, by omega, by omega, by go_num, rfl, hI (by rw [HY.out]; have h := HN.out; rw [HY.out] at h; exact h)⟩
              case measure => simp [intOf]
        · have hn := HNX.out 1 (by simp);rw [← HY.out] at hn
          by_cases c1 : (y + 1) * 1 - 1 < zl
          · have hub := hn.1 (.inl (by have := HZL.out; omega));subst hub;clear hn
            go_wp2_with (go_at_call 115; refine (HX.out _).mono ?_; rintro e w' ⟨rfl, rfl⟩)
            go_ret2
            exact ⟨rfl, 3, by omega, rfl⟩
          · by_cases c2 : zh < y * 1
            · have hub := hn.1 (.inr (by have := HZH.out; omega));subst hub;clear hn
              go_wp2_with (go_at_call 115; refine (HX.out _).mono ?_; rintro e w' ⟨rfl, rfl⟩)
              go_ret2
              exact ⟨rfl, 3, by omega, rfl⟩
            · have HN := hI (hn.2 (by have := HZL.out; omega) (by have := HZH.out; omega));clear hn
              go_wp2_with (go_at_call 115; refine (HX.out _).mono ?_; rintro e w' ⟨rfl, rfl⟩)
              go_round
              case rel => exact ⟨3 + 1, y, by omega, by omega, by go_num, rfl, hI (by rw [HY.out]; have h := HN.out; rw [HY.out] at h; exact h)⟩
              case measure => simp [intOf]
  · have hje : j = 4 := by omega
    subst hje;obtain ⟨m, hm, hu⟩ := HA.out.done;subst hu;subst hm;go_wp2_with fail
    go_ret2
    exact ⟨rfl, rfl⟩
end Go.Proofs.YtoleoimmpggldaaGreatDoor
namespace Go.Proofs.YtoleoimmpggldaaGreatDoor
open Go.RowKit
def rescV : Esc → Value
 | .ok r n => .tuple #[ι r, ι n]
 | .trunc => .tuple #[ι 0, ι 0]
 | .bad => .tuple #[ι 0, ι (-1)]
theorem quad_as {s : ByteArray} {k lo hi : Nat} {zl zh : Int} {u : U} (hzl : zl = (lo : Int)) (hzh : zh = (hi : Int)) (hl0 : 0 ≤ zl ∧ zl ≤ 65535) (hh0 : 0 ≤ zh ∧ zh ≤ 65535) (hs : s.size ≤ 1048576) (hk : k ≤ s.size) (h : quadR lo hi 4 0 (s.data.toList.drop k) = u) (w : World) :
 Calls Tryz.prog 114 #[.string s, ι k, ι zl, ι zh] w (QuadPost u (s.size - k) w) := by
 rw [← h]; exact rquad_any s k lo hi zl zh hzl hzh hl0 hh0 hs hk w
theorem quad_ok {f : FuncId} {args : Array Value} {w : World} {n a : Nat} (h : Calls Tryz.prog f args w (QuadPost (.ok n) a w)) : Calls Tryz.prog f args w fun e w' => e = .returned (.tuple #[ι 4, ι n]) ∧ w = w' :=
 h.mono fun e w' h => ⟨h.2, h.1⟩
theorem quad_trunc {f : FuncId} {args : Array Value} {w : World} {a : Nat} (h : Calls Tryz.prog f args w (QuadPost .trunc a w)) : Calls Tryz.prog f args w fun e w' => e = .returned (.tuple #[ι a, ι 0]) ∧ a < 4 ∧ w = w' :=
 h.mono fun e w' h => ⟨h.2.1, h.2.2, h.1⟩
theorem quad_bad {f : FuncId} {args : Array Value} {w : World} {a : Nat} (h : Calls Tryz.prog f args w (QuadPost .bad a w)) : Calls Tryz.prog f args w fun e w' => ∃ j : Nat, j < 4 ∧ e = .returned (.tuple #[ι j, ι (-1)]) ∧ w = w' :=
 h.mono fun e w' h => by obtain ⟨j, h1, h2⟩ := h.2; exact ⟨j, h1, h2, h.1⟩
def shortR : List UInt8 → U
 | b :: c :: _ => match hexP b, hexP c with
  | some d, some e => if d = 13 ∧ 12 ≤ e then .bad else .trunc
  | _, _ => .trunc
 | _ => .trunc
def firstQ (l : List UInt8) : U → U
 | .bad => .bad
 | .trunc => shortR l
 | .ok n => if 56320 ≤ n ∧ n ≤ 57343 then .bad else .ok n
theorem firstR_q (l : List UInt8) : firstR l = firstQ l (quadA 4 0 l) := by
 unfold firstR
 cases quadA 4 0 l with
 | bad => rfl
 | ok n => rfl
 | trunc =>
  match l with
  | [] => rfl
  | [b] => rfl
  | b :: c :: t =>
   show _ = shortR (b :: c :: t)
   rw [shortR]
   cases hb : hexP b <;> cases hc : hexP c <;> simp only [hb, hc]
theorem shortR_two {l : List UInt8} {b c : UInt8} (h0 : l[0]? = some b) (h1 : l[1]? = some c) : shortR l = if (hexP b).getD 0 = 13 ∧ 12 ≤ (hexP c).getD 0 then .bad else .trunc := by
 match l, h0, h1 with
 | x :: y :: t, h0, h1 =>
  simp only [List.getElem?_cons_zero, Option.some.injEq] at h0;simp only [List.getElem?_cons_succ, List.getElem?_cons_zero, Option.some.injEq] at h1;subst h0; subst h1;rw [shortR]
  cases hexP x with
  | none => simp
  | some d =>
   cases hexP y with
   | none => simp
   | some e => simp
theorem shortR_few {l : List UInt8} (h : l.length < 2) : shortR l = .trunc := by
 match l, h with
 | [], _ => rfl
 | [b], _ => rfl
theorem hex_get (b : UInt8) (w : World) : Calls Tryz.prog 115 #[.int .u8 b.toNat] w fun e w' => e = .returned (.tuple #[ι ((hexP b).getD 0), .bool (hexP b).isSome]) ∧ w = w' := by
 have := rhex_any b w
 cases h : hexP b with
 | none => rw [h] at this; exact this
 | some d => rw [h] at this; exact this
theorem pairP_0 {n : Nat} {l : List UInt8} (h : l.length ≤ 0) : pairP n l = .trunc := by
 match l, h with
 | [], _ => rfl
theorem pairP_b {n : Nat} {l : List UInt8} {b : UInt8} (h : l[0]? = some b) (hb : b.toNat ≠ 92) : pairP n l = .bad := by
 match l, h with
 | [x], h => simp at h; subst h; rw [pairP, if_neg hb]
 | x :: y :: t, h => simp at h; subst h; rw [pairP, if_neg (fun h => hb h.1)]
theorem pairP_1 {n : Nat} {l : List UInt8} {b : UInt8} (h : l[0]? = some b) (hb : b.toNat = 92) (h1 : l.length ≤ 1) : pairP n l = .trunc := by
 match l, h, h1 with
 | [x], h, _ => simp at h; subst h; rw [pairP, if_pos hb]
theorem pairP_c {n : Nat} {l : List UInt8} {c : UInt8} (h : l[1]? = some c) (hc : c.toNat ≠ 117) : pairP n l = .bad := by
 match l, h with
 | x :: y :: t, h => simp at h; subst h; rw [pairP, if_neg (fun h => hc h.2)]
theorem pairP_2 {n : Nat} {l : List UInt8} {b c : UInt8} (h0 : l[0]? = some b) (h : l[1]? = some c) (hb : b.toNat = 92) (hc : c.toNat = 117) : pairP n l = pairQ n (quadR 56320 57343 4 0 (l.drop 2)) := by
 match l, h0, h with
 | x :: y :: t, h0, h =>
  simp at h h0;subst h; subst h0;rw [pairP, if_pos ⟨hb, hc⟩]
  show _ = pairQ n (quadR 56320 57343 4 0 t)
  cases quadR 56320 57343 4 0 t <;> rfl
def PreAt (l : List UInt8) (j : Nat) : Prop := (1 ≤ j → ∃ b, l[0]? = some b ∧ b.toNat = 92) ∧ (2 ≤ j → ∃ c, l[1]? = some c ∧ c.toNat = 117)
theorem runi_any (s : ByteArray) (k : Nat) (hs : s.size ≤ 1048576) (hk : k + 2 ≤ s.size) (w : World) :
 Calls Tryz.prog 100 #[.string s, ι k] w fun e w' => e = .returned (rescV (uniP (s.data.toList.drop (k + 2)))) ∧ Below w.heap.size w w' := by
 have hl : s.data.toList.length = s.size := by simp
 have HL := hI hl;clear hl;obtain ⟨u, hu⟩ : ∃ u, quadA 4 0 (s.data.toList.drop (k + 2)) = u := ⟨_, rfl⟩
 have hk2 : ((k + 2 : Nat) : Int) = (k : Int) + 2 := by omega
 have hq1 := fun W => quad_as (zl := 0) (zh := 65535) (lo := 0) (hi := 65535) rfl rfl (by omega) (by omega) hs hk ((quad_any 4 0 (s.data.toList.drop (k + 2)) (by decide)).trans hu) W
 rw [hk2] at hq1;have HX : Hid (uniP (s.data.toList.drop (k + 2)) = uniQ (s.data.toList.drop (k + 6)) (firstQ (s.data.toList.drop (k + 2)) u)) := hI (by
  rw [uniP_q, firstR_q, hu, List.drop_drop])
 cases u with
 | bad =>
  have HQ := hI (fun W => quad_bad (hq1 W));rw [HX.out];clear HX hu hq1 hk2
  go_enter Tryz.func100, Tryz.ntmps100
  go_wp2_with (go_at_call 114; refine (HQ.out _).mono ?_; rintro e w' ⟨j, hj, rfl, rfl⟩)
  go_ret2
  exact ⟨rfl, Below.refl _ _⟩
 | trunc =>
  have HQ := hI (fun W => quad_trunc (hq1 W));have HX2 : Hid (uniP (s.data.toList.drop (k + 2)) = uniQ (s.data.toList.drop (k + 6)) (shortR (s.data.toList.drop (k + 2)))) := hI (HX.out.trans rfl);rw [HX2.out];clear HX hu hq1 hk2;obtain ⟨a, ha⟩ : ∃ a, s.size - (k + 2) = a := ⟨_, rfl⟩
  rw [ha] at HQ
  by_cases h2 : a < 2
  · have HW : Hid (shortR (s.data.toList.drop (k + 2)) = .trunc) := hI (shortR_few (by rw [List.length_drop, HL.out]; omega));rw [HW.out]
    go_enter Tryz.func100, Tryz.ntmps100
    go_wp2_with (go_at_call 114; refine (HQ.out _).mono ?_; rintro e w' ⟨rfl, h4, rfl⟩)
    go_ret2
    exact ⟨rfl, Below.refl _ _⟩
  · have hk3 : k + 3 < s.size := by omega
    have hk2' : k + 2 < s.size := by omega
    obtain ⟨b, hb⟩ : ∃ b, s[k + 2] = b := ⟨_, rfl⟩
    obtain ⟨c, hc⟩ : ∃ c, s[k + 3] = c := ⟨_, rfl⟩
    have HS : Hid (shortR (s.data.toList.drop (k + 2)) = if (hexP b).getD 0 = 13 ∧ 12 ≤ (hexP c).getD 0 then .bad else .trunc) := hI (shortR_two (by rw [List.getElem?_drop]; exact at_list hk2' hb) (by rw [List.getElem?_drop]; exact at_list hk3 hc));have HB := hI (fun W => hex_get b W);have HC := hI (fun W => hex_get c W);have hd15 : (hexP b).getD 0 ≤ 15 := by rcases hexP_none_or b with h | ⟨d, h, hd⟩ <;> rw [h] <;> simp <;> omega
    have he15 : (hexP c).getD 0 ≤ 15 := by rcases hexP_none_or c with h | ⟨d, h, hd⟩ <;> rw [h] <;> simp <;> omega
    generalize (hexP b).getD 0 = d at HS HB hd15;generalize (hexP c).getD 0 = e1 at HS HC he15;generalize (hexP b).isSome = x1 at HB;generalize (hexP c).isSome = x2 at HC;have g4 : a < 4 ∨ 4 ≤ a := by omega
    rcases g4 with g4 | g4
    · by_cases h13 : d = 13
      · have q1 : ((d : Int) == 13) = true := by rw [beq_iff_eq]; omega
        by_cases h12 : 12 ≤ e1
        · have hw := HS.out;rw [if_pos ⟨h13, h12⟩] at hw;rw [hw];clear h13 hw HS
          go_enter Tryz.func100, Tryz.ntmps100
          go_wp2_with (first
           | (go_at_call 114; refine (HQ.out _).mono ?_; rintro e w' ⟨rfl, h4, rfl⟩)
           | (go_at_call 115; with_reducible refine (HB.out _).mono ?_; rintro e w' ⟨rfl, rfl⟩)
           | (go_at_call 115; with_reducible refine (HC.out _).mono ?_; rintro e w' ⟨rfl, rfl⟩))
          go_ret2
          exact ⟨rfl, Below.refl _ _⟩
        · have hw := HS.out;rw [if_neg (fun h => h12 h.2)] at hw;rw [hw];clear h13 hw HS
          go_enter Tryz.func100, Tryz.ntmps100
          go_wp2_with (first
           | (go_at_call 114; refine (HQ.out _).mono ?_; rintro e w' ⟨rfl, h4, rfl⟩)
           | (go_at_call 115; with_reducible refine (HB.out _).mono ?_; rintro e w' ⟨rfl, rfl⟩)
           | (go_at_call 115; with_reducible refine (HC.out _).mono ?_; rintro e w' ⟨rfl, rfl⟩))
          go_ret2
          exact ⟨rfl, Below.refl _ _⟩
      · have q1 : ((d : Int) == 13) = false := bF.2 (fun h => h13 (by omega));have hw := HS.out;rw [if_neg (fun h => h13 h.1)] at hw;rw [hw];clear h13 hw HS
        go_enter Tryz.func100, Tryz.ntmps100
        go_wp2_with (first
         | (go_at_call 114; refine (HQ.out _).mono ?_; rintro e w' ⟨rfl, h4, rfl⟩)
         | (go_at_call 115; with_reducible refine (HB.out _).mono ?_; rintro e w' ⟨rfl, rfl⟩)
         | (go_at_call 115; with_reducible refine (HC.out _).mono ?_; rintro e w' ⟨rfl, rfl⟩))
        go_ret2
        exact ⟨rfl, Below.refl _ _⟩
    · go_enter Tryz.func100, Tryz.ntmps100
      go_upto_region 2 with (go_at_call 114; refine (HQ.out _).mono ?_; rintro e w' ⟨rfl, h4, rfl⟩)
      omega
 | ok n =>
  have hn6 := (quadA_lo _ _ _ _ hu).2;have hlen := quadA_len hu;rw [List.length_drop, HL.out] at hlen;have hk6 : k + 6 ≤ s.size := by omega
  obtain ⟨z, hz⟩ : ∃ z : Int, z = (n : Int) := ⟨_, rfl⟩
  have HQ : Hid (∀ W : World, Calls Tryz.prog 114 #[.string s, ι ((k : Int) + 2), ι 0, ι 65535] W fun e w' => e = .returned (.tuple #[ι 4, ι z]) ∧ W = w') := hI (fun W => by rw [hz]; exact quad_ok (hq1 W));have hz0 : 0 ≤ z := by omega
  have hz1 : z ≤ 65535 := by omega
  have HZ := hI hz;rw [HX.out]
  by_cases hbad : 56320 ≤ n ∧ n ≤ 57343
  · have hf : firstQ (s.data.toList.drop (k + 2)) (.ok n) = .bad := if_pos hbad;rw [hf];have g1 : ¬ z < 55296 := by omega
    have g2 : ¬ 57343 < z := by omega
    have g3 : 56319 < z := by omega
    clear hbad hf HX hu hq1 hk2 hn6 hlen hz
    go_enter Tryz.func100, Tryz.ntmps100
    go_wp2_with (go_at_call 114; refine (HQ.out _).mono ?_; rintro e w' ⟨rfl, rfl⟩)
    go_ret2
    exact ⟨rfl, Below.refl _ _⟩
  · have hf : firstQ (s.data.toList.drop (k + 2)) (.ok n) = .ok n := if_neg hbad;rw [hf]
    by_cases hh : 55296 ≤ n ∧ n ≤ 56319
    · have hx : uniQ (s.data.toList.drop (k + 6)) (.ok n) = pairP n (s.data.toList.drop (k + 6)) := if_pos hh;rw [hx];have g1 : ¬ z < 55296 := by omega
      have g2 : ¬ 57343 < z := by omega
      have g3 : ¬ 56319 < z := by omega
      have HH := hI hh;clear hbad hf HX hu hq1 hk2 hn6 hlen hz hh hx;obtain ⟨l6, hl6⟩ : ∃ l6, s.data.toList.drop (k + 6) = l6 := ⟨_, rfl⟩
      have hll : l6.length = s.size - (k + 6) := by rw [← hl6, List.length_drop, HL.out]
      have HLL := hI hll;have HL6 := hI hl6;rw [hl6];clear hll hl6;obtain ⟨x, hx⟩ : ∃ x, pairP n l6 = x := ⟨_, rfl⟩
      rw [hx];have HXX := hI hx;clear hx
      go_enter Tryz.func100, Tryz.ntmps100
      go_upto_region 13 with (go_at_call 114; refine (HQ.out _).mono ?_; rintro e w' ⟨rfl, rfl⟩)
      go_wp2
      go_loopw [12] (fun t wr => ∃ j : Nat, j ≤ 2 ∧ k + 6 + j ≤ s.size ∧ t = ι j ∧ Hid (PreAt l6 j) ∧ Below w.heap.size w wr) (fun t _ => 3 - (intOf t).toNat)
      case atStart => exact ⟨0, by omega, by omega, rfl, hI ⟨by omega, by omega⟩, Below.refl _ _⟩
      case round =>
       obtain ⟨j, hj2, hkj, rfl, HP, hbel⟩ := hrel;have HBE := hI hbel;clear hbel;have hjj : j = 0 ∨ j = 1 ∨ j = 2 := by omega
       rcases hjj with rfl | rfl | rfl
       · by_cases hend : s.size ≤ k + 6
         · have hxt := HXX.out.symm.trans (pairP_0 (by rw [HLL.out]; omega));subst hxt;go_wp2_with fail
           go_ret2
           exact ⟨rfl, HBE.out⟩
         · have hlt : k + 6 < s.size := by omega
           have hcst : ((⟨#[92, 117]⟩ : ByteArray)[0]'(by decide)).toNat = 92 := rfl;have bb0 : (0 : Int) ≤ (k : Int) + 6 := by omega
           have bb1 : (k : Int) + 6 < (s.size : Int) := by omega
           obtain ⟨b, hb⟩ : ∃ b, s[k + 6] = b := ⟨_, rfl⟩
           have HB0 : Hid (l6[0]? = some b) := hI (by rw [← HL6.out, List.getElem?_drop]; exact at_list hlt hb)
           by_cases h92 : b.toNat = 92
           · have HP1 : Hid (PreAt l6 1) := hI ⟨fun _ => ⟨b, HB0.out, h92⟩, fun h => by omega⟩;have q1 : ((b.toNat : Int) != 92) = false := by rw [bne_eq_false_iff_eq]; omega
             clear h92 hend;go_wp2_with fail
             go_quiet (fail)
             go_wp2_with fail
             go_roundw
             case rel => exact ⟨1, by omega, by omega, rfl, HP1, below_drewN HBE.out _⟩
             case measure => simp [intOf]
           · have hxt := HXX.out.symm.trans (pairP_b HB0.out h92);subst hxt;have q1 : ((b.toNat : Int) != 92) = true := by rw [bne_iff_ne]; omega
             clear h92 hend;go_wp2_with fail
             go_quiet (fail)
             go_wp2_with fail
             go_ret2
             exact ⟨rfl, below_drewN HBE.out _⟩
       · obtain ⟨b, hb0, hb92⟩ := HP.out.1 (Nat.le_refl _);have HB0 := hI hb0;have HB92 := hI hb92;clear hb0 hb92
         by_cases hend : s.size ≤ k + 7
         · have hxt := HXX.out.symm.trans (pairP_1 HB0.out HB92.out (by rw [HLL.out]; omega));subst hxt;go_wp2_with fail
           go_ret2
           exact ⟨rfl, HBE.out⟩
         · have hlt : k + 6 + 1 < s.size := by omega
           have hcst : ((⟨#[92, 117]⟩ : ByteArray)[1]'(by decide)).toNat = 117 := rfl;have bb0 : (0 : Int) ≤ (k : Int) + 6 + 1 := by omega
           have bb1 : (k : Int) + 6 + 1 < (s.size : Int) := by omega
           obtain ⟨c, hc⟩ : ∃ c, s[k + 6 + 1] = c := ⟨_, rfl⟩
           have HC0 : Hid (l6[1]? = some c) := hI (by rw [← HL6.out, List.getElem?_drop]; exact at_list hlt hc)
           by_cases h117 : c.toNat = 117
           · have HP1 : Hid (PreAt l6 2) := hI ⟨fun _ => ⟨b, HB0.out, HB92.out⟩, fun _ => ⟨c, HC0.out, h117⟩⟩;have q1 : ((c.toNat : Int) != 117) = false := by rw [bne_eq_false_iff_eq]; omega
             clear h117 hend;go_wp2_with fail
             go_quiet (fail)
             go_wp2_with fail
             go_roundw
             case rel => exact ⟨2, by omega, by omega, rfl, HP1, below_drewN HBE.out _⟩
             case measure => simp [intOf]
           · have hxt := HXX.out.symm.trans (pairP_c HC0.out h117);subst hxt;have q1 : ((c.toNat : Int) != 117) = true := by rw [bne_iff_ne]; omega
             clear h117 hend;go_wp2_with fail
             go_quiet (fail)
             go_wp2_with fail
             go_ret2
             exact ⟨rfl, below_drewN HBE.out _⟩
       · obtain ⟨b, hb0, hb92⟩ := HP.out.1 (by omega);obtain ⟨c, hc0, hc117⟩ := HP.out.2 (Nat.le_refl _);have hp2 := pairP_2 (n := n) hb0 hc0 hb92 hc117;have hxq := HXX.out.symm.trans hp2;rw [← HL6.out, List.drop_drop] at hxq;clear hb0 hb92 hc0 hc117 hp2;obtain ⟨u2, hu2⟩ : ∃ u2, quadR 56320 57343 4 0 (s.data.toList.drop (k + 6 + 2)) = u2 := ⟨_, rfl⟩
         rw [hu2] at hxq;have hk8 : ((k + 6 + 2 : Nat) : Int) = (k : Int) + 8 := by omega
         have hq2 := fun W => quad_as (zl := 56320) (zh := 57343) (lo := 56320) (hi := 57343) rfl rfl (by omega) (by omega) hs hkj hu2 W
         rw [hk8] at hq2
         cases u2 with
         | bad =>
          have HQ2 := hI (fun W => quad_bad (hq2 W));subst hxq;clear hu2 hq2 hk8
          go_wp2_with (go_at_call 114; refine (HQ2.out _).mono ?_; rintro e w' ⟨i, hi, rfl, rfl⟩)
          go_ret2
          exact ⟨rfl, HBE.out⟩
         | trunc =>
          have HQ2 := hI (fun W => quad_trunc (hq2 W));subst hxq;clear hu2 hq2 hk8
          go_wp2_with (go_at_call 114; refine (HQ2.out _).mono ?_; rintro e w' ⟨rfl, h4, rfl⟩)
          go_ret2
          exact ⟨rfl, HBE.out⟩
         | ok m =>
          have hm := quadR_range hu2 (by omega);obtain ⟨y, hy⟩ : ∃ y : Int, y = (m : Int) := ⟨_, rfl⟩
          have HQ2 : Hid (∀ W : World, Calls Tryz.prog 114 #[.string s, ι ((k : Int) + 8), ι 56320, ι 57343] W fun e w' => e = .returned (.tuple #[ι 4, ι y]) ∧ W = w') := hI (fun W => by rw [hy]; exact quad_ok (hq2 W));have y1 : 56320 ≤ y := by omega
          have y2 : y ≤ 57343 := by omega
          have HY := hI hy;have z1 : 55296 ≤ z := by have := HH.out; have := HZ.out; omega
          have z2 : z ≤ 56319 := by omega
          subst hxq;clear hu2 hq2 hk8 hm hy;have e1 : ((65536 + (n - 55296) * 1024 + (m - 56320) : Nat) : Int) = 65536 + (z - 55296) * 1024 + (y - 56320) := by have := HZ.out; have := HY.out; have := HH.out; omega
          have HFIN : Hid (rescV (pairQ n (.ok m)) = .tuple #[ι (65536 + (z - 55296) * 1024 + (y - 56320)), ι 12]) := hI (by rw [← e1]; rfl);clear e1
          go_wp2_with (go_at_call 114; refine (HQ2.out _).mono ?_; rintro e w' ⟨rfl, rfl⟩)
          go_ret2
          exact ⟨by rw [HFIN.out]; rfl, HBE.out⟩
    · have hx : uniQ (s.data.toList.drop (k + 6)) (.ok n) = .ok n 6 := if_neg hh;rw [hx]
      by_cases g1 : z < 55296
      · clear hbad hf HX hu hq1 hk2 hn6 hlen hz hh hx
        go_enter Tryz.func100, Tryz.ntmps100
        go_wp2_with (go_at_call 114; refine (HQ.out _).mono ?_; rintro e w' ⟨rfl, rfl⟩)
        go_ret2
        exact ⟨by rw [HZ.out]; rfl, Below.refl _ _⟩
      · have g2 : 57343 < z := by omega
        clear hbad hf HX hu hq1 hk2 hn6 hlen hz hh hx
        go_enter Tryz.func100, Tryz.ntmps100
        go_wp2_with (go_at_call 114; refine (HQ.out _).mono ?_; rintro e w' ⟨rfl, rfl⟩)
        go_ret2
        exact ⟨by rw [HZ.out]; rfl, Below.refl _ _⟩
end Go.Proofs.YtoleoimmpggldaaGreatDoor
namespace Go.Proofs.YtoleoimmpggldaaGreatDoor
open Go.RowKit
theorem resc_any (s : ByteArray) (k : Nat) (hs : s.size ≤ 1048576) (hk : k + 1 ≤ s.size) (w : World) :
 Calls Tryz.prog 81 #[.string s, ι k] w fun e w' => e = .returned (rescV (escP (s.data.toList.drop (k + 1)))) ∧ Below w.heap.size w w' := by
 have hl : s.data.toList.length = s.size := by simp
 by_cases hlt : k + 1 < s.size
 · obtain ⟨b, hb⟩ : ∃ b, s[k + 1] = b := ⟨_, rfl⟩
   have h2 := at_list hlt hb;have hd : s.data.toList.drop (k + 1) = b :: s.data.toList.drop (k + 2) := by
    obtain ⟨g, hg⟩ := gE.1 h2;rw [List.drop_eq_getElem_cons g, hg]
   have HN := hI (fun (hb : b.toNat = 117) W => runi_any s k hs (by omega) W);rw [hd];clear h2 hd hl;have hne : (k : Int) + 1 < (s.size : Int) := by omega
   have hb255 := UInt8.toNat_lt b;have HX : Hid (escP (b :: s.data.toList.drop (k + 2)) = if b.toNat = 34 ∨ b.toNat = 92 ∨ b.toNat = 47 then .ok b.toNat 2
    else if b.toNat = 98 then .ok 8 2 else if b.toNat = 102 then .ok 12 2 else if b.toNat = 110 then .ok 10 2 else if b.toNat = 114 then .ok 13 2 else if b.toNat = 116 then .ok 9 2
    else if b.toNat = 117 then uniP (s.data.toList.drop (k + 2)) else .bad) := hI (by rw [escP])
   obtain ⟨x, hx⟩ : ∃ x, uniP (s.data.toList.drop (k + 2)) = x := ⟨_, rfl⟩
   rw [HX.out];rw [hx] at HN ⊢;clear HX hx;have hcase : (b.toNat = 34 ∨ b.toNat = 92 ∨ b.toNat = 47 ∨ b.toNat = 98 ∨ b.toNat = 102 ∨ b.toNat = 110 ∨ b.toNat = 114 ∨ b.toNat = 116) ∨ b.toNat = 117 ∨ (b.toNat ≠ 34 ∧ b.toNat ≠ 92 ∧ b.toNat ≠ 47 ∧ b.toNat ≠ 98 ∧ b.toNat ≠ 102 ∧ b.toNat ≠ 110 ∧ b.toNat ≠ 114 ∧ b.toNat ≠ 116 ∧ b.toNat ≠ 117) := by omega
   rcases hcase with hc | h | ⟨n1, n2, n3, n4, n5, n6, n7, n8, n9⟩
   · rcases hc with h | h | h | h | h | h | h | h
     all_goals
      rw [h];simp only [or_true, true_or, if_true, if_false, Nat.reduceEqDiff, or_self];clear HN
      go_enter Tryz.func81, Tryz.ntmps81
      go_wp2_with fail
      go_ret2
      exact ⟨rfl, Below.refl _ _⟩
   · rw [if_neg (by omega), if_neg (by omega), if_neg (by omega), if_neg (by omega), if_neg (by omega), if_neg (by omega), if_pos h];have HN2 := hI (HN.out h);clear HN
     cases x with
     | ok r n =>
      simp only [rescV] at HN2 ⊢
      go_enter Tryz.func81, Tryz.ntmps81
      go_wp2_with (go_at_call 100; refine (HN2.out _).mono ?_; rintro e w' ⟨rfl, hb'⟩)
      go_ret2
      exact ⟨rfl, hb'⟩
     | trunc =>
      simp only [rescV] at HN2 ⊢
      go_enter Tryz.func81, Tryz.ntmps81
      go_wp2_with (go_at_call 100; refine (HN2.out _).mono ?_; rintro e w' ⟨rfl, hb'⟩)
      go_ret2
      exact ⟨rfl, hb'⟩
     | bad =>
      simp only [rescV] at HN2 ⊢
      go_enter Tryz.func81, Tryz.ntmps81
      go_wp2_with (go_at_call 100; refine (HN2.out _).mono ?_; rintro e w' ⟨rfl, hb'⟩)
      go_ret2
      exact ⟨rfl, hb'⟩
   · rw [if_neg (by omega), if_neg (by omega), if_neg (by omega), if_neg (by omega), if_neg (by omega), if_neg (by omega), if_neg (by omega)];clear HN;have m1 : ((b.toNat : Int) == 34) = false := bF.2 (fun h => n1 (by omega));have m2 : ((b.toNat : Int) == 92) = false := bF.2 (fun h => n2 (by omega));have m3 : ((b.toNat : Int) == 47) = false := bF.2 (fun h => n3 (by omega));have m4 : ((b.toNat : Int) == 98) = false := bF.2 (fun h => n4 (by omega));have m5 : ((b.toNat : Int) == 102) = false := bF.2 (fun h => n5 (by omega));have m6 : ((b.toNat : Int) == 110) = false := bF.2 (fun h => n6 (by omega));have m7 : ((b.toNat : Int) == 114) = false := bF.2 (fun h => n7 (by omega));have m8 : ((b.toNat : Int) == 116) = false := bF.2 (fun h => n8 (by omega));have m9 : ((b.toNat : Int) == 117) = false := bF.2 (fun h => n9 (by omega));clear n1 n2 n3 n4 n5 n6 n7 n8 n9
     go_enter Tryz.func81, Tryz.ntmps81
     go_wp2_with fail
     go_ret2
     exact ⟨rfl, Below.refl _ _⟩
 · have hd : s.data.toList.drop (k + 1) = [] := List.drop_eq_nil_of_le (by rw [hl]; omega);rw [hd];have hne : (s.size : Int) ≤ (k : Int) + 1 := by omega
   clear hd hl
   go_enter Tryz.func81, Tryz.ntmps81
   go_wp2_with fail
   go_ret2
   exact ⟨rfl, Below.refl _ _⟩
end Go.Proofs.YtoleoimmpggldaaGreatDoor
namespace Go.Proofs.YtoleoimmpggldaaGreatDoor
open Go.RowKit
theorem resc_as {s : ByteArray} {k : Nat} {x : Esc} (hs : s.size ≤ 1048576) (hk : k + 1 ≤ s.size) (hx : escP (s.data.toList.drop (k + 1)) = x) (w : World) :
 Calls Tryz.prog 81 #[.string s, ι k] w fun e w' => e = .returned (rescV x) ∧ Below w.heap.size w w' := by
 rw [← hx]; exact resc_any s k hs hk w
theorem rdec_none_of {s : ByteArray} {k : Nat} (hs : s.size ≤ maxLen) (hd : dec (s.data.toList.drop k) = none) (w : World) : Calls Tryz.prog 83 #[.string s, ι k] w fun e w' => e = .returned (.tuple #[ι 0, ι 0, .bool false]) ∧ w = w' := by
 have h := rdec_any s k hs w;rw [hd] at h; exact h
theorem rdec_some_of {s : ByteArray} {k r n : Nat} (hs : s.size ≤ maxLen) (hd : dec (s.data.toList.drop k) = some (r, n)) (w : World) : Calls Tryz.prog 83 #[.string s, ι k] w fun e w' => e = .returned (.tuple #[ι r, ι n, .bool true]) ∧ w = w' := by
 have h := rdec_any s k hs w;rw [hd] at h; exact h
theorem rtext_any (s : ByteArray) (k : Nat) (hs : s.size ≤ 1048576) (hk : k < s.size) (w : World) : Calls Tryz.prog 63 #[.string s, ι k] w (LexPost (strP s.data.toList k) w) := by
 have hl : s.data.toList.length = s.size := by simp
 have HL := hI hl;clear hl;have hsm : s.size ≤ maxLen := by unfold maxLen; omega
 have HSM := hI hsm;clear hsm;obtain ⟨i0, hi, hz0, hz1, hz2⟩ := info_parts inf_u8;obtain ⟨W1, hW1⟩ : ∃ X, X = w.alloc (.cells #[ι 0, ι 0, ι 0, .int .u8 0, ι 0, eS] 67) := ⟨_, rfl⟩
 have HBX : Hid (Box W1 w.heap.size 67 #[ι 0, ι 0, ι 0, .int .u8 0, ι 0, eS]) := hI (by rw [hW1]; exact Box.laid w _ _);have HBL : Hid (Below w.heap.size w W1) := hI (by rw [hW1]; exact (Below.refl _ _).alloc (Nat.le_refl _) _);have HW1 := hI hW1;clear hW1;have HST := hI (StrAt.start (l := s.data.toList) (k := k) (by rw [HL.out]; exact hk))
 go_enter Tryz.func63, Tryz.ntmps63
 go_upto_region 1 with fail;rw [← HW1.out]
 go_wp2
 go_loopw [7, 8] (fun tv ti wr => ∃ (A : Option Addr) (c i : Nat) (out : List UInt8), i ≤ s.size ∧ tv = .slice A out.length c ∧ ti = ι i ∧ wr.ownsRow W1.heap.size 5 1 (.slice A out.length c) out.length (bv out) ∧ Below W1.heap.size W1 wr ∧ Hid (StrAt s.data.toList k i out)) (fun _ ti _ => s.size - (intOf ti).toNat)
 case atStart => exact ⟨none, 0, k + 1, [], by omega, rfl, by go_num, World.ownsRow_nil _ _ _ _, Below.refl _ _, HST⟩
 case round =>
  clear HST;obtain ⟨A, c, i, out, hile, rfl, rfl, hown, hbel, HST⟩ := hrel;have HO := hI hown;have HBE := hI hbel;have HSTEP := hI HST.out.step;have hout : out.length ≤ 4194304 := by have h := HST.out.2.2.1; have h2 := HST.out.1; omega
  have HBR := hI (HBX.out.below hbel HBX.out.lt);have HBW := hI (chain HBL.out hbel);clear hown hbel;obtain ⟨t0, t1, t2, t3, t4, t5⟩ := box6 HBR.out;obtain ⟨f0, f1, f2, f3, f4, f5⟩ := free6 HBR.out
  by_cases hlt : i < s.size
  · obtain ⟨b, hb⟩ : ∃ b, s[i] = b := ⟨_, rfl⟩
    have HB := hI (at_list hlt hb);have hb255 := UInt8.toNat_lt b
    by_cases b34 : b.toNat = 34
    · have q1 : ((b.toNat : Int) == 34) = true := by rw [beq_iff_eq]; omega
      by_cases h4096 : out.length ≤ 4096
      · have HW : Hid (strP s.data.toList k = okX 4 k (i + 1) 0 0 ⟨out.toArray⟩) := hI (by
         have h := HSTEP.out;rw [elP_34 HB.out b34] at h;simp only [] at h;rw [if_pos h4096] at h;exact h)
        have hcv := conv_own HO.out;have hli : ¬ (4096 : Int) < (out.length : Int) := by omega
        clear b34 h4096;go_wp2_with fail;rw [HW.out];exact lex_ret Tryz.results63 rfl rfl rfl rfl (put6 HBR.out _ _ _ _ _ _) (below_six (Nat.le_refl _) HBW.out _ _ _ _ _ _)
      · have HW : Hid (strP s.data.toList k = noX k 2) := hI (by
         have h := HSTEP.out;rw [elP_34 HB.out b34] at h;simp only [] at h;rw [if_neg h4096] at h;exact h)
        have hli : (4096 : Int) < (out.length : Int) := by omega
        clear b34 h4096;go_wp2_with fail;rw [HW.out];exact lex_ret Tryz.results63 rfl rfl rfl rfl (put6 HBR.out _ _ _ _ _ _) (below_six (Nat.le_refl _) HBW.out _ _ _ _ _ _)
    · have q1 : ((b.toNat : Int) == 34) = false := bF.2 (fun h => b34 (by omega))
      by_cases b92 : b.toNat = 92
      · have q2 : ((b.toNat : Int) == 92) = true := by rw [beq_iff_eq]; omega
        have q3 : ¬ (b.toNat : Int) < 32 := by omega
        obtain ⟨x, hx⟩ : ∃ x, escP (s.data.toList.drop (i + 1)) = x := ⟨_, rfl⟩
        have HE := hI (fun W => resc_as hs (by omega : i + 1 ≤ s.size) hx W);have hel : elP (s.data.toList.drop i) = escEl x := by rw [elP_92 HB.out b92, hx]
        have HX := hI hx;clear b34 b92 hx
        cases x with
        | ok r n =>
         have hel2 : elP (s.data.toList.drop i) = .add r n := hel;obtain ⟨g1, g2, g3, g4⟩ := elP_add hel2;have hn2 := (escP_ok HX.out).1;rw [List.length_drop, HL.out] at g2;have HNEXT := hI (HST.out.next hel2);have HEN := hI (fun W => renc_true (r : Int) g3 W);have HLB := hI (bv_length (enc r));simp only [Int.toNat_natCast] at HEN;simp only [rescV] at HE;have qn0 : ((n : Int) == 0) = false := bF.2 (fun h => by omega);clear hel hel2 g3 HSTEP
         go_wp2_with (first
          | (go_at_call 81; refine (HE.out _).mono ?_; rintro e w5 ⟨rfl, hb5⟩; have HO5 := hI (own_belowJ HO.out hb5); have HBE5 := hI (chain HBE.out hb5))
          | (go_at_call 82; refine (HEN.out _).mono ?_; rintro e w' ⟨rfl, rfl⟩)
          | (at_builtin; refine wpList_append_own _ rfl (.tmp 100) (.tmp 101) 93 rfl W1.heap.size 5 i0 (.int .u8 0) 1 1 Tryz.underlying93 hi hz0 hz1 hz2 rfl (by decide) (.slice A out.length c) out.length (bv out) rfl (HO5.out.alloc _) ⟨w5.heap.size, 0, none⟩ (enc r).length (enc r).length (bv (enc r)) rfl (by rw [HLB.out]; omega) (new_cells w5 5 (bv (enc r))) (bv_one _) (by unfold maxLen; omega) (by omega) (by have := HBE5.out.size; simp; omega) ?_; intro v2 w2 hown2 hgrow2 _; rw [← bv_append] at hown2; obtain ⟨A2, c2, rfl, hl2, -⟩ := own_slice hown2))
         go_roundw
         case rel => exact ⟨A2, c2, i + n, out ++ enc r, by omega, by rw [List.length_append], by go_num, by first | exact hown2 | (rw [List.length_append]; exact hown2), ((HBE5.out.alloc HBE5.out.size _).grown hgrow2 (by have := HBE5.out.size; simp; omega) (fun j hj => (HO5.out.lt j hj).1)), HNEXT⟩
         case measure => simp [intOf]; omega
        | trunc =>
         have HW : Hid (strP s.data.toList k = noX s.size 5) := hI (by
          have h := HSTEP.out;rw [hel] at h;rw [HL.out] at h;exact h)
         simp only [rescV] at HE;clear hel HSTEP;clear t0 t1 t2 t3 t4 t5 f0 f1 f2 f3 f4 f5
         go_wp2_with (go_at_call 81; refine (HE.out _).mono ?_; rintro e w5 ⟨rfl, hb5⟩; have bx := HBR.out.below hb5 HBR.out.lt; obtain ⟨t0, t1, t2, t3, t4, t5⟩ := box6 bx; obtain ⟨f0, f1, f2, f3, f4, f5⟩ := free6 bx)
         rw [HW.out];exact lex_ret Tryz.results63 rfl rfl rfl rfl (put6 bx _ _ _ _ _ _) (below_six (Nat.le_refl _) (chain HBW.out hb5) _ _ _ _ _ _)
        | bad =>
         have HW : Hid (strP s.data.toList k = noX i 4) := hI (by
          have h := HSTEP.out;rw [hel] at h;exact h)
         simp only [rescV] at HE;clear hel HSTEP;clear t0 t1 t2 t3 t4 t5 f0 f1 f2 f3 f4 f5
         go_wp2_with (go_at_call 81; refine (HE.out _).mono ?_; rintro e w5 ⟨rfl, hb5⟩; have bx := HBR.out.below hb5 HBR.out.lt; obtain ⟨t0, t1, t2, t3, t4, t5⟩ := box6 bx; obtain ⟨f0, f1, f2, f3, f4, f5⟩ := free6 bx)
         rw [HW.out];exact lex_ret Tryz.results63 rfl rfl rfl rfl (put6 bx _ _ _ _ _ _) (below_six (Nat.le_refl _) (chain HBW.out hb5) _ _ _ _ _ _)
      · have q2 : ((b.toNat : Int) == 92) = false := bF.2 (fun h => b92 (by omega))
        by_cases b32 : b.toNat < 32
        · have HW : Hid (strP s.data.toList k = noX i 4) := hI (by
           have h := HSTEP.out;rw [elP_32 HB.out b34 b92 b32] at h;exact h)
          have q4 : (b.toNat : Int) < 32 := by omega
          clear b34 b92 b32 HSTEP;go_wp2_with fail;rw [HW.out];exact lex_ret Tryz.results63 rfl rfl rfl rfl (put6 HBR.out _ _ _ _ _ _) (below_six (Nat.le_refl _) HBW.out _ _ _ _ _ _)
        · have q4 : (32 : Int) ≤ (b.toNat : Int) := by omega
          have HEL2 := hI (elP_dec HB.out b34 b92 b32);clear b34 b92 b32
          cases hd : dec (s.data.toList.drop i) with
          | none =>
           have HW : Hid (strP s.data.toList k = noX i 6) := hI (by
            have h := HSTEP.out;rw [HEL2.out, hd] at h;exact h)
           have HD := hI (fun W => rdec_none_of HSM.out hd W);clear hd HSTEP HEL2
           go_wp2_with (go_at_call 83; refine (HD.out _).mono ?_; rintro e w' ⟨rfl, rfl⟩)
           rw [HW.out];exact lex_ret Tryz.results63 rfl rfl rfl rfl (put6 HBR.out _ _ _ _ _ _) (below_six (Nat.le_refl _) HBW.out _ _ _ _ _ _)
          | some rn =>
           obtain ⟨r, n⟩ := rn;have hel2 : elP (s.data.toList.drop i) = .add r n := by rw [HEL2.out, hd]; rfl
           obtain ⟨g1, g2, g3, g4⟩ := elP_add hel2;rw [List.length_drop, HL.out] at g2;have HNEXT := hI (HST.out.next hel2);have HD := hI (fun W => rdec_some_of HSM.out hd W);have HEN := hI (fun W => renc_true (r : Int) g3 W);have HLB := hI (bv_length (enc r));simp only [Int.toNat_natCast] at HEN;clear hd HSTEP HEL2 hel2 g3
           go_wp2_with (first
            | (go_at_call 83; refine (HD.out _).mono ?_; rintro e w' ⟨rfl, rfl⟩)
            | (go_at_call 82; refine (HEN.out _).mono ?_; rintro e w' ⟨rfl, rfl⟩)
            | (at_builtin; refine wpList_append_own _ rfl (.tmp 36) (.tmp 37) 93 rfl W1.heap.size 5 i0 (.int .u8 0) 1 1 Tryz.underlying93 hi hz0 hz1 hz2 rfl (by decide) (.slice A out.length c) out.length (bv out) rfl (HO.out.alloc _) ⟨wr.heap.size, 0, none⟩ (enc r).length (enc r).length (bv (enc r)) rfl (by rw [HLB.out]; omega) (new_cells wr 5 (bv (enc r))) (bv_one _) (by unfold maxLen; omega) (by omega) (by have := HBE.out.size; simp; omega) ?_; intro v2 w2 hown2 hgrow2 _; rw [← bv_append] at hown2; obtain ⟨A2, c2, rfl, hl2, -⟩ := own_slice hown2))
           go_roundw
           case rel => exact ⟨A2, c2, i + n, out ++ enc r, by omega, by rw [List.length_append], by go_num, by first | exact hown2 | (rw [List.length_append]; exact hown2), ((HBE.out.alloc HBE.out.size _).grown hgrow2 (by have := HBE.out.size; simp; omega) (fun j hj => (HO.out.lt j hj).1)), HNEXT⟩
           case measure => simp [intOf]; omega
  · have HW : Hid (strP s.data.toList k = noX s.size 5) := hI (by
     have h := HSTEP.out;rw [List.drop_eq_nil_of_le (by rw [HL.out]; omega), HL.out] at h;exact h)
    clear HSTEP;go_wp2_with fail;rw [HW.out];exact lex_ret Tryz.results63 rfl rfl rfl rfl (put6 HBR.out _ _ _ _ _ _) (below_six (Nat.le_refl _) HBW.out _ _ _ _ _ _)
end Go.Proofs.YtoleoimmpggldaaGreatDoor
namespace Go.Proofs.YtoleoimmpggldaaGreatDoor
open Go.RowKit
def IntPost (o : Option Int) (w : World) (e : Ending) (w' : World) : Prop := (∃ x : Int, e = .returned (.tuple #[ι x, .bool o.isSome]) ∧ ∀ v, o = some v → x = v) ∧ w = w'
theorem integer_any (s : ByteArray) (neg : Bool) (hs : s.size ≤ 1048576) (hd : ∀ b ∈ s.data.toList, digB b = true) (w : World) : Calls Tryz.prog 58 #[.string s, .bool neg] w (IntPost (fitP neg (natF 0 s.data.toList)) w) := by
 have hl : s.data.toList.length = s.size := by simp
 have HL := hI hl;have HD := hI hd;obtain ⟨o, ho⟩ : ∃ o, fitP neg (natF 0 s.data.toList) = o := ⟨_, rfl⟩
 have HO := hI ho;rw [ho];clear hl hd ho
 go_enter Tryz.func58, Tryz.ntmps58
 go_wp2
 go_loop [6, 7] (fun tn ti => ∃ (i : Nat) (n : Int), i ≤ s.size ∧ ti = ι i ∧ tn = .int .u64 n ∧ 0 ≤ n ∧ n ≤ 9223372036854775808 ∧ Hid (n = ((natF 0 (s.data.toList.take i) : Nat) : Int))) (fun _ ti => s.size - (intOf ti).toNat)
 case atStart => exact ⟨0, 0, Nat.zero_le _, rfl, rfl, by omega, by omega, hI (by simp [natF])⟩
 case round =>
  obtain ⟨i, n, hi, rfl, rfl, hn0, hn1, HN⟩ := hrel
  by_cases hlt : i < s.size
  · obtain ⟨b, hb⟩ : ∃ b, s[i] = b := ⟨_, rfl⟩
    have HB := hI (at_list hlt hb);have hdb : 48 ≤ b.toNat ∧ b.toNat ≤ 57 := by
     have h := HD.out b (List.mem_of_getElem? HB.out);unfold digB at h; simpa using h
    obtain ⟨d, hdd⟩ : ∃ d : Int, d = (b.toNat : Int) - 48 := ⟨_, rfl⟩
    have hd0 : 0 ≤ d := by omega
    have hd9 : d ≤ 9 := by omega
    have HT := hI (natF_take HB.out);have HTL := hI (natF_take_le s.data.toList (i + 1));have hsub : ((b.toNat : Int) - 48) = d := hdd.symm;have HDD := hI hdd;obtain ⟨g1, g2⟩ := hdb;clear hdd
    by_cases hq : (9223372036854775808 - d) / 10 < n
    · have hbig : o = none := by
       rw [← HO.out];apply fitP_big;have h1 := HT.out;have h2 := HTL.out;have h3 := HN.out;have h4 := HDD.out;omega
      subst hbig;go_wp2_with fail
      go_ret2
      exact ⟨⟨0, rfl, fun v h => by cases h⟩, rfl⟩
    · have hr : 0 ≤ n * 10 + d ∧ n * 10 + d ≤ 9223372036854775808 := by omega
      obtain ⟨r1, r2⟩ := hr;have HM : Hid (n * 10 + d = ((natF 0 (s.data.toList.take (i + 1)) : Nat) : Int)) := hI (by
       have h1 := HT.out;have h3 := HN.out;have h4 := HDD.out;omega)
      go_wp2_with fail
      go_round
      case rel => exact ⟨i + 1, n * 10 + d, by omega, by go_num, rfl, r1, r2, HM⟩
      case measure => simp [intOf]; omega
  · have HT : Hid (n = ((natF 0 s.data.toList : Nat) : Int)) := hI (by
     have h := HN.out;rw [List.take_of_length_le (by rw [HL.out]; omega)] at h;exact h)
    cases neg with
    | true =>
     have ho : o = some (-n) := by
      rw [← HO.out];unfold fitP;have h := HT.out;simp only [];rw [if_pos (by omega), h]
     subst ho
     by_cases hm : n = 9223372036854775808
     · subst hm;go_wp2_with fail
       go_ret2
       exact ⟨⟨_, rfl, fun v h => by
        injection h with h
        rw [← h];unfold wrap64;omega⟩, rfl⟩
     · have hlt : n < 9223372036854775808 := by omega
       go_wp2_with fail
       go_ret2
       exact ⟨⟨_, rfl, fun v h => by injection h⟩, rfl⟩
    | false =>
     by_cases hm : n < 9223372036854775808
     · have ho : o = some n := by
        rw [← HO.out];unfold fitP;have h := HT.out;simp only [];rw [if_pos (by omega), h]
       subst ho;go_wp2_with fail
       go_ret2
       exact ⟨⟨_, rfl, fun v h => by injection h⟩, rfl⟩
     · have ho : o = none := by
        rw [← HO.out];unfold fitP;have h := HT.out;simp only [];rw [if_neg (by omega)]
       subst ho;have hm2 : n = 9223372036854775808 := by omega
       subst hm2;go_wp2_with fail
       go_ret2
       exact ⟨⟨_, rfl, fun v h => by cases h⟩, rfl⟩
