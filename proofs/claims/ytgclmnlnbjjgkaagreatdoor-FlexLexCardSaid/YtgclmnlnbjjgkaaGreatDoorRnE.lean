/- The contracts of the reference's unicode and escape. -/
import Derived.Test.YtgclmnlnbjjgkaaGreatDoorRnQ
import Derived.Test.YtgclmnlnbjjgkaaGreatDoorJl8
import Derived.Deep.QuietTactic
import Derived.BigQuiet
set_option linter.unusedVariables false
set_option linter.unusedSimpArgs false
namespace Go.Proofs.YtgclmnlnbjjgkaaGreatDoor
open Go.RowKit
def rescV : Esc → Value
  | .ok r n => .tuple #[.int .i64 r, .int .i64 n]
  | .trunc => .tuple #[.int .i64 0, .int .i64 0]
  | .bad => .tuple #[.int .i64 0, .int .i64 (-1)]
theorem quad_as {s : ByteArray} {k lo hi : Nat} {zl zh : Int} {u : U} (hzl : zl = (lo : Int)) (hzh : zh = (hi : Int)) (hl0 : 0 ≤ zl ∧ zl ≤ 65535) (hh0 : 0 ≤ zh ∧ zh ≤ 65535) (hs : s.size ≤ 1048576) (hk : k ≤ s.size) (h : quadR lo hi 4 0 (s.data.toList.drop k) = u) (w : World) :
    Calls Tryz.prog 88 #[.string s, .int .i64 k, .int .i64 zl, .int .i64 zh] w (QuadPost u (s.size - k) w) := by
  rw [← h]; exact rquad_any s k lo hi zl zh hzl hzh hl0 hh0 hs hk w
theorem quad_ok {f : FuncId} {args : Array Value} {w : World} {n a : Nat} (h : Calls Tryz.prog f args w (QuadPost (.ok n) a w)) : Calls Tryz.prog f args w fun e w' => e = .returned (.tuple #[.int .i64 4, .int .i64 n]) ∧ w = w' :=
  h.mono fun e w' h => ⟨h.2, h.1⟩
theorem quad_trunc {f : FuncId} {args : Array Value} {w : World} {a : Nat} (h : Calls Tryz.prog f args w (QuadPost .trunc a w)) : Calls Tryz.prog f args w fun e w' => e = .returned (.tuple #[.int .i64 a, .int .i64 0]) ∧ a < 4 ∧ w = w' :=
  h.mono fun e w' h => ⟨h.2.1, h.2.2, h.1⟩
theorem quad_bad {f : FuncId} {args : Array Value} {w : World} {a : Nat} (h : Calls Tryz.prog f args w (QuadPost .bad a w)) : Calls Tryz.prog f args w fun e w' => ∃ j : Nat, j < 4 ∧ e = .returned (.tuple #[.int .i64 j, .int .i64 (-1)]) ∧ w = w' :=
  h.mono fun e w' h => by obtain ⟨j, h1, h2⟩ := h.2; exact ⟨j, h1, h2, h.1⟩
/-- What is read when the text ends within the first four digits. -/
def shortR : List UInt8 → U
  | b :: c :: _ => match hexP b, hexP c with
    | some d, some e => if d = 13 ∧ 12 ≤ e then .bad else .trunc
    | _, _ => .trunc
  | _ => .trunc
def firstQ (l : List UInt8) : U → U
  | .bad => .bad
  | .trunc => shortR l
  | .ok n => if 56320 ≤ n ∧ n ≤ 57343 then .bad else .ok n
theorem firstR_q (l : List UInt8) : firstR l = firstQ l (quadA 4 0 l) := by
  unfold firstR
  cases quadA 4 0 l with
  | bad => rfl
  | ok n => rfl
  | trunc =>
    match l with
    | [] => rfl
    | [b] => rfl
    | b :: c :: t =>
      show _ = shortR (b :: c :: t)
      rw [shortR]
      cases hb : hexP b <;> cases hc : hexP c <;> simp only [hb, hc]
theorem shortR_two {l : List UInt8} {b c : UInt8} (h0 : l[0]? = some b) (h1 : l[1]? = some c) : shortR l = if (hexP b).getD 0 = 13 ∧ 12 ≤ (hexP c).getD 0 then .bad else .trunc := by
  match l, h0, h1 with
  | x :: y :: t, h0, h1 =>
    simp only [List.getElem?_cons_zero, Option.some.injEq] at h0
    simp only [List.getElem?_cons_succ, List.getElem?_cons_zero, Option.some.injEq] at h1
    subst h0; subst h1
    rw [shortR]
    cases hexP x with
    | none => simp
    | some d =>
      cases hexP y with
      | none => simp
      | some e => simp
theorem shortR_few {l : List UInt8} (h : l.length < 2) : shortR l = .trunc := by
  match l, h with
  | [], _ => rfl
  | [b], _ => rfl
theorem hex_get (b : UInt8) (w : World) : Calls Tryz.prog 89 #[.int .u8 b.toNat] w fun e w' => e = .returned (.tuple #[.int .i64 ((hexP b).getD 0), .bool (hexP b).isSome]) ∧ w = w' := by
  have := rhex_any b w
  cases h : hexP b with
  | none => rw [h] at this; exact this
  | some d => rw [h] at this; exact this
theorem pairP_0 {n : Nat} {l : List UInt8} (h : l.length ≤ 0) : pairP n l = .trunc := by
  match l, h with
  | [], _ => rfl
theorem pairP_b {n : Nat} {l : List UInt8} {b : UInt8} (h : l[0]? = some b) (hb : b.toNat ≠ 92) : pairP n l = .bad := by
  match l, h with
  | [x], h => simp at h; subst h; rw [pairP, if_neg hb]
  | x :: y :: t, h => simp at h; subst h; rw [pairP, if_neg (fun h => hb h.1)]
theorem pairP_1 {n : Nat} {l : List UInt8} {b : UInt8} (h : l[0]? = some b) (hb : b.toNat = 92) (h1 : l.length ≤ 1) : pairP n l = .trunc := by
  match l, h, h1 with
  | [x], h, _ => simp at h; subst h; rw [pairP, if_pos hb]
theorem pairP_c {n : Nat} {l : List UInt8} {c : UInt8} (h : l[1]? = some c) (hc : c.toNat ≠ 117) : pairP n l = .bad := by
  match l, h with
  | x :: y :: t, h => simp at h; subst h; rw [pairP, if_neg (fun h => hc h.2)]
theorem pairP_2 {n : Nat} {l : List UInt8} {b c : UInt8} (h0 : l[0]? = some b) (h : l[1]? = some c) (hb : b.toNat = 92) (hc : c.toNat = 117) : pairP n l = pairQ n (quadR 56320 57343 4 0 (l.drop 2)) := by
  match l, h0, h with
  | x :: y :: t, h0, h =>
    simp at h h0
    subst h; subst h0
    rw [pairP, if_pos ⟨hb, hc⟩]
    show _ = pairQ n (quadR 56320 57343 4 0 t)
    cases quadR 56320 57343 4 0 t <;> rfl
/-- How far the second element's beginning is met. -/
def PreAt (l : List UInt8) (j : Nat) : Prop := (1 ≤ j → ∃ b, l[0]? = some b ∧ b.toNat = 92) ∧ (2 ≤ j → ∃ c, l[1]? = some c ∧ c.toNat = 117)
set_option maxHeartbeats 10000000 in
set_option maxRecDepth 100000 in
theorem runi_any (s : ByteArray) (k : Nat) (hs : s.size ≤ 1048576) (hk : k + 2 ≤ s.size) (w : World) :
    Calls Tryz.prog 79 #[.string s, .int .i64 k] w fun e w' => e = .returned (rescV (uniP (s.data.toList.drop (k + 2)))) ∧ Below w.heap.size w w' := by
  have hl : s.data.toList.length = s.size := by simp
  have HL := Lib.hid hl
  clear hl
  obtain ⟨u, hu⟩ : ∃ u, quadA 4 0 (s.data.toList.drop (k + 2)) = u := ⟨_, rfl⟩
  have hk2 : ((k + 2 : Nat) : Int) = (k : Int) + 2 := by omega
  have hq1 := fun W => quad_as (zl := 0) (zh := 65535) (lo := 0) (hi := 65535) rfl rfl (by omega) (by omega) hs hk ((quad_any 4 0 (s.data.toList.drop (k + 2)) (by decide)).trans hu) W
  rw [hk2] at hq1
  have HX : Hid (uniP (s.data.toList.drop (k + 2)) = uniQ (s.data.toList.drop (k + 6)) (firstQ (s.data.toList.drop (k + 2)) u)) := Lib.hid (by
    rw [uniP_q, firstR_q, hu, List.drop_drop])
  cases u with
  | bad =>
    have HQ := Lib.hid (fun W => quad_bad (hq1 W))
    rw [HX.out]
    clear HX hu hq1 hk2
    go_enter Tryz.func79, Tryz.ntmps79
    go_wp2_with (go_at_call 88; refine (HQ.out _).mono ?_; rintro e w' ⟨j, hj, rfl, rfl⟩)
    go_ret2
    exact ⟨rfl, Below.refl _ _⟩
  | trunc =>
    have HQ := Lib.hid (fun W => quad_trunc (hq1 W))
    have HX2 : Hid (uniP (s.data.toList.drop (k + 2)) = uniQ (s.data.toList.drop (k + 6)) (shortR (s.data.toList.drop (k + 2)))) := Lib.hid (HX.out.trans rfl)
    rw [HX2.out]
    clear HX hu hq1 hk2
    obtain ⟨a, ha⟩ : ∃ a, s.size - (k + 2) = a := ⟨_, rfl⟩
    rw [ha] at HQ
    by_cases h2 : a < 2
    · have HW : Hid (shortR (s.data.toList.drop (k + 2)) = .trunc) := Lib.hid (shortR_few (by rw [List.length_drop, HL.out]; omega))
      rw [HW.out]
      go_enter Tryz.func79, Tryz.ntmps79
      go_wp2_with (go_at_call 88; refine (HQ.out _).mono ?_; rintro e w' ⟨rfl, h4, rfl⟩)
      go_ret2
      exact ⟨rfl, Below.refl _ _⟩
    · have hk3 : k + 3 < s.size := by omega
      have hk2' : k + 2 < s.size := by omega
      obtain ⟨b, hb⟩ : ∃ b, s[k + 2] = b := ⟨_, rfl⟩
      obtain ⟨c, hc⟩ : ∃ c, s[k + 3] = c := ⟨_, rfl⟩
      have HS : Hid (shortR (s.data.toList.drop (k + 2)) = if (hexP b).getD 0 = 13 ∧ 12 ≤ (hexP c).getD 0 then .bad else .trunc) := Lib.hid (shortR_two (by rw [List.getElem?_drop]; exact at_list hk2' hb) (by rw [List.getElem?_drop]; exact at_list hk3 hc))
      have HB := Lib.hid (fun W => hex_get b W)
      have HC := Lib.hid (fun W => hex_get c W)
      have hd15 : (hexP b).getD 0 ≤ 15 := by rcases hexP_none_or b with h | ⟨d, h, hd⟩ <;> rw [h] <;> simp <;> omega
      have he15 : (hexP c).getD 0 ≤ 15 := by rcases hexP_none_or c with h | ⟨d, h, hd⟩ <;> rw [h] <;> simp <;> omega
      generalize (hexP b).getD 0 = d at HS HB hd15
      generalize (hexP c).getD 0 = e1 at HS HC he15
      generalize (hexP b).isSome = x1 at HB
      generalize (hexP c).isSome = x2 at HC
      have g4 : a < 4 ∨ 4 ≤ a := by omega
      rcases g4 with g4 | g4
      · by_cases h13 : d = 13
        · have q1 : ((d : Int) == 13) = true := by rw [beq_iff_eq]; omega
          by_cases h12 : 12 ≤ e1
          · have hw := HS.out
            rw [if_pos ⟨h13, h12⟩] at hw
            rw [hw]
            clear h13 hw HS
            go_enter Tryz.func79, Tryz.ntmps79
            go_wp2_with (first
              | (go_at_call 88; refine (HQ.out _).mono ?_; rintro e w' ⟨rfl, h4, rfl⟩)
              | (go_at_call 89; with_reducible refine (HB.out _).mono ?_; rintro e w' ⟨rfl, rfl⟩)
              | (go_at_call 89; with_reducible refine (HC.out _).mono ?_; rintro e w' ⟨rfl, rfl⟩))
            go_ret2
            exact ⟨rfl, Below.refl _ _⟩
          · have hw := HS.out
            rw [if_neg (fun h => h12 h.2)] at hw
            rw [hw]
            clear h13 hw HS
            go_enter Tryz.func79, Tryz.ntmps79
            go_wp2_with (first
              | (go_at_call 88; refine (HQ.out _).mono ?_; rintro e w' ⟨rfl, h4, rfl⟩)
              | (go_at_call 89; with_reducible refine (HB.out _).mono ?_; rintro e w' ⟨rfl, rfl⟩)
              | (go_at_call 89; with_reducible refine (HC.out _).mono ?_; rintro e w' ⟨rfl, rfl⟩))
            go_ret2
            exact ⟨rfl, Below.refl _ _⟩
        · have q1 : ((d : Int) == 13) = false := beq_eq_false_iff_ne.2 (fun h => h13 (by omega))
          have hw := HS.out
          rw [if_neg (fun h => h13 h.1)] at hw
          rw [hw]
          clear h13 hw HS
          go_enter Tryz.func79, Tryz.ntmps79
          go_wp2_with (first
            | (go_at_call 88; refine (HQ.out _).mono ?_; rintro e w' ⟨rfl, h4, rfl⟩)
            | (go_at_call 89; with_reducible refine (HB.out _).mono ?_; rintro e w' ⟨rfl, rfl⟩)
            | (go_at_call 89; with_reducible refine (HC.out _).mono ?_; rintro e w' ⟨rfl, rfl⟩))
          go_ret2
          exact ⟨rfl, Below.refl _ _⟩
      · go_enter Tryz.func79, Tryz.ntmps79
        go_upto_region 2 with (go_at_call 88; refine (HQ.out _).mono ?_; rintro e w' ⟨rfl, h4, rfl⟩)
        omega
  | ok n =>
    have hn6 := (quadA_lo _ _ _ _ hu).2
    have hlen := quadA_len hu
    rw [List.length_drop, HL.out] at hlen
    have hk6 : k + 6 ≤ s.size := by omega
    obtain ⟨z, hz⟩ : ∃ z : Int, z = (n : Int) := ⟨_, rfl⟩
    have HQ : Hid (∀ W : World, Calls Tryz.prog 88 #[.string s, .int .i64 ((k : Int) + 2), .int .i64 0, .int .i64 65535] W fun e w' => e = .returned (.tuple #[.int .i64 4, .int .i64 z]) ∧ W = w') := Lib.hid (fun W => by rw [hz]; exact quad_ok (hq1 W))
    have hz0 : 0 ≤ z := by omega
    have hz1 : z ≤ 65535 := by omega
    have HZ := Lib.hid hz
    rw [HX.out]
    by_cases hbad : 56320 ≤ n ∧ n ≤ 57343
    · have hf : firstQ (s.data.toList.drop (k + 2)) (.ok n) = .bad := if_pos hbad
      rw [hf]
      have g1 : ¬ z < 55296 := by omega
      have g2 : ¬ 57343 < z := by omega
      have g3 : 56319 < z := by omega
      clear hbad hf HX hu hq1 hk2 hn6 hlen hz
      go_enter Tryz.func79, Tryz.ntmps79
      go_wp2_with (go_at_call 88; refine (HQ.out _).mono ?_; rintro e w' ⟨rfl, rfl⟩)
      go_ret2
      exact ⟨rfl, Below.refl _ _⟩
    · have hf : firstQ (s.data.toList.drop (k + 2)) (.ok n) = .ok n := if_neg hbad
      rw [hf]
      by_cases hh : 55296 ≤ n ∧ n ≤ 56319
      · have hx : uniQ (s.data.toList.drop (k + 6)) (.ok n) = pairP n (s.data.toList.drop (k + 6)) := if_pos hh
        rw [hx]
        have g1 : ¬ z < 55296 := by omega
        have g2 : ¬ 57343 < z := by omega
        have g3 : ¬ 56319 < z := by omega
        have HH := Lib.hid hh
        clear hbad hf HX hu hq1 hk2 hn6 hlen hz hh hx
        obtain ⟨l6, hl6⟩ : ∃ l6, s.data.toList.drop (k + 6) = l6 := ⟨_, rfl⟩
        have hll : l6.length = s.size - (k + 6) := by rw [← hl6, List.length_drop, HL.out]
        have HLL := Lib.hid hll
        have HL6 := Lib.hid hl6
        rw [hl6]
        clear hll hl6
        obtain ⟨x, hx⟩ : ∃ x, pairP n l6 = x := ⟨_, rfl⟩
        rw [hx]
        have HXX := Lib.hid hx
        clear hx
        go_enter Tryz.func79, Tryz.ntmps79
        go_upto_region 13 with (go_at_call 88; refine (HQ.out _).mono ?_; rintro e w' ⟨rfl, rfl⟩)
        go_wp2
        go_loopw [12] (fun t wr => ∃ j : Nat, j ≤ 2 ∧ k + 6 + j ≤ s.size ∧ t = .int .i64 j ∧ Hid (PreAt l6 j) ∧ Below w.heap.size w wr) (fun t _ => 3 - (intOf t).toNat)
        case atStart => exact ⟨0, by omega, by omega, rfl, Lib.hid ⟨by omega, by omega⟩, Below.refl _ _⟩
        case round =>
          obtain ⟨j, hj2, hkj, rfl, HP, hbel⟩ := hrel
          have HBE := Lib.hid hbel
          clear hbel
          have hjj : j = 0 ∨ j = 1 ∨ j = 2 := by omega
          rcases hjj with rfl | rfl | rfl
          · by_cases hend : s.size ≤ k + 6
            · have hxt := HXX.out.symm.trans (pairP_0 (by rw [HLL.out]; omega))
              subst hxt
              go_wp2_with fail
              go_ret2
              exact ⟨rfl, HBE.out⟩
            · have hlt : k + 6 < s.size := by omega
              have hcst : ((⟨#[92, 117]⟩ : ByteArray)[0]'(by decide)).toNat = 92 := rfl
              have bb0 : (0 : Int) ≤ (k : Int) + 6 := by omega
              have bb1 : (k : Int) + 6 < (s.size : Int) := by omega
              obtain ⟨b, hb⟩ : ∃ b, s[k + 6] = b := ⟨_, rfl⟩
              have HB0 : Hid (l6[0]? = some b) := Lib.hid (by rw [← HL6.out, List.getElem?_drop]; exact at_list hlt hb)
              by_cases h92 : b.toNat = 92
              · have HP1 : Hid (PreAt l6 1) := Lib.hid ⟨fun _ => ⟨b, HB0.out, h92⟩, fun h => by omega⟩
                have q1 : ((b.toNat : Int) != 92) = false := by rw [bne_eq_false_iff_eq]; omega
                clear h92 hend
                go_wp2_with fail
                go_quiet (fail)
                go_wp2_with fail
                go_roundw
                case rel => exact ⟨1, by omega, by omega, rfl, HP1, below_drewN HBE.out _⟩
                case measure => simp [intOf]
              · have hxt := HXX.out.symm.trans (pairP_b HB0.out h92)
                subst hxt
                have q1 : ((b.toNat : Int) != 92) = true := by rw [bne_iff_ne]; omega
                clear h92 hend
                go_wp2_with fail
                go_quiet (fail)
                go_wp2_with fail
                go_ret2
                exact ⟨rfl, below_drewN HBE.out _⟩
          · obtain ⟨b, hb0, hb92⟩ := HP.out.1 (Nat.le_refl _)
            have HB0 := Lib.hid hb0
            have HB92 := Lib.hid hb92
            clear hb0 hb92
            by_cases hend : s.size ≤ k + 7
            · have hxt := HXX.out.symm.trans (pairP_1 HB0.out HB92.out (by rw [HLL.out]; omega))
              subst hxt
              go_wp2_with fail
              go_ret2
              exact ⟨rfl, HBE.out⟩
            · have hlt : k + 6 + 1 < s.size := by omega
              have hcst : ((⟨#[92, 117]⟩ : ByteArray)[1]'(by decide)).toNat = 117 := rfl
              have bb0 : (0 : Int) ≤ (k : Int) + 6 + 1 := by omega
              have bb1 : (k : Int) + 6 + 1 < (s.size : Int) := by omega
              obtain ⟨c, hc⟩ : ∃ c, s[k + 6 + 1] = c := ⟨_, rfl⟩
              have HC0 : Hid (l6[1]? = some c) := Lib.hid (by rw [← HL6.out, List.getElem?_drop]; exact at_list hlt hc)
              by_cases h117 : c.toNat = 117
              · have HP1 : Hid (PreAt l6 2) := Lib.hid ⟨fun _ => ⟨b, HB0.out, HB92.out⟩, fun _ => ⟨c, HC0.out, h117⟩⟩
                have q1 : ((c.toNat : Int) != 117) = false := by rw [bne_eq_false_iff_eq]; omega
                clear h117 hend
                go_wp2_with fail
                go_quiet (fail)
                go_wp2_with fail
                go_roundw
                case rel => exact ⟨2, by omega, by omega, rfl, HP1, below_drewN HBE.out _⟩
                case measure => simp [intOf]
              · have hxt := HXX.out.symm.trans (pairP_c HC0.out h117)
                subst hxt
                have q1 : ((c.toNat : Int) != 117) = true := by rw [bne_iff_ne]; omega
                clear h117 hend
                go_wp2_with fail
                go_quiet (fail)
                go_wp2_with fail
                go_ret2
                exact ⟨rfl, below_drewN HBE.out _⟩
          · obtain ⟨b, hb0, hb92⟩ := HP.out.1 (by omega)
            obtain ⟨c, hc0, hc117⟩ := HP.out.2 (Nat.le_refl _)
            have hp2 := pairP_2 (n := n) hb0 hc0 hb92 hc117
            have hxq := HXX.out.symm.trans hp2
            rw [← HL6.out, List.drop_drop] at hxq
            clear hb0 hb92 hc0 hc117 hp2
            obtain ⟨u2, hu2⟩ : ∃ u2, quadR 56320 57343 4 0 (s.data.toList.drop (k + 6 + 2)) = u2 := ⟨_, rfl⟩
            rw [hu2] at hxq
            have hk8 : ((k + 6 + 2 : Nat) : Int) = (k : Int) + 8 := by omega
            have hq2 := fun W => quad_as (zl := 56320) (zh := 57343) (lo := 56320) (hi := 57343) rfl rfl (by omega) (by omega) hs hkj hu2 W
            rw [hk8] at hq2
            cases u2 with
            | bad =>
              have HQ2 := Lib.hid (fun W => quad_bad (hq2 W))
              subst hxq
              clear hu2 hq2 hk8
              go_wp2_with (go_at_call 88; refine (HQ2.out _).mono ?_; rintro e w' ⟨i, hi, rfl, rfl⟩)
              go_ret2
              exact ⟨rfl, HBE.out⟩
            | trunc =>
              have HQ2 := Lib.hid (fun W => quad_trunc (hq2 W))
              subst hxq
              clear hu2 hq2 hk8
              go_wp2_with (go_at_call 88; refine (HQ2.out _).mono ?_; rintro e w' ⟨rfl, h4, rfl⟩)
              go_ret2
              exact ⟨rfl, HBE.out⟩
            | ok m =>
              have hm := quadR_range hu2 (by omega)
              obtain ⟨y, hy⟩ : ∃ y : Int, y = (m : Int) := ⟨_, rfl⟩
              have HQ2 : Hid (∀ W : World, Calls Tryz.prog 88 #[.string s, .int .i64 ((k : Int) + 8), .int .i64 56320, .int .i64 57343] W fun e w' => e = .returned (.tuple #[.int .i64 4, .int .i64 y]) ∧ W = w') := Lib.hid (fun W => by rw [hy]; exact quad_ok (hq2 W))
              have y1 : 56320 ≤ y := by omega
              have y2 : y ≤ 57343 := by omega
              have HY := Lib.hid hy
              have z1 : 55296 ≤ z := by have := HH.out; have := HZ.out; omega
              have z2 : z ≤ 56319 := by omega
              subst hxq
              clear hu2 hq2 hk8 hm hy
              have e1 : ((65536 + (n - 55296) * 1024 + (m - 56320) : Nat) : Int) = 65536 + (z - 55296) * 1024 + (y - 56320) := by have := HZ.out; have := HY.out; have := HH.out; omega
              have HFIN : Hid (rescV (pairQ n (.ok m)) = .tuple #[.int .i64 (65536 + (z - 55296) * 1024 + (y - 56320)), .int .i64 12]) := Lib.hid (by rw [← e1]; rfl)
              clear e1
              go_wp2_with (go_at_call 88; refine (HQ2.out _).mono ?_; rintro e w' ⟨rfl, rfl⟩)
              go_ret2
              exact ⟨by rw [HFIN.out]; rfl, HBE.out⟩
      · have hx : uniQ (s.data.toList.drop (k + 6)) (.ok n) = .ok n 6 := if_neg hh
        rw [hx]
        by_cases g1 : z < 55296
        · clear hbad hf HX hu hq1 hk2 hn6 hlen hz hh hx
          go_enter Tryz.func79, Tryz.ntmps79
          go_wp2_with (go_at_call 88; refine (HQ.out _).mono ?_; rintro e w' ⟨rfl, rfl⟩)
          go_ret2
          exact ⟨by rw [HZ.out]; rfl, Below.refl _ _⟩
        · have g2 : 57343 < z := by omega
          clear hbad hf HX hu hq1 hk2 hn6 hlen hz hh hx
          go_enter Tryz.func79, Tryz.ntmps79
          go_wp2_with (go_at_call 88; refine (HQ.out _).mono ?_; rintro e w' ⟨rfl, rfl⟩)
          go_ret2
          exact ⟨by rw [HZ.out]; rfl, Below.refl _ _⟩
end Go.Proofs.YtgclmnlnbjjgkaaGreatDoor
