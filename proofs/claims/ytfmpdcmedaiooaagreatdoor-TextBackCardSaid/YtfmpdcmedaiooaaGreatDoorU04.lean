/- The contract of the program's reading of four digits. The walk of the program's unit, and numericEscape, escape. The program's escapes. -/
import Derived.Test.YtfmpdcmedaiooaaGreatDoorU03
import Derived.Deep.Light
import Derived.Deep.CutBlock
import Derived.Deep.DeepCutAuto
set_option linter.unusedVariables false
set_option linter.unusedSimpArgs false
namespace Go.Proofs.YtfmpdcmedaiooaaGreatDoor
open Go.RowKit
def hasP (x y : ByteArray) : Bool := decide (y.size ≤ x.size) && ((x.extract 0 y.size).toList == y.toList)
theorem hasin_any (x y : ByteArray) (hx : x.size ≤ 1048576) (hy : y.size ≤ 1048576) (w : World) : Calls Tryz.prog 122 #[.string x, .string y] w fun e w' => e = .returned (.bool (hasP x y)) ∧ w = w' := by
  unfold hasP
  by_cases h : y.size ≤ x.size
  · rw [decide_eq_true h, Bool.true_and]
    cases hq : ((x.extract 0 y.size).toList == y.toList)
    all_goals
      go_enter Tryz.func122, Tryz.ntmps122
      go_wp2
      all_goals go_ret
      all_goals exact ⟨rfl, rfl⟩
  · rw [decide_eq_false h, Bool.false_and]
    go_enter Tryz.func122, Tryz.ntmps122
    go_wp2
    all_goals go_ret
    all_goals exact ⟨rfl, rfl⟩
theorem has_any (x y : ByteArray) (hx : x.size ≤ 1048576) (hy : y.size ≤ 1048576) (w : World) : Calls Tryz.prog 83 #[.string x, .string y] w fun e w' => e = .returned (.bool (hasP x y)) ∧ w = w' := by
  have HH := Lib.hid (fun W => hasin_any x y hx hy W)
  go_enter Tryz.func83, Tryz.ntmps83
  go_wp2_with (go_at_call 122; refine (HH.out _).mono ?_; rintro e w' ⟨rfl, rfl⟩)
  go_ret
  exact ⟨rfl, rfl⟩
/-- The program's number of \u and four digits, from the backslash on. -/
def unitP (low : Bool) : List UInt8 → U
  | [] => .trunc
  | [b] => if b.toNat = 92 then .trunc else .bad
  | b :: c :: t => if b.toNat = 92 ∧ c.toNat = 117 then unitD low 4 0 t else .bad
/-- Does what is read begin like \u? -/
def beginsU : List UInt8 → Bool
  | [] => true
  | [b] => decide (b.toNat = 92)
  | b :: c :: _ => decide (b.toNat = 92 ∧ c.toNat = 117)
theorem hasP_take (r : ByteArray) (n : Nat) (hn : n = min 2 r.size) : hasP ⟨#[92, 117]⟩ (r.extract 0 n) = beginsU r.data.toList := by
  obtain ⟨⟨l⟩⟩ := r
  unfold hasP
  simp only [Lib.toList_data, ByteArray.extract_mk]
  subst hn
  have e : (⟨⟨l⟩⟩ : ByteArray).size = l.length := rfl
  rw [e]
  match l with
  | [] => rfl
  | [b] =>
    show _ = decide (b.toNat = 92)
    have hb : (b = 92) ↔ b.toNat = 92 := ⟨fun h => by rw [h]; rfl, fun h => UInt8.toNat_inj.1 h⟩
    rw [Bool.eq_iff_iff]
    simp [ByteArray.size, ← hb]
    exact eq_comm
  | b :: c :: t =>
    show _ = decide (b.toNat = 92 ∧ c.toNat = 117)
    have hb : (b = 92) ↔ b.toNat = 92 := ⟨fun h => by rw [h]; rfl, fun h => UInt8.toNat_inj.1 h⟩
    have hc : (c = 117) ↔ c.toNat = 117 := ⟨fun h => by rw [h]; rfl, fun h => UInt8.toNat_inj.1 h⟩
    rw [Bool.eq_iff_iff]
    simp [ByteArray.size, ← hb, ← hc]
    constructor
    · rintro ⟨h1, h2⟩; exact ⟨h1.symm, h2.symm⟩
    · rintro ⟨h1, h2⟩; exact ⟨h1.symm, h2.symm⟩
theorem unitD_cut : ∀ (low : Bool) (m n : Nat) (l : List UInt8) (k : Nat), m ≤ k → unitD low m n (l.take k) = unitD low m n l
  | low, 0, n, l, k, h => by rw [unitD, unitD]
  | low, m + 1, n, [], k, h => by rw [List.take_nil]
  | low, m + 1, n, b :: r, k, h => by
    obtain ⟨k, rfl⟩ : ∃ x, k = x + 1 := ⟨k - 1, by omega⟩
    rw [List.take_succ_cons, unitD, unitD]
    cases hexP b with
    | none => rfl
    | some d => simp only []; rw [unitD_cut low m _ r k (by omega)]
/-- The bytes that are looked at decide. -/
theorem unitP_cut (low : Bool) (l : List UInt8) : unitP low (l.take 6) = if beginsU (l.take 6) = true then unitD low 4 0 ((l.take 6).drop 2) else .bad := by
  match l with
  | [] => simp [unitP, beginsU, unitD]
  | [b] =>
    simp only [List.take_succ_cons, List.take_nil, unitP, beginsU, decide_eq_true_eq]
    by_cases h : b.toNat = 92
    · rw [if_pos h, if_pos h]; simp [unitD]
    · rw [if_neg h, if_neg h]
  | b :: c :: t =>
    simp only [List.take_succ_cons, unitP, beginsU, decide_eq_true_eq, List.drop_succ_cons, List.drop_zero]
theorem unitP_take (low : Bool) (l : List UInt8) : unitP low (l.take 6) = unitP low l := by
  match l with
  | [] => rfl
  | [b] => rfl
  | b :: c :: t =>
    simp only [List.take_succ_cons, unitP]
    rw [unitD_cut low 4 0 t 4 (Nat.le_refl _)]
def unitV : U → Value
  | .ok n => .tuple #[.int .i64 n, .int .i64 0]
  | .trunc => .tuple #[.int .i64 0, .int .i64 5]
  | .bad => .tuple #[.int .i64 0, .int .i64 4]
theorem unitD_nil {low : Bool} {m n : Nat} (h : m ≠ 0) : unitD low m n [] = .trunc := by
  obtain ⟨m, rfl⟩ : ∃ x, m = x + 1 := ⟨m - 1, by omega⟩
  rw [unitD]
theorem unitD_step {low : Bool} {m n d j : Nat} {b : UInt8} {l : List UInt8} (hl : l[j]? = some b) (hb : hexP b = some d) : unitD low (m + 1) n (l.drop j) = if possP ((n * 16 + d) * 16 ^ m) ((n * 16 + d) * 16 ^ m + 16 ^ m - 1) low = true then unitD low m (n * 16 + d) (l.drop (j + 1)) else .bad := by
  obtain ⟨h1, rfl⟩ := List.getElem?_eq_some_iff.1 hl
  rw [List.drop_eq_getElem_cons h1, unitD_some hb]
theorem unitD_stop {low : Bool} {m n j : Nat} {b : UInt8} {l : List UInt8} (hl : l[j]? = some b) (hb : hexP b = none) : unitD low (m + 1) n (l.drop j) = .bad := by
  obtain ⟨h1, rfl⟩ := List.getElem?_eq_some_iff.1 hl
  rw [List.drop_eq_getElem_cons h1, unitD_none hb]
/-- Where the reading of the digits stands. -/
def UnitAt (low : Bool) (l : List UInt8) (u : U) (j : Nat) (a c : Int) : Prop := ∃ n : Nat, 2 ≤ j ∧ j ≤ 6 ∧ a = ((n * 16 ^ (6 - j) : Nat) : Int) ∧ c = ((16 ^ (6 - j) : Nat) : Int) ∧ n < 16 ^ (j - 2) ∧ u = unitD low (6 - j) n (l.drop j)
theorem UnitAt.range {low : Bool} {l : List UInt8} {u : U} {j : Nat} {a c : Int} (h : UnitAt low l u j a c) : 0 ≤ a ∧ a ≤ 65535 ∧ 1 ≤ c ∧ c ≤ 65536 := by
  obtain ⟨n, h1, h2, rfl, rfl, h5, -⟩ := h
  have hj : j = 2 ∨ j = 3 ∨ j = 4 ∨ j = 5 ∨ j = 6 := by omega
  rcases hj with rfl | rfl | rfl | rfl | rfl <;> simp at h5 ⊢ <;> omega
theorem UnitAt.next {low : Bool} {l : List UInt8} {u : U} {j d : Nat} {a c : Int} {b : UInt8} (h : UnitAt low l u j a c) (hj : j < 6) (hl : l[j]? = some b) (hb : hexP b = some d) :
    ∃ (c' p : Int) (A B : Nat), c.tdiv 16 = c' ∧ (d : Int) * c' = p ∧ a + p = (A : Int) ∧ a + p + c' - 1 = (B : Int) ∧ A ≤ 65535 ∧ B ≤ 65535 ∧ 1 ≤ c' ∧ c' ≤ 4096 ∧ 0 ≤ p ∧ p ≤ 65535 ∧ d ≤ 15 ∧
      (possP A B low = true → UnitAt low l u (j + 1) (a + p) c') ∧ (possP A B low = false → u = .bad) := by
  obtain ⟨n, h1, h2, rfl, rfl, h5, hu⟩ := h
  have hd := hexP_lt hb
  have hm : 6 - j = (5 - j) + 1 := by omega
  rw [hm, unitD_step hl hb] at hu
  have e6 : 6 - (j + 1) = 5 - j := by omega
  have hjj : j = 2 ∨ j = 3 ∨ j = 4 ∨ j = 5 := by omega
  refine ⟨((16 ^ (5 - j) : Nat) : Int), ((d * 16 ^ (5 - j) : Nat) : Int), (n * 16 + d) * 16 ^ (5 - j), (n * 16 + d) * 16 ^ (5 - j) + 16 ^ (5 - j) - 1, ?_, ?_, ?_, ?_, ?_, ?_, ?_, ?_, ?_, ?_, by omega, ?_, ?_⟩
  case refine_11 =>
    intro hp
    rw [if_pos hp] at hu
    refine ⟨n * 16 + d, by omega, by omega, ?_, by rw [e6], ?_, by rw [e6]; exact hu⟩
    · rcases hjj with rfl | rfl | rfl | rfl <;> simp <;> omega
    · rcases hjj with rfl | rfl | rfl | rfl <;> simp at h5 ⊢ <;> omega
  case refine_12 =>
    intro hp
    rw [if_neg (by rw [hp]; exact Bool.false_ne_true)] at hu
    exact hu
  all_goals rcases hjj with rfl | rfl | rfl | rfl <;> simp at h5 ⊢ <;> omega
theorem UnitAt.bad {low : Bool} {l : List UInt8} {u : U} {j : Nat} {a c : Int} {b : UInt8} (h : UnitAt low l u j a c) (hj : j < 6) (hl : l[j]? = some b) (hb : hexP b = none) :
    u = .bad ∧ ∃ c' : Int, c.tdiv 16 = c' ∧ 1 ≤ c' ∧ c' ≤ 4096 := by
  obtain ⟨n, h1, h2, rfl, rfl, h5, hu⟩ := h
  have hm : 6 - j = (5 - j) + 1 := by omega
  rw [hm, unitD_stop hl hb] at hu
  have hjj : j = 2 ∨ j = 3 ∨ j = 4 ∨ j = 5 := by omega
  refine ⟨hu, ((16 ^ (5 - j) : Nat) : Int), ?_⟩
  rcases hjj with rfl | rfl | rfl | rfl <;> simp
theorem UnitAt.done {low : Bool} {l : List UInt8} {u : U} {j : Nat} {a c : Int} (h : UnitAt low l u j a c) (hl : l.length ≤ j) : (j < 6 → u = .trunc) ∧ (j = 6 → ∃ n : Nat, a = (n : Int) ∧ u = .ok n) := by
  obtain ⟨n, h1, h2, rfl, rfl, h5, hu⟩ := h
  rw [List.drop_eq_nil_of_le hl] at hu
  refine ⟨fun h => ?_, fun h => ?_⟩
  · rw [hu, unitD_nil (by omega)]
  · subst h
    exact ⟨n, by simp, by rw [hu]; simp [unitD]⟩
end Go.Proofs.YtfmpdcmedaiooaaGreatDoor
namespace Go.Proofs.YtfmpdcmedaiooaaGreatDoor
open Go.RowKit
theorem hexno (b : UInt8) (h : hexP b = none) (w : World) : Calls Tryz.prog 233 #[.int .u8 b.toNat] w fun e w' => e = .returned (.tuple #[.int .i64 0, .bool false]) ∧ w = w' := by
  have := hex_any b w
  rw [h] at this; exact this
theorem hexyes (b : UInt8) (d : Nat) (h : hexP b = some d) (w : World) : Calls Tryz.prog 233 #[.int .u8 b.toNat] w fun e w' => e = .returned (.tuple #[.int .i64 d, .bool true]) ∧ w = w' := by
  have := hex_any b w
  rw [h] at this; exact this
theorem possz (x y : Int) (a b : Nat) (low : Bool) (hx : x = a) (hy : y = b) (ha : a ≤ 65535) (hb : b ≤ 65535) (w : World) : Calls Tryz.prog 234 #[.int .i64 x, .int .i64 y, .bool low] w fun e w' => e = .returned (.bool (possP a b low)) ∧ w = w' := by
  subst hx; subst hy
  exact possible_any a b low (by omega) (by omega) w
set_option maxHeartbeats 4000000 in
set_option maxRecDepth 100000 in
theorem unit_any (s : ByteArray) (k : Nat) (low : Bool) (hs : s.size ≤ 1048576) (hk : k ≤ s.size) (w : World) : Calls Tryz.prog 208 #[.string s, .int .i64 k, .bool low] w fun e w' => e = .returned (unitV (unitP low (s.data.toList.drop k))) ∧ w = w' := by
  obtain ⟨m, hm⟩ : ∃ m, m = min (k + 6) s.size := ⟨_, rfl⟩
  obtain ⟨r, hr⟩ : ∃ r, s.extract k m = r := ⟨_, rfl⟩
  have hrl : r.data.toList = (s.data.toList.drop k).take 6 := by
    rw [← hr, ← Lib.toList_data, ext_sub]
    unfold sub
    by_cases h : k + 6 ≤ s.size
    · rw [show m - k = 6 from by omega]
    · have hl : s.data.toList.length = s.size := by simp
      rw [List.take_of_length_le (by rw [List.length_drop, hl]; omega), List.take_of_length_le (by rw [List.length_drop, hl]; omega)]
  have hrs : r.size = m - k := by rw [← hr]; simp; omega
  have hu : unitP low (s.data.toList.drop k) = if beginsU r.data.toList = true then unitD low 4 0 (r.data.toList.drop 2) else .bad := by
    rw [← unitP_take, unitP_cut, ← hrl]
  have hr6 : r.size ≤ 6 := by omega
  have hmm : (k + 6 ≤ s.size ∧ m = k + 6) ∨ (s.size < k + 6 ∧ m = s.size) := by omega
  have hkm : k ≤ m := by omega
  have hms : m ≤ s.size := by omega
  clear hm hrs
  obtain ⟨n2, hn2⟩ : ∃ n, n = min 2 r.size := ⟨_, rfl⟩
  obtain ⟨p2, hp2⟩ : ∃ p, r.extract 0 n2 = p := ⟨_, rfl⟩
  have hpre := hasP_take r n2 hn2
  rw [hp2] at hpre
  have HP := Lib.hid (fun W => has_any ⟨#[92, 117]⟩ p2 (by decide) (by rw [← hp2]; simp; omega) W)
  rw [hpre] at HP
  have hnn : (2 ≤ r.size ∧ n2 = 2) ∨ (r.size < 2 ∧ n2 = r.size) := by omega
  have hn22 : n2 ≤ r.size := by omega
  have hRL : r.data.toList.length = r.size := by simp
  have HRL := Lib.hid hRL
  clear hn2 hpre hrl hRL
  have HU := Lib.hid hu
  clear hu
  obtain ⟨u, hu⟩ : ∃ u, u = unitP low (s.data.toList.drop k) := ⟨_, rfl⟩
  rw [← hu] at HU ⊢
  clear hu
  obtain ⟨bu, hbu⟩ : ∃ bu, beginsU r.data.toList = bu := ⟨_, rfl⟩
  rw [hbu] at HU HP
  clear hbu
  go_enter Tryz.func208, Tryz.ntmps208
  go_upto_region 1 with fail
  go_cut [8] (fun t8 wx => wx = w ∧ t8 = .string r)
  case first => as_aux_lemma =>
    rcases hmm with ⟨h1, h2⟩ | ⟨h1, h2⟩
    all_goals
      have H2 := Lib.hid h2
      clear h2
      go_wp2_with fail
      go_meet
      refine ⟨rfl, ?_⟩
      rw [← hr, H2.out]
  case rest =>
    obtain ⟨hweq, rfl⟩ := hcut
    have hweq := hweq.symm
    subst hweq
    clear hr hmm hkm hms
    go_upto_region 2 with fail
    go_cut [28] (fun t28 wx => wx = w ∧ t28 = .bool (!bu))
    case first => as_aux_lemma =>
      rcases hnn with ⟨h1, h2⟩ | ⟨h1, h2⟩
      · subst h2
        go_wp2_with (go_at_call 83; refine (HP.out _).mono ?_; rintro e w' ⟨rfl, rfl⟩)
        go_meet
        exact ⟨rfl, rfl⟩
      · subst h2
        have hpr : p2 = r := by rw [← hp2]; exact ByteArray.extract_zero_size
        subst hpr
        go_wp2_with (go_at_call 83; refine (HP.out _).mono ?_; rintro e w' ⟨rfl, rfl⟩)
        go_meet
        exact ⟨rfl, rfl⟩
    case rest =>
      obtain ⟨hweq, rfl⟩ := hcut
      have hweq := hweq.symm
      subst hweq
      clear hp2 hnn hn22 HP
      cases bu with
      | false =>
        have hub : u = .bad := by have := HU.out; rw [if_neg Bool.false_ne_true] at this; exact this
        subst hub
        clear HU
        go_wp2_with fail
        go_ret2
        exact ⟨rfl, rfl⟩
      | true =>
        have hut : u = unitD low 4 0 (r.data.toList.drop 2) := by have := HU.out; rw [if_pos rfl] at this; exact this
        have HA : Hid (UnitAt low r.data.toList u 2 0 65536) := Lib.hid ⟨0, by omega, by omega, by simp, by simp, by simp, hut⟩
        clear HU hut
        go_wp2
        go_loop [9, 10, 11] (fun ta tc tj => ∃ (j : Nat) (a c : Int), 2 ≤ j ∧ (j ≤ r.size ∨ j = 2) ∧ tj = .int .i64 j ∧ ta = .int .i64 a ∧ tc = .int .i64 c ∧ Hid (UnitAt low r.data.toList u j a c)) (fun _ _ tj => 7 - (intOf tj).toNat)
        case atStart => exact ⟨2, 0, 65536, Nat.le_refl _, .inr rfl, rfl, rfl, rfl, HA⟩
        case round =>
          clear HA
          obtain ⟨j, a, c, hj2, hj6, rfl, rfl, rfl, HA⟩ := hrel
          obtain ⟨ra, rb, rc, rd⟩ := HA.out.range
          by_cases hlt : j < r.size
          · obtain ⟨b, hb⟩ : ∃ b, r[j] = b := ⟨_, rfl⟩
            have HB := Lib.hid (at_list hlt hb)
            have hj : j < 6 := by omega
            rcases hexP_none_or b with hx | ⟨d, hx, hd⟩
            · obtain ⟨hub, c', hc, hc1, hc2⟩ := HA.out.bad hj HB.out hx
              subst hub
              have HX := Lib.hid (hexno b hx)
              clear hx
              go_wp2_with (go_at_call 233; refine (HX.out _).mono ?_; rintro e w' ⟨rfl, rfl⟩)
              go_ret2
              exact ⟨rfl, rfl⟩
            · obtain ⟨c', p, A, B, hc, hp, hA, hB, hA1, hB1, hc1, hc2, hp1, hp2, hd2, hyes, hno⟩ := HA.out.next hj HB.out hx
              have HX := Lib.hid (hexyes b d hx)
              have HYES := Lib.hid hyes
              have HNO := Lib.hid hno
              have HPO := Lib.hid (fun W => possz (a + p) (a + p + c' - 1) A B low hA hB hA1 hB1 W)
              clear hx hyes hno hA hB hA1 hB1
              cases hpo : possP A B low with
              | true =>
                rw [hpo] at HPO
                have HN := Lib.hid (HYES.out hpo)
                clear hpo
                go_wp2_with (first | (go_at_call 233; refine (HX.out _).mono ?_; rintro e w' ⟨rfl, rfl⟩) | (go_at_call 234; refine (HPO.out _).mono ?_; rintro e w' ⟨rfl, rfl⟩))
                go_round
                case rel => exact ⟨j + 1, a + p, c', by omega, by omega, by go_num, rfl, rfl, HN⟩
                case measure => simp [intOf]; omega
              | false =>
                rw [hpo] at HPO
                have hub := HNO.out hpo
                subst hub
                clear hpo
                go_wp2_with (first | (go_at_call 233; refine (HX.out _).mono ?_; rintro e w' ⟨rfl, rfl⟩) | (go_at_call 234; refine (HPO.out _).mono ?_; rintro e w' ⟨rfl, rfl⟩))
                go_ret2
                exact ⟨rfl, rfl⟩
          · obtain ⟨h1, h2⟩ := HA.out.done (by rw [HRL.out]; omega)
            by_cases h6 : r.size < 6
            · have hut := h1 (by omega)
              subst hut
              clear h1 h2
              go_wp2
              go_ret2
              exact ⟨rfl, rfl⟩
            · obtain ⟨n, hn, hu⟩ := h2 (by omega)
              subst hn
              subst hu
              clear h1 h2
              go_wp2
              go_ret2
              exact ⟨rfl, rfl⟩
end Go.Proofs.YtfmpdcmedaiooaaGreatDoor
namespace Go.Proofs.YtfmpdcmedaiooaaGreatDoor
open Go.RowKit
def escV (L k : Nat) : Esc → Value
  | .ok r n => .tuple #[.int .i64 r, .int .i64 ((k + n : Nat) : Int), .int .i64 0]
  | .trunc => .tuple #[.int .i64 0, .int .i64 L, .int .i64 5]
  | .bad => .tuple #[.int .i64 0, .int .i64 k, .int .i64 4]
def pairQ (n : Nat) : U → Esc
  | .ok m => .ok (65536 + (n - 55296) * 1024 + (m - 56320)) 12
  | .trunc => .trunc
  | .bad => .bad
def uniQ (l : List UInt8) : U → Esc
  | .ok n => if 55296 ≤ n ∧ n ≤ 56319 then pairP n l else .ok n 6
  | .trunc => .trunc
  | .bad => .bad
theorem uniP_q (l : List UInt8) : uniP l = uniQ (l.drop 4) (firstR l) := by
  unfold uniP
  cases firstR l <;> rfl
theorem pairP_unit (n : Nat) (l : List UInt8) : pairP n l = pairQ n (unitP true l) := by
  match l with
  | [] => rfl
  | [b] =>
    rw [pairP, unitP]
    by_cases h : b.toNat = 92
    · rw [if_pos h, if_pos h]; rfl
    · rw [if_neg h, if_neg h]; rfl
  | b :: c :: t =>
    rw [pairP, unitP]
    by_cases h : b.toNat = 92 ∧ c.toNat = 117
    · rw [if_pos h, if_pos h, unit_low]; cases quadR 56320 57343 4 0 t <;> rfl
    · rw [if_neg h, if_neg h]; rfl
theorem unit_u {low : Bool} {l : List UInt8} {k : Nat} {a b : UInt8} (h1 : l[k]? = some a) (h2 : l[k + 1]? = some b) (ha : a.toNat = 92) (hb : b.toNat = 117) : unitP low (l.drop k) = unitD low 4 0 (l.drop (k + 2)) := by
  obtain ⟨g1, rfl⟩ := List.getElem?_eq_some_iff.1 h1
  obtain ⟨g2, rfl⟩ := List.getElem?_eq_some_iff.1 h2
  rw [List.drop_eq_getElem_cons g1, List.drop_eq_getElem_cons g2, unitP, if_pos ⟨ha, hb⟩]
theorem unit_as {s : ByteArray} {k : Nat} {low : Bool} {u : U} (hs : s.size ≤ 1048576) (hk : k ≤ s.size) (h : unitP low (s.data.toList.drop k) = u) (w : World) : Calls Tryz.prog 208 #[.string s, .int .i64 k, .bool low] w fun e w' => e = .returned (unitV u) ∧ w = w' := by
  rw [← h]; exact unit_any s k low hs hk w
theorem unitP_range {l : List UInt8} {m : Nat} (h : unitP true l = .ok m) : 56320 ≤ m ∧ m ≤ 57343 := by
  match l, h with
  | [], h => cases h
  | [b], h => rw [unitP] at h; split at h <;> cases h
  | b :: c :: t, h =>
    rw [unitP] at h
    split at h
    · rw [unit_low] at h; exact quadR_range h (by omega)
    · cases h
set_option maxHeartbeats 4000000 in
set_option maxRecDepth 100000 in
theorem numesc_any (s : ByteArray) (k : Nat) (hs : s.size ≤ 1048576) (hk : k + 2 ≤ s.size) (a b : UInt8) (h1 : s.data.toList[k]? = some a) (h2 : s.data.toList[k + 1]? = some b) (ha : a.toNat = 92) (hb : b.toNat = 117) (w : World) :
    Calls Tryz.prog 181 #[.string s, .int .i64 k] w fun e w' => e = .returned (escV s.size k (uniP (s.data.toList.drop (k + 2)))) ∧ w = w' := by
  have hl : s.data.toList.length = s.size := by simp
  have hfirst : unitP false (s.data.toList.drop k) = firstR (s.data.toList.drop (k + 2)) := by rw [unit_u h1 h2 ha hb, unit_first]
  obtain ⟨u, hu⟩ : ∃ u, firstR (s.data.toList.drop (k + 2)) = u := ⟨_, rfl⟩
  have HF := Lib.hid (fun W => unit_as hs (by omega : k ≤ s.size) (hfirst.trans hu) W)
  have HX : Hid (uniP (s.data.toList.drop (k + 2)) = uniQ (s.data.toList.drop (k + 6)) u) := Lib.hid (by
    rw [uniP_q, hu, List.drop_drop])
  clear h1 h2 ha hb hfirst
  cases u with
  | bad =>
    rw [HX.out]
    clear HX hu
    simp only [unitV] at HF
    go_enter Tryz.func181, Tryz.ntmps181
    go_wp2_with (go_at_call 208; refine (HF.out _).mono ?_; rintro e w' ⟨rfl, rfl⟩)
    go_ret3
    exact ⟨rfl, rfl⟩
  | trunc =>
    rw [HX.out]
    clear HX hu
    simp only [unitV] at HF
    go_enter Tryz.func181, Tryz.ntmps181
    go_wp2_with (go_at_call 208; refine (HF.out _).mono ?_; rintro e w' ⟨rfl, rfl⟩)
    go_ret3
    exact ⟨rfl, rfl⟩
  | ok n =>
    obtain ⟨-, hlen, hn6, hnlow⟩ := firstR_ok hu
    rw [List.length_drop, hl] at hlen
    have hk6 : k + 6 ≤ s.size := by omega
    clear hlen hl
    obtain ⟨z, hz⟩ : ∃ z : Int, z = (n : Int) := ⟨_, rfl⟩
    have HZF : Hid (∀ W : World, Calls Tryz.prog 208 #[.string s, .int .i64 k, .bool false] W fun e w' => e = .returned (.tuple #[.int .i64 z, .int .i64 0]) ∧ W = w') := Lib.hid (by rw [hz]; exact HF.out)
    have HZ := Lib.hid hz
    have HN := Lib.hid hn6
    clear hn6 hu HF
    by_cases hh : 55296 ≤ n ∧ n ≤ 56319
    · have hx : uniP (s.data.toList.drop (k + 2)) = pairP n (s.data.toList.drop (k + 6)) := by rw [HX.out]; unfold uniQ; exact if_pos hh
      rw [hx, pairP_unit]
      obtain ⟨v, hv⟩ : ∃ v, unitP true (s.data.toList.drop (k + 6)) = v := ⟨_, rfl⟩
      have hk6e : ((k + 6 : Nat) : Int) = (k : Int) + 6 := by omega
      have HS := Lib.hid (fun W => unit_as hs hk6 hv W)
      rw [hk6e] at HS
      clear hk6e
      rw [hv]
      have HV := Lib.hid hv
      clear hv hx HX
      have g1 : (55296 : Int) ≤ z := by omega
      have g2 : z < 56320 := by omega
      have HH := Lib.hid hh
      clear hh hnlow hz
      cases v with
      | bad =>
        simp only [unitV] at HS
        go_enter Tryz.func181, Tryz.ntmps181
        go_wp2_with (first | (go_at_call 208; with_reducible refine (HZF.out _).mono ?_; rintro e w' ⟨rfl, rfl⟩) | (go_at_call 208; with_reducible refine (HS.out _).mono ?_; rintro e w' ⟨rfl, rfl⟩))
        go_ret3
        exact ⟨rfl, rfl⟩
      | trunc =>
        simp only [unitV] at HS
        go_enter Tryz.func181, Tryz.ntmps181
        go_wp2_with (first | (go_at_call 208; with_reducible refine (HZF.out _).mono ?_; rintro e w' ⟨rfl, rfl⟩) | (go_at_call 208; with_reducible refine (HS.out _).mono ?_; rintro e w' ⟨rfl, rfl⟩))
        go_ret3
        exact ⟨rfl, rfl⟩
      | ok m =>
        have hm := unitP_range HV.out
        obtain ⟨y, hy⟩ : ∃ y : Int, y = (m : Int) := ⟨_, rfl⟩
        have HYS : Hid (∀ W : World, Calls Tryz.prog 208 #[.string s, .int .i64 ((k : Int) + 6), .bool true] W fun e w' => e = .returned (.tuple #[.int .i64 y, .int .i64 0]) ∧ W = w') := Lib.hid (by rw [hy]; exact HS.out)
        have q1 : 56320 ≤ y := by omega
        have q2 : y ≤ 57343 := by omega
        have HY := Lib.hid hy
        clear hm hy HS
        go_enter Tryz.func181, Tryz.ntmps181
        go_wp2_with (first | (go_at_call 208; with_reducible refine (HZF.out _).mono ?_; rintro e w' ⟨rfl, rfl⟩) | (go_at_call 208; with_reducible refine (HYS.out _).mono ?_; rintro e w' ⟨rfl, rfl⟩))
        go_ret3
        have e1 : ((65536 + (n - 55296) * 1024 + (m - 56320) : Nat) : Int) = 65536 + (z - 55296) * 1024 + (y - 56320) := by have := HZ.out; have := HY.out; have := HH.out; omega
        have e2 : ((k + 12 : Nat) : Int) = (k : Int) + 6 + 6 := by omega
        have hfin : escV s.size k (pairQ n (.ok m)) = .tuple #[.int .i64 (65536 + (z - 55296) * 1024 + (y - 56320)), .int .i64 ((k : Int) + 6 + 6), .int .i64 0] := by
          rw [← e1, ← e2]; rfl
        exact ⟨by rw [hfin]; rfl, rfl⟩
    · have hx : uniP (s.data.toList.drop (k + 2)) = .ok n 6 := by rw [HX.out]; unfold uniQ; exact if_neg hh
      rw [hx]
      clear hx HX
      by_cases g1 : (55296 : Int) ≤ z
      · have g2 : ¬ z < 56320 := by omega
        have g3 : z ≤ 65535 := by have := HN.out; omega
        clear hh hnlow hz
        go_enter Tryz.func181, Tryz.ntmps181
        go_wp2_with (go_at_call 208; with_reducible refine (HZF.out _).mono ?_; rintro e w' ⟨rfl, rfl⟩)
        go_ret3
        exact ⟨by rw [HZ.out]; rfl, rfl⟩
      · have g4 : 0 ≤ z := by omega
        clear hh hnlow hz
        go_enter Tryz.func181, Tryz.ntmps181
        go_wp2_with (go_at_call 208; with_reducible refine (HZF.out _).mono ?_; rintro e w' ⟨rfl, rfl⟩)
        go_ret3
        exact ⟨by rw [HZ.out]; rfl, rfl⟩
set_option maxHeartbeats 4000000 in
set_option maxRecDepth 100000 in
theorem esc_any (s : ByteArray) (k : Nat) (hs : s.size ≤ 1048576) (hk : k + 1 ≤ s.size) (a : UInt8) (h1 : s.data.toList[k]? = some a) (ha : a.toNat = 92) (w : World) :
    Calls Tryz.prog 150 #[.string s, .int .i64 k] w fun e w' => e = .returned (escV s.size k (escP (s.data.toList.drop (k + 1)))) ∧ w = w' := by
  have hl : s.data.toList.length = s.size := by simp
  by_cases hlt : k + 1 < s.size
  · obtain ⟨b, hb⟩ : ∃ b, s[k + 1] = b := ⟨_, rfl⟩
    have h2 := at_list hlt hb
    have hd : s.data.toList.drop (k + 1) = b :: s.data.toList.drop (k + 2) := by
      obtain ⟨g, hg⟩ := List.getElem?_eq_some_iff.1 h2
      rw [List.drop_eq_getElem_cons g, hg]
    have HN := Lib.hid (fun (hb : b.toNat = 117) W => numesc_any s k hs (by omega) a b h1 h2 ha hb W)
    rw [hd]
    clear h1 h2 ha hd hl
    have hne : ((k : Int) + 1 == (s.size : Int)) = false := beq_eq_false_iff_ne.2 (fun h => by omega)
    have hb255 := UInt8.toNat_lt b
    have HX : Hid (escP (b :: s.data.toList.drop (k + 2)) = if b.toNat = 34 ∨ b.toNat = 92 ∨ b.toNat = 47 then .ok b.toNat 2
      else if b.toNat = 98 then .ok 8 2 else if b.toNat = 102 then .ok 12 2 else if b.toNat = 110 then .ok 10 2 else if b.toNat = 114 then .ok 13 2 else if b.toNat = 116 then .ok 9 2
      else if b.toNat = 117 then uniP (s.data.toList.drop (k + 2)) else .bad) := Lib.hid (by rw [escP])
    obtain ⟨x, hx⟩ : ∃ x, uniP (s.data.toList.drop (k + 2)) = x := ⟨_, rfl⟩
    rw [HX.out]
    rw [hx] at HN ⊢
    clear HX hx
    have hcase : (b.toNat = 34 ∨ b.toNat = 92 ∨ b.toNat = 47 ∨ b.toNat = 98 ∨ b.toNat = 102 ∨ b.toNat = 110 ∨ b.toNat = 114 ∨ b.toNat = 116) ∨ b.toNat = 117 ∨ (b.toNat ≠ 34 ∧ b.toNat ≠ 92 ∧ b.toNat ≠ 47 ∧ b.toNat ≠ 98 ∧ b.toNat ≠ 102 ∧ b.toNat ≠ 110 ∧ b.toNat ≠ 114 ∧ b.toNat ≠ 116 ∧ b.toNat ≠ 117) := by omega
    rcases hcase with hc | h | ⟨n1, n2, n3, n4, n5, n6, n7, n8, n9⟩
    · rcases hc with h | h | h | h | h | h | h | h
      all_goals
        rw [h]
        simp only [or_true, true_or, if_true, if_false, Nat.reduceEqDiff, or_self]
        clear HN
        go_enter Tryz.func150, Tryz.ntmps150
        go_wp2_with fail
        go_ret3
        exact ⟨rfl, rfl⟩
    · rw [if_neg (by omega), if_neg (by omega), if_neg (by omega), if_neg (by omega), if_neg (by omega), if_neg (by omega), if_pos h]
      have HN2 := Lib.hid (HN.out h)
      clear HN
      cases x with
      | ok r n =>
        simp only [escV] at HN2 ⊢
        go_enter Tryz.func150, Tryz.ntmps150
        go_wp2_with (go_at_call 181; refine (HN2.out _).mono ?_; rintro e w' ⟨rfl, rfl⟩)
        go_ret3
        exact ⟨rfl, rfl⟩
      | trunc =>
        simp only [escV] at HN2 ⊢
        go_enter Tryz.func150, Tryz.ntmps150
        go_wp2_with (go_at_call 181; refine (HN2.out _).mono ?_; rintro e w' ⟨rfl, rfl⟩)
        go_ret3
        exact ⟨rfl, rfl⟩
      | bad =>
        simp only [escV] at HN2 ⊢
        go_enter Tryz.func150, Tryz.ntmps150
        go_wp2_with (go_at_call 181; refine (HN2.out _).mono ?_; rintro e w' ⟨rfl, rfl⟩)
        go_ret3
        exact ⟨rfl, rfl⟩
    · rw [if_neg (by omega), if_neg (by omega), if_neg (by omega), if_neg (by omega), if_neg (by omega), if_neg (by omega), if_neg (by omega)]
      clear HN
      have m1 : ((b.toNat : Int) == 34) = false := beq_eq_false_iff_ne.2 (fun h => n1 (by omega))
      have m2 : ((b.toNat : Int) == 92) = false := beq_eq_false_iff_ne.2 (fun h => n2 (by omega))
      have m3 : ((b.toNat : Int) == 47) = false := beq_eq_false_iff_ne.2 (fun h => n3 (by omega))
      have m4 : ((b.toNat : Int) == 98) = false := beq_eq_false_iff_ne.2 (fun h => n4 (by omega))
      have m5 : ((b.toNat : Int) == 102) = false := beq_eq_false_iff_ne.2 (fun h => n5 (by omega))
      have m6 : ((b.toNat : Int) == 110) = false := beq_eq_false_iff_ne.2 (fun h => n6 (by omega))
      have m7 : ((b.toNat : Int) == 114) = false := beq_eq_false_iff_ne.2 (fun h => n7 (by omega))
      have m8 : ((b.toNat : Int) == 116) = false := beq_eq_false_iff_ne.2 (fun h => n8 (by omega))
      have m9 : ((b.toNat : Int) == 117) = false := beq_eq_false_iff_ne.2 (fun h => n9 (by omega))
      clear n1 n2 n3 n4 n5 n6 n7 n8 n9
      go_enter Tryz.func150, Tryz.ntmps150
      go_wp2_with fail
      go_ret3
      exact ⟨rfl, rfl⟩
  · have hd : s.data.toList.drop (k + 1) = [] := List.drop_eq_nil_of_le (by rw [hl]; omega)
    rw [hd]
    have hne : ((k : Int) + 1 == (s.size : Int)) = true := by rw [beq_iff_eq]; omega
    clear h1 ha hd hl
    go_enter Tryz.func150, Tryz.ntmps150
    go_wp2_with fail
    go_ret3
    exact ⟨rfl, rfl⟩
end Go.Proofs.YtfmpdcmedaiooaaGreatDoor
