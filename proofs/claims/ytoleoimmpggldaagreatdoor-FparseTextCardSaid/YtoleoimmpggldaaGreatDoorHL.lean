import Derived.Test.YtoleoimmpggldaaGreatDoorHJ
import Derived.Deep.Light
import Derived.Deep.CutBlock
import Derived.Deep.DeepCutAuto
import Derived.Test.YtoleoimmpggldaaGreatDoorHU
import Derived.Lib.AppendStr
import Derived.WalkMore
import Derived.Scope
set_option linter.unusedVariables false
set_option linter.unusedSectionVars false
set_option linter.unusedSimpArgs false
set_option maxHeartbeats 10000000
set_option maxRecDepth 100000
namespace Go.Proofs.YtoleoimmpggldaaGreatDoor
open Go.RowKit
def hasP (x y : ByteArray) : Bool := decide (y.size ≤ x.size) && ((x.extract 0 y.size).toList == y.toList)
theorem hasin_any (x y : ByteArray) (hx : x.size ≤ 1048576) (hy : y.size ≤ 1048576) (w : World) : Calls Tryz.prog 96 #[.string x, .string y] w fun e w' => e = .returned (.bool (hasP x y)) ∧ w = w' := by
 unfold hasP
 by_cases h : y.size ≤ x.size
 · rw [decide_eq_true h, Bool.true_and]
   cases hq : ((x.extract 0 y.size).toList == y.toList)
   all_goals
    go_enter Tryz.func96, Tryz.ntmps96
    go_wp2
    all_goals go_ret
    all_goals exact ⟨rfl, rfl⟩
 · rw [decide_eq_false h, Bool.false_and]
   go_enter Tryz.func96, Tryz.ntmps96
   go_wp2
   all_goals go_ret
   all_goals exact ⟨rfl, rfl⟩
theorem has_any (x y : ByteArray) (hx : x.size ≤ 1048576) (hy : y.size ≤ 1048576) (w : World) : Calls Tryz.prog 74 #[.string x, .string y] w fun e w' => e = .returned (.bool (hasP x y)) ∧ w = w' := by
 have HH := hI (fun W => hasin_any x y hx hy W)
 go_enter Tryz.func74, Tryz.ntmps74
 go_wp2_with (go_at_call 96; refine (HH.out _).mono ?_; rintro e w' ⟨rfl, rfl⟩)
 go_ret
 exact ⟨rfl, rfl⟩
def unitP (low : Bool) : List UInt8 → U
 | [] => .trunc
 | [b] => if b.toNat = 92 then .trunc else .bad
 | b :: c :: t => if b.toNat = 92 ∧ c.toNat = 117 then unitD low 4 0 t else .bad
def beginsU : List UInt8 → Bool
 | [] => true
 | [b] => decide (b.toNat = 92)
 | b :: c :: _ => decide (b.toNat = 92 ∧ c.toNat = 117)
theorem hasP_take (r : ByteArray) (n : Nat) (hn : n = min 2 r.size) : hasP ⟨#[92, 117]⟩ (r.extract 0 n) = beginsU r.data.toList := by
 obtain ⟨⟨l⟩⟩ := r;unfold hasP;simp only [Lib.toList_data, ByteArray.extract_mk];subst hn;have e : (⟨⟨l⟩⟩ : ByteArray).size = l.length := rfl;rw [e]
 match l with
 | [] => rfl
 | [b] =>
  show _ = decide (b.toNat = 92)
  have hb : (b = 92) ↔ b.toNat = 92 := ⟨fun h => by rw [h]; rfl, fun h => UInt8.toNat_inj.1 h⟩
  rw [Bool.eq_iff_iff];simp [ByteArray.size, ← hb];exact eq_comm
 | b :: c :: t =>
  show _ = decide (b.toNat = 92 ∧ c.toNat = 117)
  have hb : (b = 92) ↔ b.toNat = 92 := ⟨fun h => by rw [h]; rfl, fun h => UInt8.toNat_inj.1 h⟩
  have hc : (c = 117) ↔ c.toNat = 117 := ⟨fun h => by rw [h]; rfl, fun h => UInt8.toNat_inj.1 h⟩
  rw [Bool.eq_iff_iff];simp [ByteArray.size, ← hb, ← hc]
  constructor
  · rintro ⟨h1, h2⟩; exact ⟨h1.symm, h2.symm⟩
  · rintro ⟨h1, h2⟩; exact ⟨h1.symm, h2.symm⟩
theorem unitD_cut : ∀ (low : Bool) (m n : Nat) (l : List UInt8) (k : Nat), m ≤ k → unitD low m n (l.take k) = unitD low m n l
 | low, 0, n, l, k, h => by rw [unitD, unitD]
 | low, m + 1, n, [], k, h => by rw [List.take_nil]
 | low, m + 1, n, b :: r, k, h => by
  obtain ⟨k, rfl⟩ : ∃ x, k = x + 1 := ⟨k - 1, by omega⟩
  rw [List.take_succ_cons, unitD, unitD]
  cases hexP b with
  | none => rfl
  | some d => simp only []; rw [unitD_cut low m _ r k (by omega)]
theorem unitP_cut (low : Bool) (l : List UInt8) : unitP low (l.take 6) = if beginsU (l.take 6) = true then unitD low 4 0 ((l.take 6).drop 2) else .bad := by
 match l with
 | [] => simp [unitP, beginsU, unitD]
 | [b] =>
  simp only [List.take_succ_cons, List.take_nil, unitP, beginsU, decide_eq_true_eq]
  by_cases h : b.toNat = 92
  · rw [if_pos h, if_pos h]; simp [unitD]
  · rw [if_neg h, if_neg h]
 | b :: c :: t =>
  simp only [List.take_succ_cons, unitP, beginsU, decide_eq_true_eq, List.drop_succ_cons, List.drop_zero]
theorem unitP_take (low : Bool) (l : List UInt8) : unitP low (l.take 6) = unitP low l := by
 match l with
 | [] => rfl
 | [b] => rfl
 | b :: c :: t =>
  simp only [List.take_succ_cons, unitP];rw [unitD_cut low 4 0 t 4 (Nat.le_refl _)]
def unitV : U → Value
 | .ok n => .tuple #[ι n, ι 0]
 | .trunc => .tuple #[ι 0, ι 5]
 | .bad => .tuple #[ι 0, ι 4]
theorem unitD_nil {low : Bool} {m n : Nat} (h : m ≠ 0) : unitD low m n [] = .trunc := by
 obtain ⟨m, rfl⟩ : ∃ x, m = x + 1 := ⟨m - 1, by omega⟩
 rw [unitD]
theorem unitD_step {low : Bool} {m n d j : Nat} {b : UInt8} {l : List UInt8} (hl : l[j]? = some b) (hb : hexP b = some d) : unitD low (m + 1) n (l.drop j) = if possP ((n * 16 + d) * 16 ^ m) ((n * 16 + d) * 16 ^ m + 16 ^ m - 1) low = true then unitD low m (n * 16 + d) (l.drop (j + 1)) else .bad := by
 obtain ⟨h1, rfl⟩ := gE.1 hl;rw [List.drop_eq_getElem_cons h1, unitD_some hb]
theorem unitD_stop {low : Bool} {m n j : Nat} {b : UInt8} {l : List UInt8} (hl : l[j]? = some b) (hb : hexP b = none) : unitD low (m + 1) n (l.drop j) = .bad := by
 obtain ⟨h1, rfl⟩ := gE.1 hl;rw [List.drop_eq_getElem_cons h1, unitD_none hb]
def UnitAt (low : Bool) (l : List UInt8) (u : U) (j : Nat) (a c : Int) : Prop := ∃ n : Nat, 2 ≤ j ∧ j ≤ 6 ∧ a = ((n * 16 ^ (6 - j) : Nat) : Int) ∧ c = ((16 ^ (6 - j) : Nat) : Int) ∧ n < 16 ^ (j - 2) ∧ u = unitD low (6 - j) n (l.drop j)
theorem UnitAt.range {low : Bool} {l : List UInt8} {u : U} {j : Nat} {a c : Int} (h : UnitAt low l u j a c) : 0 ≤ a ∧ a ≤ 65535 ∧ 1 ≤ c ∧ c ≤ 65536 := by
 obtain ⟨n, h1, h2, rfl, rfl, h5, -⟩ := h;have hj : j = 2 ∨ j = 3 ∨ j = 4 ∨ j = 5 ∨ j = 6 := by omega
 rcases hj with rfl | rfl | rfl | rfl | rfl <;> simp at h5 ⊢ <;> omega
theorem UnitAt.next {low : Bool} {l : List UInt8} {u : U} {j d : Nat} {a c : Int} {b : UInt8} (h : UnitAt low l u j a c) (hj : j < 6) (hl : l[j]? = some b) (hb : hexP b = some d) :
 ∃ (c' p : Int) (A B : Nat), c.tdiv 16 = c' ∧ (d : Int) * c' = p ∧ a + p = (A : Int) ∧ a + p + c' - 1 = (B : Int) ∧ A ≤ 65535 ∧ B ≤ 65535 ∧ 1 ≤ c' ∧ c' ≤ 4096 ∧ 0 ≤ p ∧ p ≤ 65535 ∧ d ≤ 15 ∧
  (possP A B low = true → UnitAt low l u (j + 1) (a + p) c') ∧ (possP A B low = false → u = .bad) := by
 obtain ⟨n, h1, h2, rfl, rfl, h5, hu⟩ := h;have hd := hexP_lt hb;have hm : 6 - j = (5 - j) + 1 := by omega
 rw [hm, unitD_step hl hb] at hu;have e6 : 6 - (j + 1) = 5 - j := by omega
 have hjj : j = 2 ∨ j = 3 ∨ j = 4 ∨ j = 5 := by omega
 refine ⟨((16 ^ (5 - j) : Nat) : Int), ((d * 16 ^ (5 - j) : Nat) : Int), (n * 16 + d) * 16 ^ (5 - j), (n * 16 + d) * 16 ^ (5 - j) + 16 ^ (5 - j) - 1, ?_, ?_, ?_, ?_, ?_, ?_, ?_, ?_, ?_, ?_, by omega, ?_, ?_⟩
 case refine_11 =>
  intro hp;rw [if_pos hp] at hu;refine ⟨n * 16 + d, by omega, by omega, ?_, by rw [e6], ?_, by rw [e6]; exact hu⟩
  · rcases hjj with rfl | rfl | rfl | rfl <;> simp <;> omega
  · rcases hjj with rfl | rfl | rfl | rfl <;> simp at h5 ⊢ <;> omega
 case refine_12 =>
  intro hp;rw [if_neg (by rw [hp]; exact Bool.false_ne_true)] at hu;exact hu
 all_goals rcases hjj with rfl | rfl | rfl | rfl <;> simp at h5 ⊢ <;> omega
theorem UnitAt.bad {low : Bool} {l : List UInt8} {u : U} {j : Nat} {a c : Int} {b : UInt8} (h : UnitAt low l u j a c) (hj : j < 6) (hl : l[j]? = some b) (hb : hexP b = none) :
 u = .bad ∧ ∃ c' : Int, c.tdiv 16 = c' ∧ 1 ≤ c' ∧ c' ≤ 4096 := by
 obtain ⟨n, h1, h2, rfl, rfl, h5, hu⟩ := h;have hm : 6 - j = (5 - j) + 1 := by omega
 rw [hm, unitD_stop hl hb] at hu;have hjj : j = 2 ∨ j = 3 ∨ j = 4 ∨ j = 5 := by omega
 refine ⟨hu, ((16 ^ (5 - j) : Nat) : Int), ?_⟩;rcases hjj with rfl | rfl | rfl | rfl <;> simp
theorem UnitAt.done {low : Bool} {l : List UInt8} {u : U} {j : Nat} {a c : Int} (h : UnitAt low l u j a c) (hl : l.length ≤ j) : (j < 6 → u = .trunc) ∧ (j = 6 → ∃ n : Nat, a = (n : Int) ∧ u = .ok n) := by
 obtain ⟨n, h1, h2, rfl, rfl, h5, hu⟩ := h;rw [List.drop_eq_nil_of_le hl] at hu;refine ⟨fun h => ?_, fun h => ?_⟩
 · rw [hu, unitD_nil (by omega)]
 · subst h;exact ⟨n, by simp, by rw [hu]; simp [unitD]⟩
end Go.Proofs.YtoleoimmpggldaaGreatDoor
namespace Go.Proofs.YtoleoimmpggldaaGreatDoor
open Go.RowKit
theorem hexno (b : UInt8) (h : hexP b = none) (w : World) : Calls Tryz.prog 132 #[.int .u8 b.toNat] w fun e w' => e = .returned (.tuple #[ι 0, .bool false]) ∧ w = w' := by
 have := hex_any b w;rw [h] at this; exact this
theorem hexyes (b : UInt8) (d : Nat) (h : hexP b = some d) (w : World) : Calls Tryz.prog 132 #[.int .u8 b.toNat] w fun e w' => e = .returned (.tuple #[ι d, .bool true]) ∧ w = w' := by
 have := hex_any b w;rw [h] at this; exact this
theorem possz (x y : Int) (a b : Nat) (low : Bool) (hx : x = a) (hy : y = b) (ha : a ≤ 65535) (hb : b ≤ 65535) (w : World) : Calls Tryz.prog 133 #[ι x, ι y, .bool low] w fun e w' => e = .returned (.bool (possP a b low)) ∧ w = w' := by
 subst hx; subst hy;exact possible_any a b low (by omega) (by omega) w
theorem unit_any (s : ByteArray) (k : Nat) (low : Bool) (hs : s.size ≤ 1048576) (hk : k ≤ s.size) (w : World) : Calls Tryz.prog 126 #[.string s, ι k, .bool low] w fun e w' => e = .returned (unitV (unitP low (s.data.toList.drop k))) ∧ w = w' := by
 obtain ⟨m, hm⟩ : ∃ m, m = min (k + 6) s.size := ⟨_, rfl⟩
 obtain ⟨r, hr⟩ : ∃ r, s.extract k m = r := ⟨_, rfl⟩
 have hrl : r.data.toList = (s.data.toList.drop k).take 6 := by
  rw [← hr, ← Lib.toList_data, ext_sub];unfold sub
  by_cases h : k + 6 ≤ s.size
  · rw [show m - k = 6 from by omega]
  · have hl : s.data.toList.length = s.size := by simp
    rw [List.take_of_length_le (by rw [List.length_drop, hl]; omega), List.take_of_length_le (by rw [List.length_drop, hl]; omega)]
 have hrs : r.size = m - k := by rw [← hr]; simp; omega
 have hu : unitP low (s.data.toList.drop k) = if beginsU r.data.toList = true then unitD low 4 0 (r.data.toList.drop 2) else .bad := by
  rw [← unitP_take, unitP_cut, ← hrl]
 have hr6 : r.size ≤ 6 := by omega
 have hmm : (k + 6 ≤ s.size ∧ m = k + 6) ∨ (s.size < k + 6 ∧ m = s.size) := by omega
 have hkm : k ≤ m := by omega
 have hms : m ≤ s.size := by omega
 clear hm hrs;obtain ⟨n2, hn2⟩ : ∃ n, n = min 2 r.size := ⟨_, rfl⟩
 obtain ⟨p2, hp2⟩ : ∃ p, r.extract 0 n2 = p := ⟨_, rfl⟩
 have hpre := hasP_take r n2 hn2;rw [hp2] at hpre;have HP := hI (fun W => has_any ⟨#[92, 117]⟩ p2 (by decide) (by rw [← hp2]; simp; omega) W);rw [hpre] at HP;have hnn : (2 ≤ r.size ∧ n2 = 2) ∨ (r.size < 2 ∧ n2 = r.size) := by omega
 have hn22 : n2 ≤ r.size := by omega
 have hRL : r.data.toList.length = r.size := by simp
 have HRL := hI hRL;clear hn2 hpre hrl hRL;have HU := hI hu;clear hu;obtain ⟨u, hu⟩ : ∃ u, u = unitP low (s.data.toList.drop k) := ⟨_, rfl⟩
 rw [← hu] at HU ⊢;clear hu;obtain ⟨bu, hbu⟩ : ∃ bu, beginsU r.data.toList = bu := ⟨_, rfl⟩
 rw [hbu] at HU HP;clear hbu
 go_enter Tryz.func126, Tryz.ntmps126
 go_upto_region 1 with fail
 go_cut [8] (fun t8 wx => wx = w ∧ t8 = .string r)
 case first => as_aux_lemma =>
  rcases hmm with ⟨h1, h2⟩ | ⟨h1, h2⟩
  all_goals
   have H2 := hI h2;clear h2;go_wp2_with fail
   go_meet
   refine ⟨rfl, ?_⟩;rw [← hr, H2.out]
 case rest =>
  obtain ⟨hweq, rfl⟩ := hcut;have hweq := hweq.symm;subst hweq;clear hr hmm hkm hms;go_upto_region 2 with fail
  go_cut [28] (fun t28 wx => wx = w ∧ t28 = .bool (!bu))
  case first => as_aux_lemma =>
   rcases hnn with ⟨h1, h2⟩ | ⟨h1, h2⟩
   · subst h2
     go_wp2_with (go_at_call 74; refine (HP.out _).mono ?_; rintro e w' ⟨rfl, rfl⟩)
     go_meet
     exact ⟨rfl, rfl⟩
   · subst h2;have hpr : p2 = r := by rw [← hp2]; exact ByteArray.extract_zero_size
     subst hpr
     go_wp2_with (go_at_call 74; refine (HP.out _).mono ?_; rintro e w' ⟨rfl, rfl⟩)
     go_meet
     exact ⟨rfl, rfl⟩
  case rest =>
   obtain ⟨hweq, rfl⟩ := hcut;have hweq := hweq.symm;subst hweq;clear hp2 hnn hn22 HP
   cases bu with
   | false =>
    have hub : u = .bad := by have := HU.out; rw [if_neg Bool.false_ne_true] at this; exact this
    subst hub;clear HU;go_wp2_with fail
    go_ret2
    exact ⟨rfl, rfl⟩
   | true =>
    have hut : u = unitD low 4 0 (r.data.toList.drop 2) := by have := HU.out; rw [if_pos rfl] at this; exact this
    have HA : Hid (UnitAt low r.data.toList u 2 0 65536) := hI ⟨0, by omega, by omega, by simp, by simp, by simp, hut⟩;clear HU hut
    go_wp2
    go_loop [9, 10, 11] (fun ta tc tj => ∃ (j : Nat) (a c : Int), 2 ≤ j ∧ (j ≤ r.size ∨ j = 2) ∧ tj = ι j ∧ ta = ι a ∧ tc = ι c ∧ Hid (UnitAt low r.data.toList u j a c)) (fun _ _ tj => 7 - (intOf tj).toNat)
    case atStart => exact ⟨2, 0, 65536, Nat.le_refl _, .inr rfl, rfl, rfl, rfl, HA⟩
    case round =>
     clear HA;obtain ⟨j, a, c, hj2, hj6, rfl, rfl, rfl, HA⟩ := hrel;obtain ⟨ra, rb, rc, rd⟩ := HA.out.range
     by_cases hlt : j < r.size
     · obtain ⟨b, hb⟩ : ∃ b, r[j] = b := ⟨_, rfl⟩
       have HB := hI (at_list hlt hb);have hj : j < 6 := by omega
       rcases hexP_none_or b with hx | ⟨d, hx, hd⟩
       · obtain ⟨hub, c', hc, hc1, hc2⟩ := HA.out.bad hj HB.out hx;subst hub;have HX := hI (hexno b hx);clear hx
         go_wp2_with (go_at_call 132; refine (HX.out _).mono ?_; rintro e w' ⟨rfl, rfl⟩)
         go_ret2
         exact ⟨rfl, rfl⟩
       · obtain ⟨c', p, A, B, hc, hp, hA, hB, hA1, hB1, hc1, hc2, hp1, hp2, hd2, hyes, hno⟩ := HA.out.next hj HB.out hx
         have HX := hI (hexyes b d hx);have HYES := hI hyes;have HNO := hI hno;have HPO := hI (fun W => possz (a + p) (a + p + c' - 1) A B low hA hB hA1 hB1 W);clear hx hyes hno hA hB hA1 hB1
         cases hpo : possP A B low with
         | true =>
          rw [hpo] at HPO;have HN := hI (HYES.out hpo);clear hpo
          go_wp2_with (first | (go_at_call 132; refine (HX.out _).mono ?_; rintro e w' ⟨rfl, rfl⟩) | (go_at_call 133; refine (HPO.out _).mono ?_; rintro e w' ⟨rfl, rfl⟩))
          go_round
          case rel => exact ⟨j + 1, a + p, c', by omega, by omega, by go_num, rfl, rfl, HN⟩
          case measure => simp [intOf]; omega
         | false =>
          rw [hpo] at HPO;have hub := HNO.out hpo;subst hub;clear hpo
          go_wp2_with (first | (go_at_call 132; refine (HX.out _).mono ?_; rintro e w' ⟨rfl, rfl⟩) | (go_at_call 133; refine (HPO.out _).mono ?_; rintro e w' ⟨rfl, rfl⟩))
          go_ret2
          exact ⟨rfl, rfl⟩
     · obtain ⟨h1, h2⟩ := HA.out.done (by rw [HRL.out]; omega)
       by_cases h6 : r.size < 6
       · have hut := h1 (by omega);subst hut;clear h1 h2
         go_wp2
         go_ret2
         exact ⟨rfl, rfl⟩
       · obtain ⟨n, hn, hu⟩ := h2 (by omega);subst hn;subst hu;clear h1 h2
         go_wp2
         go_ret2
         exact ⟨rfl, rfl⟩
end Go.Proofs.YtoleoimmpggldaaGreatDoor
namespace Go.Proofs.YtoleoimmpggldaaGreatDoor
open Go.RowKit
def escV (L k : Nat) : Esc → Value
 | .ok r n => .tuple #[ι r, ι ((k + n : Nat) : Int), ι 0]
 | .trunc => .tuple #[ι 0, ι L, ι 5]
 | .bad => .tuple #[ι 0, ι k, ι 4]
def pairQ (n : Nat) : U → Esc
 | .ok m => .ok (65536 + (n - 55296) * 1024 + (m - 56320)) 12
 | .trunc => .trunc
 | .bad => .bad
def uniQ (l : List UInt8) : U → Esc
 | .ok n => if 55296 ≤ n ∧ n ≤ 56319 then pairP n l else .ok n 6
 | .trunc => .trunc
 | .bad => .bad
theorem uniP_q (l : List UInt8) : uniP l = uniQ (l.drop 4) (firstR l) := by
 unfold uniP
 cases firstR l <;> rfl
theorem pairP_unit (n : Nat) (l : List UInt8) : pairP n l = pairQ n (unitP true l) := by
 match l with
 | [] => rfl
 | [b] =>
  rw [pairP, unitP]
  by_cases h : b.toNat = 92
  · rw [if_pos h, if_pos h]; rfl
  · rw [if_neg h, if_neg h]; rfl
 | b :: c :: t =>
  rw [pairP, unitP]
  by_cases h : b.toNat = 92 ∧ c.toNat = 117
  · rw [if_pos h, if_pos h, unit_low]; cases quadR 56320 57343 4 0 t <;> rfl
  · rw [if_neg h, if_neg h]; rfl
theorem unit_u {low : Bool} {l : List UInt8} {k : Nat} {a b : UInt8} (h1 : l[k]? = some a) (h2 : l[k + 1]? = some b) (ha : a.toNat = 92) (hb : b.toNat = 117) : unitP low (l.drop k) = unitD low 4 0 (l.drop (k + 2)) := by
 obtain ⟨g1, rfl⟩ := gE.1 h1;obtain ⟨g2, rfl⟩ := gE.1 h2;rw [List.drop_eq_getElem_cons g1, List.drop_eq_getElem_cons g2, unitP, if_pos ⟨ha, hb⟩]
theorem unit_as {s : ByteArray} {k : Nat} {low : Bool} {u : U} (hs : s.size ≤ 1048576) (hk : k ≤ s.size) (h : unitP low (s.data.toList.drop k) = u) (w : World) : Calls Tryz.prog 126 #[.string s, ι k, .bool low] w fun e w' => e = .returned (unitV u) ∧ w = w' := by
 rw [← h]; exact unit_any s k low hs hk w
theorem unitP_range {l : List UInt8} {m : Nat} (h : unitP true l = .ok m) : 56320 ≤ m ∧ m ≤ 57343 := by
 match l, h with
 | [], h => cases h
 | [b], h => rw [unitP] at h; split at h <;> cases h
 | b :: c :: t, h =>
  rw [unitP] at h
  split at h
  · rw [unit_low] at h; exact quadR_range h (by omega)
  · cases h
theorem numesc_any (s : ByteArray) (k : Nat) (hs : s.size ≤ 1048576) (hk : k + 2 ≤ s.size) (a b : UInt8) (h1 : s.data.toList[k]? = some a) (h2 : s.data.toList[k + 1]? = some b) (ha : a.toNat = 92) (hb : b.toNat = 117) (w : World) :
 Calls Tryz.prog 120 #[.string s, ι k] w fun e w' => e = .returned (escV s.size k (uniP (s.data.toList.drop (k + 2)))) ∧ w = w' := by
 have hl : s.data.toList.length = s.size := by simp
 have hfirst : unitP false (s.data.toList.drop k) = firstR (s.data.toList.drop (k + 2)) := by rw [unit_u h1 h2 ha hb, unit_first]
 obtain ⟨u, hu⟩ : ∃ u, firstR (s.data.toList.drop (k + 2)) = u := ⟨_, rfl⟩
 have HF := hI (fun W => unit_as hs (by omega : k ≤ s.size) (hfirst.trans hu) W);have HX : Hid (uniP (s.data.toList.drop (k + 2)) = uniQ (s.data.toList.drop (k + 6)) u) := hI (by
  rw [uniP_q, hu, List.drop_drop])
 clear h1 h2 ha hb hfirst
 cases u with
 | bad =>
  rw [HX.out];clear HX hu;simp only [unitV] at HF
  go_enter Tryz.func120, Tryz.ntmps120
  go_wp2_with (go_at_call 126; refine (HF.out _).mono ?_; rintro e w' ⟨rfl, rfl⟩)
  go_ret3
  exact ⟨rfl, rfl⟩
 | trunc =>
  rw [HX.out];clear HX hu;simp only [unitV] at HF
  go_enter Tryz.func120, Tryz.ntmps120
  go_wp2_with (go_at_call 126; refine (HF.out _).mono ?_; rintro e w' ⟨rfl, rfl⟩)
  go_ret3
  exact ⟨rfl, rfl⟩
 | ok n =>
  obtain ⟨-, hlen, hn6, hnlow⟩ := firstR_ok hu;rw [List.length_drop, hl] at hlen;have hk6 : k + 6 ≤ s.size := by omega
  clear hlen hl;obtain ⟨z, hz⟩ : ∃ z : Int, z = (n : Int) := ⟨_, rfl⟩
  have HZF : Hid (∀ W : World, Calls Tryz.prog 126 #[.string s, ι k, .bool false] W fun e w' => e = .returned (.tuple #[ι z, ι 0]) ∧ W = w') := hI (by rw [hz]; exact HF.out);have HZ := hI hz;have HN := hI hn6;clear hn6 hu HF
  by_cases hh : 55296 ≤ n ∧ n ≤ 56319
  · have hx : uniP (s.data.toList.drop (k + 2)) = pairP n (s.data.toList.drop (k + 6)) := by rw [HX.out]; unfold uniQ; exact if_pos hh
    rw [hx, pairP_unit];obtain ⟨v, hv⟩ : ∃ v, unitP true (s.data.toList.drop (k + 6)) = v := ⟨_, rfl⟩
    have hk6e : ((k + 6 : Nat) : Int) = (k : Int) + 6 := by omega
    have HS := hI (fun W => unit_as hs hk6 hv W);rw [hk6e] at HS;clear hk6e;rw [hv];have HV := hI hv;clear hv hx HX;have g1 : (55296 : Int) ≤ z := by omega
    have g2 : z < 56320 := by omega
    have HH := hI hh;clear hh hnlow hz
    cases v with
    | bad =>
     simp only [unitV] at HS
     go_enter Tryz.func120, Tryz.ntmps120
     go_wp2_with (first | (go_at_call 126; with_reducible refine (HZF.out _).mono ?_; rintro e w' ⟨rfl, rfl⟩) | (go_at_call 126; with_reducible refine (HS.out _).mono ?_; rintro e w' ⟨rfl, rfl⟩))
     go_ret3
     exact ⟨rfl, rfl⟩
    | trunc =>
     simp only [unitV] at HS
     go_enter Tryz.func120, Tryz.ntmps120
     go_wp2_with (first | (go_at_call 126; with_reducible refine (HZF.out _).mono ?_; rintro e w' ⟨rfl, rfl⟩) | (go_at_call 126; with_reducible refine (HS.out _).mono ?_; rintro e w' ⟨rfl, rfl⟩))
     go_ret3
     exact ⟨rfl, rfl⟩
    | ok m =>
     have hm := unitP_range HV.out;obtain ⟨y, hy⟩ : ∃ y : Int, y = (m : Int) := ⟨_, rfl⟩
     have HYS : Hid (∀ W : World, Calls Tryz.prog 126 #[.string s, ι ((k : Int) + 6), .bool true] W fun e w' => e = .returned (.tuple #[ι y, ι 0]) ∧ W = w') := hI (by rw [hy]; exact HS.out);have q1 : 56320 ≤ y := by omega
     have q2 : y ≤ 57343 := by omega
     have HY := hI hy;clear hm hy HS
     go_enter Tryz.func120, Tryz.ntmps120
     go_wp2_with (first | (go_at_call 126; with_reducible refine (HZF.out _).mono ?_; rintro e w' ⟨rfl, rfl⟩) | (go_at_call 126; with_reducible refine (HYS.out _).mono ?_; rintro e w' ⟨rfl, rfl⟩))
     go_ret3
     have e1 : ((65536 + (n - 55296) * 1024 + (m - 56320) : Nat) : Int) = 65536 + (z - 55296) * 1024 + (y - 56320) := by have := HZ.out; have := HY.out; have := HH.out; omega
     have e2 : ((k + 12 : Nat) : Int) = (k : Int) + 6 + 6 := by omega
     have hfin : escV s.size k (pairQ n (.ok m)) = .tuple #[ι (65536 + (z - 55296) * 1024 + (y - 56320)), ι ((k : Int) + 6 + 6), ι 0] := by
      rw [← e1, ← e2]; rfl
     exact ⟨by rw [hfin]; rfl, rfl⟩
  · have hx : uniP (s.data.toList.drop (k + 2)) = .ok n 6 := by rw [HX.out]; unfold uniQ; exact if_neg hh
    rw [hx];clear hx HX
    by_cases g1 : (55296 : Int) ≤ z
    · have g2 : ¬ z < 56320 := by omega
      have g3 : z ≤ 65535 := by have := HN.out; omega
      clear hh hnlow hz
      go_enter Tryz.func120, Tryz.ntmps120
      go_wp2_with (go_at_call 126; with_reducible refine (HZF.out _).mono ?_; rintro e w' ⟨rfl, rfl⟩)
      go_ret3
      exact ⟨by rw [HZ.out]; rfl, rfl⟩
    · have g4 : 0 ≤ z := by omega
      clear hh hnlow hz
      go_enter Tryz.func120, Tryz.ntmps120
      go_wp2_with (go_at_call 126; with_reducible refine (HZF.out _).mono ?_; rintro e w' ⟨rfl, rfl⟩)
      go_ret3
      exact ⟨by rw [HZ.out]; rfl, rfl⟩
theorem esc_any (s : ByteArray) (k : Nat) (hs : s.size ≤ 1048576) (hk : k + 1 ≤ s.size) (a : UInt8) (h1 : s.data.toList[k]? = some a) (ha : a.toNat = 92) (w : World) :
 Calls Tryz.prog 109 #[.string s, ι k] w fun e w' => e = .returned (escV s.size k (escP (s.data.toList.drop (k + 1)))) ∧ w = w' := by
 have hl : s.data.toList.length = s.size := by simp
 by_cases hlt : k + 1 < s.size
 · obtain ⟨b, hb⟩ : ∃ b, s[k + 1] = b := ⟨_, rfl⟩
   have h2 := at_list hlt hb;have hd : s.data.toList.drop (k + 1) = b :: s.data.toList.drop (k + 2) := by
    obtain ⟨g, hg⟩ := gE.1 h2;rw [List.drop_eq_getElem_cons g, hg]
   have HN := hI (fun (hb : b.toNat = 117) W => numesc_any s k hs (by omega) a b h1 h2 ha hb W);rw [hd];clear h1 h2 ha hd hl;have hne : ((k : Int) + 1 == (s.size : Int)) = false := bF.2 (fun h => by omega);have hb255 := UInt8.toNat_lt b;have HX : Hid (escP (b :: s.data.toList.drop (k + 2)) = if b.toNat = 34 ∨ b.toNat = 92 ∨ b.toNat = 47 then .ok b.toNat 2
    else if b.toNat = 98 then .ok 8 2 else if b.toNat = 102 then .ok 12 2 else if b.toNat = 110 then .ok 10 2 else if b.toNat = 114 then .ok 13 2 else if b.toNat = 116 then .ok 9 2
    else if b.toNat = 117 then uniP (s.data.toList.drop (k + 2)) else .bad) := hI (by rw [escP])
   obtain ⟨x, hx⟩ : ∃ x, uniP (s.data.toList.drop (k + 2)) = x := ⟨_, rfl⟩
   rw [HX.out];rw [hx] at HN ⊢;clear HX hx;have hcase : (b.toNat = 34 ∨ b.toNat = 92 ∨ b.toNat = 47 ∨ b.toNat = 98 ∨ b.toNat = 102 ∨ b.toNat = 110 ∨ b.toNat = 114 ∨ b.toNat = 116) ∨ b.toNat = 117 ∨ (b.toNat ≠ 34 ∧ b.toNat ≠ 92 ∧ b.toNat ≠ 47 ∧ b.toNat ≠ 98 ∧ b.toNat ≠ 102 ∧ b.toNat ≠ 110 ∧ b.toNat ≠ 114 ∧ b.toNat ≠ 116 ∧ b.toNat ≠ 117) := by omega
   rcases hcase with hc | h | ⟨n1, n2, n3, n4, n5, n6, n7, n8, n9⟩
   · rcases hc with h | h | h | h | h | h | h | h
     all_goals
      rw [h];simp only [or_true, true_or, if_true, if_false, Nat.reduceEqDiff, or_self];clear HN
      go_enter Tryz.func109, Tryz.ntmps109
      go_wp2_with fail
      go_ret3
      exact ⟨rfl, rfl⟩
   · rw [if_neg (by omega), if_neg (by omega), if_neg (by omega), if_neg (by omega), if_neg (by omega), if_neg (by omega), if_pos h];have HN2 := hI (HN.out h);clear HN
     cases x with
     | ok r n =>
      simp only [escV] at HN2 ⊢
      go_enter Tryz.func109, Tryz.ntmps109
      go_wp2_with (go_at_call 120; refine (HN2.out _).mono ?_; rintro e w' ⟨rfl, rfl⟩)
      go_ret3
      exact ⟨rfl, rfl⟩
     | trunc =>
      simp only [escV] at HN2 ⊢
      go_enter Tryz.func109, Tryz.ntmps109
      go_wp2_with (go_at_call 120; refine (HN2.out _).mono ?_; rintro e w' ⟨rfl, rfl⟩)
      go_ret3
      exact ⟨rfl, rfl⟩
     | bad =>
      simp only [escV] at HN2 ⊢
      go_enter Tryz.func109, Tryz.ntmps109
      go_wp2_with (go_at_call 120; refine (HN2.out _).mono ?_; rintro e w' ⟨rfl, rfl⟩)
      go_ret3
      exact ⟨rfl, rfl⟩
   · rw [if_neg (by omega), if_neg (by omega), if_neg (by omega), if_neg (by omega), if_neg (by omega), if_neg (by omega), if_neg (by omega)];clear HN;have m1 : ((b.toNat : Int) == 34) = false := bF.2 (fun h => n1 (by omega));have m2 : ((b.toNat : Int) == 92) = false := bF.2 (fun h => n2 (by omega));have m3 : ((b.toNat : Int) == 47) = false := bF.2 (fun h => n3 (by omega));have m4 : ((b.toNat : Int) == 98) = false := bF.2 (fun h => n4 (by omega));have m5 : ((b.toNat : Int) == 102) = false := bF.2 (fun h => n5 (by omega));have m6 : ((b.toNat : Int) == 110) = false := bF.2 (fun h => n6 (by omega));have m7 : ((b.toNat : Int) == 114) = false := bF.2 (fun h => n7 (by omega));have m8 : ((b.toNat : Int) == 116) = false := bF.2 (fun h => n8 (by omega));have m9 : ((b.toNat : Int) == 117) = false := bF.2 (fun h => n9 (by omega));clear n1 n2 n3 n4 n5 n6 n7 n8 n9
     go_enter Tryz.func109, Tryz.ntmps109
     go_wp2_with fail
     go_ret3
     exact ⟨rfl, rfl⟩
 · have hd : s.data.toList.drop (k + 1) = [] := List.drop_eq_nil_of_le (by rw [hl]; omega);rw [hd];have hne : ((k : Int) + 1 == (s.size : Int)) = true := by rw [beq_iff_eq]; omega
   clear h1 ha hd hl
   go_enter Tryz.func109, Tryz.ntmps109
   go_wp2_with fail
   go_ret3
   exact ⟨rfl, rfl⟩
end Go.Proofs.YtoleoimmpggldaaGreatDoor
namespace Go.Proofs.YtoleoimmpggldaaGreatDoor
open Go.RowKit
theorem own_belowJ {w w' : World} {base : Nat} {e : TypeId} {size n : Nat} {v : Value} {xs : List Value} (h : w.ownsRow base e size v n xs) (hb : Below w.heap.size w w') : w'.ownsRow base e size v n xs :=
 h.kept (below_grown hb none) (by cases v.ownBlock <;> simp)
def strEj (k t : Nat) (out : List UInt8) : Lx := if out.length ≤ 4096 then okX 4 k t 0 0 ⟨out.toArray⟩ else noX k 2
theorem finish_str (v : Value) (out : List UInt8) (k t base : Nat) (w : World) (hown : w.ownsRow base 5 1 v out.length (bv out)) (hlen : out.length ≤ 16777216) :
 Calls Tryz.prog 108 #[v, ι k, ι t] w (LexPost (strEj k t out) w) := by
 obtain ⟨W1, hW1⟩ : ∃ X, X = w.alloc (.cells #[ι 0, ι 0, ι 0, .int .u8 0, ι 0, eS] 67) := ⟨_, rfl⟩
 have hc := conv_own (w := W1) (by rw [hW1]; exact hown.alloc _);have HBX : Hid (Box W1 w.heap.size 67 #[ι 0, ι 0, ι 0, .int .u8 0, ι 0, eS]) := hI (by rw [hW1]; exact Box.laid w _ _);have HBL : Hid (Below w.heap.size w W1) := hI (by rw [hW1]; exact (Below.refl _ _).alloc (Nat.le_refl _) _);obtain ⟨A, c, rfl, hl, hr⟩ := own_slice hown;have HW1 := hI hW1;clear hW1 hl hr hown
 by_cases h : out.length ≤ 4096
 · have hx : strEj k t out = okX 4 k t 0 0 ⟨out.toArray⟩ := if_pos h;rw [hx];clear hx;have hi : ¬ (4096 : Int) < (out.length : Int) := by omega
   go_enter Tryz.func108, Tryz.ntmps108
   go_upto_region 1 with fail;rw [← HW1.out]
   go_wp2_with (go_at_call 89; refine (found_any _ _ _ _ _ _ _).mono ?_; rintro e w' ⟨rfl, hb'⟩; have bx := HBX.out.below hb' HBX.out.lt; obtain ⟨t0, t1, t2, t3, t4, t5⟩ := box6 bx; obtain ⟨f0, f1, f2, f3, f4, f5⟩ := free6 bx)
   exact lex_ret Tryz.results108 rfl rfl rfl rfl (put6 bx _ _ _ _ _ _) (below_six (Nat.le_refl _) (HBL.out.trans (hb'.mono HBL.out.size)) _ _ _ _ _ _)
 · have hx : strEj k t out = noX k 2 := if_neg h;rw [hx];clear hx;have hi : (4096 : Int) < (out.length : Int) := by omega
   go_enter Tryz.func108, Tryz.ntmps108
   go_upto_region 1 with fail;rw [← HW1.out]
   go_wp2_with (go_at_call 88; refine (fail_any _ _ _).mono ?_; rintro e w' ⟨rfl, hb'⟩; have bx := HBX.out.below hb' HBX.out.lt; obtain ⟨t0, t1, t2, t3, t4, t5⟩ := box6 bx; obtain ⟨f0, f1, f2, f3, f4, f5⟩ := free6 bx)
   exact lex_ret Tryz.results108 rfl rfl rfl rfl (put6 bx _ _ _ _ _ _) (below_six (Nat.le_refl _) (HBL.out.trans (hb'.mono HBL.out.size)) _ _ _ _ _ _)
theorem own_nil {w : World} {base n : Nat} {e : TypeId} {A : Option Addr} {m c : Nat} {xs : List Value} (h : w.ownsRow base e 1 (.slice A m c) n xs) : A = none → c = 0 := fun h0 => by
 subst h0;rcases h.2 with ⟨h1, h2⟩ | ⟨g, cap, cur, h1, _⟩
 · first | (injection h1 with _ _ h3; exact h3) | (injection h2 with _ _ h3; exact h3) | (cases h1; rfl) | (cases h2; rfl)
 · cases h1
def PointPost (base : Nat) (out : List UInt8) (w : World) (e : Ending) (w' : World) : Prop := ∃ v, e = .returned v ∧ w'.ownsRow base 5 1 v out.length (bv out) ∧ Below base w w'
theorem point_any (v : Value) (out : List UInt8) (r base : Nat) (hc : cp (r : Int) = true) (w : World) (hown : w.ownsRow base 5 1 v out.length (bv out)) (hlen : out.length ≤ 16777216) (hB : base ≤ w.heap.size) :
 Calls Tryz.prog 110 #[v, ι r] w (PointPost base (out ++ enc r) w) := by
 have hA : Calls Tryz.prog 121 #[nL, ι r] w fun e w' => ∃ v, e = .returned (.tuple #[v, .bool true]) ∧ w'.ownsRow w.heap.size 5 1 v (enc r).length (bv (enc r)) ∧ Below w.heap.size w w' := by
  refine (append_any none 0 [] r w.heap.size w (Rd.nil _ _ _) (Nat.le_refl _) (fun _ => rfl) (by simp)).mono fun e w' h => ?_
  obtain ⟨hb, h⟩ := h;rw [hc] at h;obtain ⟨v, h1, h2⟩ := h;exact ⟨v, h1, h2, hb⟩
 have HA := hI hA;obtain ⟨A0, c0, rfl, hl0, -⟩ := own_slice hown;have HO := hI hown;clear hl0;obtain ⟨i0, hi, hz0, hz1, hz2⟩ := info_parts inf_u8;have hel := enc_len r;clear hA hown
 go_enter Tryz.func110, Tryz.ntmps110
 go_wp2_with (first
  | (go_at_call 121; refine HA.out.mono ?_; rintro e w1 ⟨v1, rfl, hown1, hb1⟩; obtain ⟨A1, c1, rfl, hl1, hr1⟩ := own_slice hown1; have HO1 := hI (own_belowJ HO.out hb1); have HR := hI hr1; have HN := hI (own_nil hown1); have HLB := hI (bv_length (enc r)); have hB1 : base ≤ w1.heap.size := Nat.le_trans hB hb1.size; have HBL := hI (hb1.mono hB); clear hown1 hr1 hl1 hb1)
  | (at_builtin; refine wpList_append_rd _ rfl _ _ 93 rfl base 5 i0 (.int .u8 0) 1 Tryz.underlying93 hi hz0 hz1 hz2 rfl (.slice A0 out.length c0) out.length (bv out) rfl HO1.out w1.heap.size A1 c1 (bv (enc r)) (by rw [HLB.out]; rfl) HR.out HN.out (bv_one _) (by rw [HLB.out]; unfold maxLen; omega) (by rw [HLB.out]; omega) hB1 ?_; intro v2 w2 hown2 hgrow2; rw [HLB.out] at hown2))
 go_ret
 exact ⟨_, rfl, by rw [List.length_append, bv_append]; exact hown2, HBL.out.grown hgrow2 hB1 (fun j hj => (HO1.out.lt j hj).1)⟩
end Go.Proofs.YtoleoimmpggldaaGreatDoor
namespace Go.Proofs.YtoleoimmpggldaaGreatDoor
open Go.RowKit
theorem point_open {f : FuncId} {args : Array Value} {w : World} {base : Nat} {out : List UInt8} (h : Calls Tryz.prog f args w (PointPost base out w)) :
 Calls Tryz.prog f args w fun e w' => ∃ A c, e = .returned (.slice A out.length c) ∧ w'.ownsRow base 5 1 (.slice A out.length c) out.length (bv out) ∧ Below base w w' := by
 refine h.mono fun e w' h => ?_
 obtain ⟨v, rfl, ho, hb⟩ := h;obtain ⟨A, c, rfl, -, -⟩ := own_slice ho;exact ⟨A, c, rfl, ho, hb⟩
theorem lex_open {f : FuncId} {args : Array Value} {w : World} {x : Lx} (h : Calls Tryz.prog f args w (LexPost x w)) :
 Calls Tryz.prog f args w fun e w' => e = .returned (.tuple #[.agg #[ι x.k, ι x.f, ι x.t, .int .u8 x.b, ι x.i, .string x.s], ι x.p, ι x.e]) ∧ Below w.heap.size w w' := h
def escEl : Esc → El
 | .ok r n => .add r n
 | .trunc => .trunc
 | .bad => .stop 4
def decEl : Option (Nat × Nat) → El
 | some (r, n) => .add r n
 | none => .stop 6
theorem elP_34 {l : List UInt8} {i : Nat} {b : UInt8} (h : l[i]? = some b) (h1 : b.toNat = 34) : elP (l.drop i) = .quote := by
 obtain ⟨g, rfl⟩ := gE.1 h;rw [List.drop_eq_getElem_cons g, elP, if_pos h1]
theorem elP_92 {l : List UInt8} {i : Nat} {b : UInt8} (h : l[i]? = some b) (h1 : b.toNat = 92) : elP (l.drop i) = escEl (escP (l.drop (i + 1))) := by
 obtain ⟨g, rfl⟩ := gE.1 h;rw [List.drop_eq_getElem_cons g, elP, if_neg (by omega), if_pos h1]
 cases escP (l.drop (i + 1)) <;> rfl
theorem elP_32 {l : List UInt8} {i : Nat} {b : UInt8} (h : l[i]? = some b) (h0 : b.toNat ≠ 34) (h1 : b.toNat ≠ 92) (h2 : b.toNat < 32) : elP (l.drop i) = .stop 4 := by
 obtain ⟨g, rfl⟩ := gE.1 h;rw [List.drop_eq_getElem_cons g, elP, if_neg h0, if_neg h1, if_pos h2]
theorem elP_dec {l : List UInt8} {i : Nat} {b : UInt8} (h : l[i]? = some b) (h0 : b.toNat ≠ 34) (h1 : b.toNat ≠ 92) (h2 : ¬ b.toNat < 32) : elP (l.drop i) = decEl (dec (l.drop i)) := by
 obtain ⟨g, rfl⟩ := gE.1 h;rw [List.drop_eq_getElem_cons g, elP, if_neg h0, if_neg h1, if_neg h2];rcases hd : dec (l[i] :: l.drop (i + 1)) with _ | ⟨r, n⟩ <;> rfl
theorem esc_as {s : ByteArray} {k : Nat} {x : Esc} {a : UInt8} (hs : s.size ≤ 1048576) (hk : k + 1 ≤ s.size) (h1 : s.data.toList[k]? = some a) (ha : a.toNat = 92) (hx : escP (s.data.toList.drop (k + 1)) = x) (w : World) :
 Calls Tryz.prog 109 #[.string s, ι k] w fun e w' => e = .returned (escV s.size k x) ∧ w = w' := by
 rw [← hx]; exact esc_any s k hs hk a h1 ha w
theorem ext_cells (s : ByteArray) (i n : Nat) : Lib.strCells (s.extract i (i + n)) = bv ((s.data.toList.drop i).take n) := by
 unfold Lib.strCells bv;rw [← Lib.toList_data, ext_sub];unfold sub;rw [show i + n - i = n from by omega]
theorem string_any (s : ByteArray) (k : Nat) (hs : s.size ≤ 1048576) (hk : k < s.size) (w : World) : Calls Tryz.prog 95 #[.string s, ι k] w (LexPost (strP s.data.toList k) w) := by
 have hl : s.data.toList.length = s.size := by simp
 have HL := hI hl;clear hl;obtain ⟨i0, hi, hz0, hz1, hz2⟩ := info_parts inf_u8;obtain ⟨W1, hW1⟩ : ∃ X, X = w.alloc (.cells #[ι 0, ι 0, ι 0, .int .u8 0, ι 0, eS] 67) := ⟨_, rfl⟩
 have HBX : Hid (Box W1 w.heap.size 67 #[ι 0, ι 0, ι 0, .int .u8 0, ι 0, eS]) := hI (by rw [hW1]; exact Box.laid w _ _);have HBL : Hid (Below w.heap.size w W1) := hI (by rw [hW1]; exact (Below.refl _ _).alloc (Nat.le_refl _) _);have HW1 := hI hW1;clear hW1;have HST := hI (StrAt.start (l := s.data.toList) (k := k) (by rw [HL.out]; exact hk))
 go_enter Tryz.func95, Tryz.ntmps95
 go_wp2
 rw [← HW1.out]
 go_step3
 go_wp2
 go_step3
 go_wp2
 go_loopw [7, 8] (fun tv ti wr => ∃ (A : Option Addr) (c i : Nat) (out : List UInt8), i ≤ s.size ∧ tv = .slice A out.length c ∧ ti = ι i ∧ wr.ownsRow W1.heap.size 5 1 (.slice A out.length c) out.length (bv out) ∧ Below W1.heap.size W1 wr ∧ Hid (StrAt s.data.toList k i out)) (fun _ ti _ => s.size - (intOf ti).toNat)
 case atStart => exact ⟨none, 0, k + 1, [], by omega, rfl, by go_num, World.ownsRow_nil _ _ _ _, Below.refl _ _, HST⟩
 case round =>
  clear HST;obtain ⟨A, c, i, out, hile, rfl, rfl, hown, hbel, HST⟩ := hrel;have HO := hI hown;have HBE := hI hbel;have HSTEP := hI HST.out.step;have hout : out.length ≤ 4194304 := by have h := HST.out.2.2.1; have h2 := HST.out.1; omega
  have HBR := hI (HBX.out.below hbel HBX.out.lt);have HBW := hI (chain HBL.out hbel);clear hown hbel
  by_cases hlt : i < s.size
  · obtain ⟨b, hb⟩ : ∃ b, s[i] = b := ⟨_, rfl⟩
    have HB := hI (at_list hlt hb);have hb255 := UInt8.toNat_lt b
    by_cases b34 : b.toNat = 34
    · have HW : Hid (strP s.data.toList k = strEj k (i + 1) out) := hI (by
       have h := HSTEP.out;rw [elP_34 HB.out b34] at h;exact h)
      have q1 : ((b.toNat : Int) == 34) = true := by rw [beq_iff_eq]; omega
      have HF := hI (lex_open (finish_str (.slice A out.length c) out k (i + 1) W1.heap.size wr HO.out (by omega)));have he1 : ((i + 1 : Nat) : Int) = (i : Int) + 1 := by omega
      rw [he1] at HF;clear he1 b34
      go_wp2_with (go_at_call 108; refine HF.out.mono ?_; rintro e w' ⟨rfl, hb'⟩; have bx := HBR.out.below hb' HBR.out.lt; obtain ⟨t0, t1, t2, t3, t4, t5⟩ := box6 bx; obtain ⟨f0, f1, f2, f3, f4, f5⟩ := free6 bx)
      try rw [Exit.noGoto_ret]
      rw [HW.out];exact lex_ret Tryz.results95 rfl rfl rfl rfl (put6 bx _ _ _ _ _ _) (below_six (Nat.le_refl _) (HBW.out.trans (hb'.mono HBW.out.size)) _ _ _ _ _ _)
    · have q1 : ((b.toNat : Int) == 34) = false := bF.2 (fun h => b34 (by omega))
      by_cases b92 : b.toNat = 92
      · have q2 : ((b.toNat : Int) == 92) = true := by rw [beq_iff_eq]; omega
        obtain ⟨x, hx⟩ : ∃ x, escP (s.data.toList.drop (i + 1)) = x := ⟨_, rfl⟩
        have HE := hI (fun W => esc_as hs (by omega : i + 1 ≤ s.size) HB.out b92 hx W);have hel : elP (s.data.toList.drop i) = escEl x := by rw [elP_92 HB.out b92, hx]
        have HX := hI hx;clear b34 b92 hx
        cases x with
        | ok r n =>
         have hel2 : elP (s.data.toList.drop i) = .add r n := hel;obtain ⟨g1, g2, g3, g4⟩ := elP_add hel2;rw [List.length_drop, HL.out] at g2;have HNEXT := hI (HST.out.next hel2);have HPT := hI (fun (W : World) (h : wr = W) => point_open (point_any (.slice A out.length c) out r W1.heap.size g3 W (by rw [← h]; exact HO.out) (by omega) (by rw [← h]; exact HBE.out.size)));simp only [escV] at HE;clear hel hel2 g3 HSTEP
         go_wp2_with (first
          | (go_at_call 109; refine (HE.out _).mono ?_; rintro e w' ⟨rfl, rfl⟩)
          | (go_at_call 110; refine (HPT.out _ rfl).mono ?_; rintro e w2 ⟨A2, c2, rfl, hown2, hb2⟩))
         go_roundw
         case rel => exact ⟨A2, c2, i + n, out ++ enc r, by omega, by rw [List.length_append], by go_num, by first | exact hown2 | (rw [List.length_append]; exact hown2), HBE.out.trans hb2, HNEXT⟩
         case measure => simp [intOf]; omega
        | trunc =>
         have HW : Hid (strP s.data.toList k = noX s.size 5) := hI (by
          have h := HSTEP.out;rw [hel] at h;rw [HL.out] at h;exact h)
         simp only [escV] at HE;clear hel HSTEP
         go_wp2_with (first
          | (go_at_call 109; refine (HE.out _).mono ?_; rintro e w' ⟨rfl, rfl⟩)
          | (go_at_call 88; refine (fail_any _ _ _).mono ?_; rintro e w' ⟨rfl, hb'⟩; have bx := HBR.out.below hb' HBR.out.lt; obtain ⟨t0, t1, t2, t3, t4, t5⟩ := box6 bx; obtain ⟨f0, f1, f2, f3, f4, f5⟩ := free6 bx))
         try rw [Exit.noGoto_ret]
         rw [HW.out];exact lex_ret Tryz.results95 rfl rfl rfl rfl (put6 bx _ _ _ _ _ _) (below_six (Nat.le_refl _) (HBW.out.trans (hb'.mono HBW.out.size)) _ _ _ _ _ _)
        | bad =>
         have HW : Hid (strP s.data.toList k = noX i 4) := hI (by
          have h := HSTEP.out;rw [hel] at h;exact h)
         simp only [escV] at HE;clear hel HSTEP
         go_wp2_with (first
          | (go_at_call 109; refine (HE.out _).mono ?_; rintro e w' ⟨rfl, rfl⟩)
          | (go_at_call 88; refine (fail_any _ _ _).mono ?_; rintro e w' ⟨rfl, hb'⟩; have bx := HBR.out.below hb' HBR.out.lt; obtain ⟨t0, t1, t2, t3, t4, t5⟩ := box6 bx; obtain ⟨f0, f1, f2, f3, f4, f5⟩ := free6 bx))
         try rw [Exit.noGoto_ret]
         rw [HW.out];exact lex_ret Tryz.results95 rfl rfl rfl rfl (put6 bx _ _ _ _ _ _) (below_six (Nat.le_refl _) (HBW.out.trans (hb'.mono HBW.out.size)) _ _ _ _ _ _)
      · have q2 : ((b.toNat : Int) == 92) = false := bF.2 (fun h => b92 (by omega))
        by_cases b32 : b.toNat < 32
        · have HW : Hid (strP s.data.toList k = noX i 4) := hI (by
           have h := HSTEP.out;rw [elP_32 HB.out b34 b92 b32] at h;exact h)
          have q3 : decide ((b.toNat : Int) < 32) = true := by rw [decide_eq_true_iff]; omega
          have q4 : (b.toNat : Int) < 32 := by omega
          clear b34 b92 b32 HSTEP
          go_wp2_with (go_at_call 88; refine (fail_any _ _ _).mono ?_; rintro e w' ⟨rfl, hb'⟩; have bx := HBR.out.below hb' HBR.out.lt; obtain ⟨t0, t1, t2, t3, t4, t5⟩ := box6 bx; obtain ⟨f0, f1, f2, f3, f4, f5⟩ := free6 bx)
          try rw [Exit.noGoto_ret]
          rw [HW.out];exact lex_ret Tryz.results95 rfl rfl rfl rfl (put6 bx _ _ _ _ _ _) (below_six (Nat.le_refl _) (HBW.out.trans (hb'.mono HBW.out.size)) _ _ _ _ _ _)
        · have q4 : (32 : Int) ≤ (b.toNat : Int) := by omega
          have HEL2 := hI (elP_dec HB.out b34 b92 b32);have hsm : s.size ≤ maxLen := by unfold maxLen; omega
          have HDEC := hI (fun W => dec_any s i hsm W);clear b34 b92 b32 hsm
          cases hd : dec (s.data.toList.drop i) with
          | none =>
           have HW : Hid (strP s.data.toList k = noX i 6) := hI (by
            have h := HSTEP.out;rw [HEL2.out, hd] at h;exact h)
           have HD := hI (fun W => dec_none_of (HDEC.out W) hd);clear hd HSTEP HEL2 HDEC
           go_wp2_with (first
            | (go_at_call 111; refine (HD.out _).mono ?_; rintro e w' ⟨rfl, rfl⟩)
            | (go_at_call 88; refine (fail_any _ _ _).mono ?_; rintro e w' ⟨rfl, hb'⟩; have bx := HBR.out.below hb' HBR.out.lt; obtain ⟨t0, t1, t2, t3, t4, t5⟩ := box6 bx; obtain ⟨f0, f1, f2, f3, f4, f5⟩ := free6 bx))
           try rw [Exit.noGoto_ret]
           rw [HW.out];exact lex_ret Tryz.results95 rfl rfl rfl rfl (put6 bx _ _ _ _ _ _) (below_six (Nat.le_refl _) (HBW.out.trans (hb'.mono HBW.out.size)) _ _ _ _ _ _)
          | some rn =>
           obtain ⟨r, n⟩ := rn;have hel2 : elP (s.data.toList.drop i) = .add r n := by rw [HEL2.out, hd]; rfl
           obtain ⟨g1, g2, g3, g4⟩ := elP_add hel2;rw [List.length_drop, HL.out] at g2;have HNEXT := hI (HST.out.next hel2);have HD := hI (fun W => dec_some_of (HDEC.out W) r n hd);obtain ⟨he1, he2⟩ := enc_dec hd;have HC : Hid (Lib.strCells (s.extract i (i + n)) = bv (enc r)) := hI (by rw [ext_cells, he1]);have hxs : (s.extract i (i + n)).size = n := by simp; omega
           have HXS := hI hxs;have HN := hI he2;clear hd HSTEP HEL2 HDEC hel2 he1 he2 hxs g3 g4
           go_wp2_with (first
            | (go_at_call 111; refine (HD.out _).mono ?_; rintro e w' ⟨rfl, rfl⟩)
            | (at_builtin; refine Lib.wpList_append_own_string _ rfl (.tmp 80) (.tmp 86) 93 9 rfl W1.heap.size 5 i0 Tryz.underlying93 Tryz.underlying9 hi hz0 hz1 hz2 (.slice A out.length c) out.length (bv out) rfl HO.out (s.extract i (i + n)) rfl (by rw [HXS.out]; unfold maxLen; omega) (by rw [HXS.out]; omega) HBE.out.size ?_; intro v2 w2 hown2 hgrow2 _; rw [HC.out, HXS.out, ← bv_append] at hown2; obtain ⟨A2, c2, rfl, hl2, -⟩ := own_slice hown2))
           go_roundw
           case rel => exact ⟨A2, c2, i + n, out ++ enc r, by omega, by rw [List.length_append, ← HN.out], rfl, by rw [List.length_append, ← HN.out]; exact hown2, HBE.out.grown hgrow2 HBE.out.size (fun j hj => (HO.out.lt j hj).1), HNEXT⟩
           case measure => simp [intOf]; omega
  · have HW : Hid (strP s.data.toList k = noX s.size 5) := hI (by
     have h := HSTEP.out;rw [List.drop_eq_nil_of_le (by rw [HL.out]; omega), HL.out] at h;exact h)
    clear HSTEP
    go_wp2_with (go_at_call 88; refine (fail_any _ _ _).mono ?_; rintro e w' ⟨rfl, hb'⟩; have bx := HBR.out.below hb' HBR.out.lt; obtain ⟨t0, t1, t2, t3, t4, t5⟩ := box6 bx; obtain ⟨f0, f1, f2, f3, f4, f5⟩ := free6 bx)
    try rw [Exit.noGoto_ret]
    rw [HW.out];exact lex_ret Tryz.results95 rfl rfl rfl rfl (put6 bx _ _ _ _ _ _) (below_six (Nat.le_refl _) (HBW.out.trans (hb'.mono HBW.out.size)) _ _ _ _ _ _)
