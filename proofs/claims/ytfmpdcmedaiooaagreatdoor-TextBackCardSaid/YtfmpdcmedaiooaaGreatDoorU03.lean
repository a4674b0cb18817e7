/- Numbers of JSON texts: what ParseInt makes of their digits, and what a loop over them knows. Nothing of the program is named here. Where the first token of a JSON text lies: plain. Nothing of the program is named here. The contracts of the small functions of the layer jsonlex and of its reference. The contracts of Skip, of words, and of the reference's digit and letter. The contracts of words. -/
import Derived.Test.YtfmpdcmedaiooaaGreatDoorU02
import Derived.Test.YtfmpdcmedaiooaaGreatDoorRows
import Derived.Test.YtfmpdcmedaiooaaGreatDoorU01
import Derived.WalkKit
import Derived.Lib.Hide
import Derived.WalkSpells
import Derived.WalkLawsBesides
import Derived.Deep.RegionHeld3
import Derived.Deep.Light
import Derived.Lib.Strings
set_option linter.unusedVariables false
set_option linter.unusedSimpArgs false
namespace Go.Proofs.YtfmpdcmedaiooaaGreatDoor
theorem natF_cons (a : Nat) (b : UInt8) (l : List UInt8) : natF a (b :: l) = natF (a * 10 + (b.toNat - 48)) l := by unfold natF; rw [List.foldl_cons]
theorem natF_le : ∀ (l : List UInt8) (a : Nat), a ≤ natF a l
  | [], a => Nat.le_refl _
  | b :: l, a => by rw [natF_cons]; have := natF_le l (a * 10 + (b.toNat - 48)); omega
theorem natF_app (a : Nat) (l r : List UInt8) : natF a (l ++ r) = natF (natF a l) r := by unfold natF; rw [List.foldl_append]
theorem parse_digits : ∀ (l : List UInt8) (a : Nat), (∀ b ∈ l, digB b = true) → a < 18446744073709551616 → Lib.parseUint10 a l = if natF a l < 18446744073709551616 then .ok (natF a l) else .range
  | [], a, _, h => by unfold Lib.parseUint10; rw [show natF a [] = a from by unfold natF; rfl, if_pos h]
  | b :: l, a, hd, h => by
    have hb : 48 ≤ b.toNat ∧ b.toNat ≤ 57 := by have := hd b (by simp); unfold digB at this; simpa using this
    unfold Lib.parseUint10
    rw [if_pos hb, natF_cons]
    have hle := natF_le l (a * 10 + (b.toNat - 48))
    by_cases h1 : 1844674407370955162 ≤ a
    · rw [if_pos h1, if_neg (by omega)]
    · rw [if_neg h1]
      by_cases h2 : 18446744073709551616 ≤ a * 10 + (b.toNat - 48)
      · rw [if_pos h2, if_neg (by omega)]
      · rw [if_neg h2]
        exact parse_digits l _ (fun c hc => hd c (by simp [hc])) (by omega)
def endP : Option Int → Lib.NumEnd Int
  | some v => .ok v
  | none => .range
theorem atoi_digits {l : List UInt8} (hl : l ≠ []) (hd : ∀ b ∈ l, digB b = true) : Lib.atoiAll l = endP (fitP false (natF 0 l)) := by
  cases l with
  | nil => exact absurd rfl hl
  | cons c r =>
    have hb : 48 ≤ c.toNat ∧ c.toNat ≤ 57 := by have := hd c (by simp); unfold digB at this; simpa using this
    rw [Lib.atoiAll_plain c r (by omega) (by omega)]
    unfold Lib.parseMag
    rw [if_neg (by simp), parse_digits _ 0 hd (by omega)]
    unfold fitP
    simp only []
    by_cases h : natF 0 (c :: r) < 9223372036854775808
    · rw [if_pos h, if_pos (by omega)]
      simp only [Lib.signless]
      rw [if_neg (by omega)]; rfl
    · rw [if_neg h]
      split
      · simp only [Lib.signless]
        rw [if_pos (by omega)]; rfl
      · rfl
theorem atoi_minus {l : List UInt8} (hl : l ≠ []) (hd : ∀ b ∈ l, digB b = true) : Lib.atoiAll (45 :: l) = endP (fitP true (natF 0 l)) := by
  rw [Lib.atoiAll_minus]
  unfold Lib.parseMag
  rw [if_neg hl, parse_digits _ 0 hd (by omega)]
  unfold fitP
  simp only []
  by_cases h : natF 0 l ≤ 9223372036854775808
  · rw [if_pos h, if_pos (by omega)]
    simp only [Lib.signed]
    rw [if_neg (by omega)]; rfl
  · rw [if_neg h]
    split
    · simp only [Lib.signed]
      rw [if_pos (by omega)]; rfl
    · rfl
theorem sub_cons {l : List UInt8} {i j : Nat} (h : i < j) (hi : i < l.length) : sub l i j = l[i] :: sub l (i + 1) j := by
  unfold sub
  rw [List.drop_eq_getElem_cons hi, show j - i = (j - (i + 1)) + 1 from by omega, List.take_succ_cons]
theorem sub_mem {l : List UInt8} {i j : Nat} {b : UInt8} (h : b ∈ sub l i j) : ∃ x, ∃ hx : x < l.length, i ≤ x ∧ x < j ∧ l[x] = b := by
  unfold sub at h
  obtain ⟨n, hn, hb⟩ := List.mem_iff_getElem.1 h
  rw [List.getElem_take, List.getElem_drop] at hb
  simp only [List.length_take, List.length_drop] at hn
  exact ⟨i + n, by omega, by omega, by omega, hb⟩
theorem sub_len {l : List UInt8} {i j : Nat} (h : j ≤ l.length) : (sub l i j).length = j - i := by unfold sub; simp; omega
theorem sub_digits (l : List UInt8) (k : Nat) : ∀ b ∈ sub l k (span digB l k), digB b = true := fun b hb => by
  obtain ⟨x, hx, h1, h2, rfl⟩ := sub_mem hb
  exact span_all hx h1 h2
/-- What ParseInt makes of a number: '-' or not, and digits. -/
theorem atoi_sub {l : List UInt8} {k : Nat} (hk : k < l.length) (hne : span digB l (firstP l k) ≠ firstP l k) :
    Lib.atoiAll (sub l k (span digB l (firstP l k))) = endP (fitP (decide (byt l k = 45)) (natF 0 (sub l (firstP l k) (span digB l (firstP l k))))) := by
  have hge := span_ge digB l (firstP l k)
  have hdig := sub_digits l (firstP l k)
  rcases firstP_cases (l := l) (k := k) with ⟨h1, h2⟩ | ⟨h1, h2⟩
  · rw [h2] at hge hdig hne ⊢
    have hle : span digB l (k + 1) ≤ l.length := span_le (by omega)
    have hc : l[k] = 45 := by rw [byt_at hk] at h1; exact UInt8.toNat_inj.1 h1
    rw [sub_cons (by omega) hk, hc, decide_eq_true h1]
    exact atoi_minus (by intro h; have := congrArg List.length h; rw [sub_len hle] at this; simp at this; omega) hdig
  · rw [h2] at hge hdig hne ⊢
    have hle : span digB l k ≤ l.length := span_le (by omega)
    rw [decide_eq_false h1]
    exact atoi_digits (by intro h; have := congrArg List.length h; rw [sub_len hle] at this; simp at this; omega) hdig
end Go.Proofs.YtfmpdcmedaiooaaGreatDoor
namespace Go.Proofs.YtfmpdcmedaiooaaGreatDoor
theorem noX_e {p e : Nat} (he : e ≠ 0) {C : Prop} (h : (noX p e).e = 0) : C := absurd h he
theorem elP_stop {l : List UInt8} {e : Nat} (h : elP l = .stop e) : e = 4 ∨ e = 6 := by
  match l, h with
  | [], h => cases h
  | b :: t, h =>
    rw [elP] at h
    split at h
    · cases h
    · split at h
      · cases hq : escP t with
        | bad => rw [hq] at h; injection h with h; exact .inl h.symm
        | trunc => rw [hq] at h; cases h
        | ok x y => rw [hq] at h; cases h
      · split at h
        · injection h with h; exact .inl h.symm
        · cases hq : dec (b :: t) with
          | none => rw [hq] at h; injection h with h; exact .inr h.symm
          | some x => obtain ⟨x, y⟩ := x; rw [hq] at h; cases h
end Go.Proofs.YtfmpdcmedaiooaaGreatDoor
namespace Go.Proofs.YtfmpdcmedaiooaaGreatDoor
open Go.RowKit
theorem blank_any (b : UInt8) (w : World) : Calls Tryz.prog 79 #[.int .u8 b.toNat] w fun e w' => e = .returned (.bool (blankB b)) ∧ w = w' := by
  have hb := UInt8.toNat_lt b
  unfold blankB
  generalize b.toNat = n at *
  go_enter Tryz.func79, Tryz.ntmps79
  go_wp2
  all_goals go_ret
  all_goals exact ⟨ret_bool (by (try simp only [beq_iff_eq, beq_eq_false_iff_ne, decide_eq_true_eq, decide_eq_false_iff_not, ne_eq] at *); rw [Bool.eq_iff_iff]; first | (simp; omega) | (simp; done) | omega), rfl⟩
theorem sign_any (b : UInt8) (w : World) : Calls Tryz.prog 112 #[.int .u8 b.toNat] w fun e w' => e = .returned (.bool (signB b)) ∧ w = w' := by
  have hb := UInt8.toNat_lt b
  unfold signB
  generalize b.toNat = n at *
  go_enter Tryz.func112, Tryz.ntmps112
  go_wp2
  all_goals go_ret
  all_goals exact ⟨ret_bool (by (try simp only [beq_iff_eq, beq_eq_false_iff_ne, decide_eq_true_eq, decide_eq_false_iff_not, ne_eq] at *); rw [Bool.eq_iff_iff]; first | (simp; omega) | (simp; done) | omega), rfl⟩
theorem letter_any (b : UInt8) (w : World) : Calls Tryz.prog 113 #[.int .u8 b.toNat] w fun e w' => e = .returned (.bool (letB b)) ∧ w = w' := by
  have hb := UInt8.toNat_lt b
  unfold letB
  generalize b.toNat = n at *
  go_enter Tryz.func113, Tryz.ntmps113
  go_wp2
  all_goals go_ret
  all_goals exact ⟨ret_bool (by (try simp only [beq_iff_eq, beq_eq_false_iff_ne, decide_eq_true_eq, decide_eq_false_iff_not, ne_eq] at *); rw [Bool.eq_iff_iff]; first | (simp; omega) | (simp; done) | omega), rfl⟩
theorem digit_any (b : UInt8) (w : World) : Calls Tryz.prog 115 #[.int .u8 b.toNat] w fun e w' => e = .returned (.bool (digB b)) ∧ w = w' := by
  have hb := UInt8.toNat_lt b
  unfold digB
  generalize b.toNat = n at *
  go_enter Tryz.func115, Tryz.ntmps115
  go_wp2
  all_goals go_ret
  all_goals exact ⟨ret_bool (by (try simp only [beq_iff_eq, beq_eq_false_iff_ne, decide_eq_true_eq, decide_eq_false_iff_not, ne_eq] at *); rw [Bool.eq_iff_iff]; first | (simp; omega) | (simp; done) | omega), rfl⟩
def hexV : Option Nat → Value
  | some d => .tuple #[.int .i64 d, .bool true]
  | none => .tuple #[.int .i64 0, .bool false]
set_option maxHeartbeats 1000000 in
theorem hex_any (b : UInt8) (w : World) : Calls Tryz.prog 233 #[.int .u8 b.toNat] w fun e w' => e = .returned (hexV (hexP b)) ∧ w = w' := by
  have hb := UInt8.toNat_lt b
  have hd := Lib.hid (fun W => digit_any b W)
  unfold hexP
  unfold digB at hd
  generalize b.toNat = n at *
  by_cases h1 : 48 ≤ n ∧ n ≤ 57
  · rw [decide_eq_true h1] at hd
    rw [if_pos h1]
    go_enter Tryz.func233, Tryz.ntmps233
    go_wp2_with (go_at_call 115; refine (hd.out _).mono ?_; rintro e w' ⟨rfl, rfl⟩)
    go_ret2
    exact ⟨by unfold hexV; simp; omega, rfl⟩
  · rw [decide_eq_false h1] at hd
    rw [if_neg h1]
    by_cases h2 : 97 ≤ n ∧ n ≤ 102
    · rw [if_pos h2]
      go_enter Tryz.func233, Tryz.ntmps233
      go_wp2_with (go_at_call 115; refine (hd.out _).mono ?_; rintro e w' ⟨rfl, rfl⟩)
      all_goals first | omega | skip
      all_goals go_ret2
      all_goals exact ⟨by unfold hexV; simp; omega, rfl⟩
    · rw [if_neg h2]
      by_cases h3 : 65 ≤ n ∧ n ≤ 70
      · rw [if_pos h3]
        go_enter Tryz.func233, Tryz.ntmps233
        go_wp2_with (go_at_call 115; refine (hd.out _).mono ?_; rintro e w' ⟨rfl, rfl⟩)
        all_goals first | omega | skip
        all_goals go_ret2
        all_goals exact ⟨by unfold hexV; simp; omega, rfl⟩
      · rw [if_neg h3]
        go_enter Tryz.func233, Tryz.ntmps233
        go_wp2_with (go_at_call 115; refine (hd.out _).mono ?_; rintro e w' ⟨rfl, rfl⟩)
        all_goals first | omega | skip
        all_goals go_ret2
        all_goals exact ⟨rfl, rfl⟩
theorem possible_any (a b : Nat) (low : Bool) (ha : a ≤ 1114111) (hb : b ≤ 1114111) (w : World) : Calls Tryz.prog 234 #[.int .i64 a, .int .i64 b, .bool low] w fun e w' => e = .returned (.bool (possP a b low)) ∧ w = w' := by
  unfold possP
  obtain ⟨x, hx⟩ : ∃ x : Int, x = (a : Int) := ⟨_, rfl⟩
  obtain ⟨y, hy⟩ : ∃ y : Int, y = (b : Int) := ⟨_, rfl⟩
  rw [← hx, ← hy]
  have HX := Lib.hid hx
  have HY := Lib.hid hy
  clear ha hb hx hy
  cases low
  · go_enter Tryz.func234, Tryz.ntmps234
    go_wp2
    all_goals go_ret
    all_goals exact ⟨ret_bool (by have h1 := HX.out; have h2 := HY.out; rw [Bool.eq_iff_iff]; first | (simp; omega) | (simp; done) | omega), rfl⟩
  · go_enter Tryz.func234, Tryz.ntmps234
    go_wp2
    all_goals go_ret
    all_goals exact ⟨ret_bool (by have h1 := HX.out; have h2 := HY.out; rw [Bool.eq_iff_iff]; first | (simp; omega) | (simp; done) | omega), rfl⟩
theorem fail_any (p e : Int) (w : World) : Calls Tryz.prog 110 #[.int .i64 p, .int .i64 e] w fun x w' => x = .returned (.tuple #[.agg #[.int .i64 0, .int .i64 0, .int .i64 0, .int .u8 0, .int .i64 0, .string ⟨#[]⟩], .int .i64 p, .int .i64 e]) ∧ Below w.heap.size w w' := by
  go_enter Tryz.func110, Tryz.ntmps110
  go_wp2_with fail
  refine bodyPost_ret (v := .tuple #[.agg #[.int .i64 0, .int .i64 0, .int .i64 0, .int .u8 0, .int .i64 0, .string ⟨#[]⟩], .int .i64 p, .int .i64 e]) (by simp [results, Tryz.results110, go_sem]) rfl ⟨rfl, ?_⟩
  exact (Below.refl _ _).alloc (Nat.le_refl _) _
theorem found_any (k f t b i : Int) (s : ByteArray) (w : World) : Calls Tryz.prog 111 #[.agg #[.int .i64 k, .int .i64 f, .int .i64 t, .int .u8 b, .int .i64 i, .string s]] w fun x w' => x = .returned (.tuple #[.agg #[.int .i64 k, .int .i64 f, .int .i64 t, .int .u8 b, .int .i64 i, .string s], .int .i64 t, .int .i64 0]) ∧ Below w.heap.size w w' := by
  go_enter Tryz.func111, Tryz.ntmps111
  go_wp2_with fail
  go_region
  go_wp2_with fail
  refine bodyPost_ret (v := .tuple #[.agg #[.int .i64 k, .int .i64 f, .int .i64 t, .int .u8 b, .int .i64 i, .string s], .int .i64 t, .int .i64 0]) (by simp [results, Tryz.results111, go_sem]) rfl ⟨rfl, ?_⟩
  exact (((Below.refl _ _).alloc (Nat.le_refl _) _).alloc (by simp) _).drew
end Go.Proofs.YtfmpdcmedaiooaaGreatDoor
namespace Go.Proofs.YtfmpdcmedaiooaaGreatDoor
open Go.RowKit
theorem at_list {s : ByteArray} {k : Nat} {b : UInt8} (h : k < s.size) (hb : s[k] = b) : s.data.toList[k]? = some b := by
  have h2 : k < s.data.toList.length := by simpa using h
  rw [List.getElem?_eq_getElem h2, ← hb]; rfl
theorem span_inq {p : UInt8 → Bool} {l : List UInt8} {k : Nat} {b : UInt8} (h : l[k]? = some b) (hp : p b = true) : span p l k = span p l (k + 1) := by
  obtain ⟨h1, rfl⟩ := List.getElem?_eq_some_iff.1 h
  exact span_in h1 hp
theorem span_noq {p : UInt8 → Bool} {l : List UInt8} {k : Nat} {b : UInt8} (h : l[k]? = some b) (hp : p b = false) : span p l k = k := by
  obtain ⟨h1, rfl⟩ := List.getElem?_eq_some_iff.1 h
  exact span_no h1 hp
theorem bytq {l : List UInt8} {k : Nat} {b : UInt8} (h : l[k]? = some b) : byt l k = b.toNat := by unfold byt; rw [h]; rfl
set_option maxHeartbeats 1000000 in
theorem skip_any (s : ByteArray) (k : Nat) (hs : s.size ≤ maxLen) (hk : k ≤ s.size) (w : World) : Calls Tryz.prog 78 #[.string s, .int .i64 k] w fun e w' => e = .returned (.int .i64 (span blankB s.data.toList k : Nat)) ∧ w = w' := by
  unfold maxLen at hs
  have hl : s.data.toList.length = s.size := by simp
  have HL := Lib.hid hl
  clear hl
  have hq1 : decide ((k : Int) < 0) = false := by simp
  have hq2 : decide ((s.size : Int) < (k : Int)) = false := by simp; omega
  have hq3 : decide (s.size < k) = false := by simp; omega
  go_enter Tryz.func78, Tryz.ntmps78
  go_wp2
  go_loop [1] (fun t => ∃ j : Nat, j ≤ s.size ∧ t = .int .i64 j ∧ span blankB s.data.toList k = span blankB s.data.toList j) (fun t => s.size - (intOf t).toNat)
  case atStart => exact ⟨k, hk, rfl, rfl⟩
  case round =>
    obtain ⟨j, hj, rfl, hsp⟩ := hrel
    have HS := Lib.hid hsp
    clear hsp
    by_cases hlt : j < s.size
    · obtain ⟨b, hb⟩ : ∃ b, s[j] = b := ⟨_, rfl⟩
      have H3 := Lib.hid (at_list hlt hb)
      cases hc : blankB b with
      | true =>
        have HN := Lib.hid (span_inq H3.out hc)
        go_wp2_with (go_at_call 79; refine (blank_any _ _).mono ?_; rw [hc]; rintro e w' ⟨rfl, rfl⟩)
        go_round
        case rel => exact ⟨j + 1, by omega, by go_num, HS.out.trans HN.out⟩
        case measure => simp [intOf]; omega
      | false =>
        have HN := Lib.hid (span_noq H3.out hc)
        go_wp2_with (go_at_call 79; refine (blank_any _ _).mono ?_; rw [hc]; rintro e w' ⟨rfl, rfl⟩)
        go_ret
        exact ⟨ret_int (by rw [HS.out, HN.out]), rfl⟩
    · have HN := Lib.hid (span_end (p := blankB) (l := s.data.toList) (k := j) (by rw [HL.out]; omega))
      have hje : j = s.size := by omega
      go_wp2
      all_goals go_ret
      all_goals exact ⟨ret_int (by rw [HS.out, HN.out]; (try omega)), rfl⟩
end Go.Proofs.YtfmpdcmedaiooaaGreatDoor
namespace Go.Proofs.YtfmpdcmedaiooaaGreatDoor
open Go.RowKit
def LexPost (x : Lx) (w : World) (e : Ending) (w' : World) : Prop := e = .returned x.val ∧ Below w.heap.size w w'
theorem box6 {w : World} {g : Nat} {t : TypeId} {x0 x1 x2 x3 x4 x5 : Value} (h : Box w g t #[x0, x1, x2, x3, x4, x5]) : w.cell? ⟨g, 0, none⟩ = some x0 ∧ w.cell? ⟨g, 1, none⟩ = some x1 ∧ w.cell? ⟨g, 2, none⟩ = some x2 ∧ w.cell? ⟨g, 3, none⟩ = some x3 ∧ w.cell? ⟨g, 4, none⟩ = some x4 ∧ w.cell? ⟨g, 5, none⟩ = some x5 :=
  ⟨h.cell rfl, h.cell rfl, h.cell rfl, h.cell rfl, h.cell rfl, h.cell rfl⟩
theorem free6 {w : World} {g : Nat} {t : TypeId} {x0 x1 x2 x3 x4 x5 : Value} (h : Box w g t #[x0, x1, x2, x3, x4, x5]) : w.frozen? ⟨g, 0, none⟩ = false ∧ w.frozen? ⟨g, 1, none⟩ = false ∧ w.frozen? ⟨g, 2, none⟩ = false ∧ w.frozen? ⟨g, 3, none⟩ = false ∧ w.frozen? ⟨g, 4, none⟩ = false ∧ w.frozen? ⟨g, 5, none⟩ = false :=
  ⟨h.free 0, h.free 1, h.free 2, h.free 3, h.free 4, h.free 5⟩
theorem ext_sub (s : ByteArray) (i j : Nat) : (s.extract i j).toList = sub s.data.toList i j := by
  rw [Lib.toList_data]
  obtain ⟨⟨l⟩⟩ := s
  rw [ByteArray.extract_mk]
  unfold sub
  simp
theorem below_six {w X : World} {B g : Nat} (hg : B ≤ g) (h : Below B w X) (u0 u1 u2 u3 u4 u5 : Value) : Below B w ((((((X.setCell ⟨g, 0, none⟩ u0).setCell ⟨g, 1, none⟩ u1).setCell ⟨g, 2, none⟩ u2).setCell ⟨g, 3, none⟩ u3).setCell ⟨g, 4, none⟩ u4).setCell ⟨g, 5, none⟩ u5) :=
  (((((h.setCell hg _).setCell hg _).setCell hg _).setCell hg _).setCell hg _).setCell hg _
theorem put6 {w : World} {g : Nat} {t : TypeId} {x0 x1 x2 x3 x4 x5 : Value} (h : Box w g t #[x0, x1, x2, x3, x4, x5]) (u0 u1 u2 u3 u4 u5 : Value) :
    Box ((((((w.setCell ⟨g, 0, none⟩ u0).setCell ⟨g, 1, none⟩ u1).setCell ⟨g, 2, none⟩ u2).setCell ⟨g, 3, none⟩ u3).setCell ⟨g, 4, none⟩ u4).setCell ⟨g, 5, none⟩ u5) g t #[u0, u1, u2, u3, u4, u5] :=
  (((((h.put 0 u0).put 1 u1).put 2 u2).put 3 u3).put 4 u4).put 5 u5
theorem tok_ret {F : Func} {a b c : Nat} {Post : Ending → World → Prop} {A : Act} {X : World} {g : Nat} {x0 x1 x2 x3 x4 x5 p e : Value} (hr : F.results = #[.cell a 93, .tmp b, .tmp c])
    (ha : A.tmps[a]?.getD undef = .pointer (some ⟨g, 0, none⟩)) (hb : A.tmps[b]?.getD undef = p) (hc : A.tmps[c]?.getD undef = e) (hd : A.defers = []) (bx : Box X g 93 #[x0, x1, x2, x3, x4, x5])
    (h : Post (.returned (.tuple #[.agg #[x0, x1, x2, x3, x4, x5], p, e])) X) : bodyPost Tryz.prog F Post Exit.ret A X := by
  obtain ⟨t0, t1, t2, t3, t4, t5⟩ := box6 bx
  refine bodyPost_ret (v := .tuple #[.agg #[x0, x1, x2, x3, x4, x5], p, e]) ?_ hd h
  simp [results, hr, go_sem, ha, hb, hc, t0, t1, t2, t3, t4, t5]
theorem lex_ret {F : Func} {a b c : Nat} {x : Lx} {w : World} {A : Act} {X : World} {g : Nat} (hr : F.results = #[.cell a 93, .tmp b, .tmp c])
    (ha : A.tmps[a]?.getD undef = .pointer (some ⟨g, 0, none⟩)) (hb : A.tmps[b]?.getD undef = .int .i64 x.p) (hc : A.tmps[c]?.getD undef = .int .i64 x.e) (hd : A.defers = [])
    (bx : Box X g 93 #[.int .i64 x.k, .int .i64 x.f, .int .i64 x.t, .int .u8 x.b, .int .i64 x.i, .string x.s])
    (h : Below w.heap.size w X) : bodyPost Tryz.prog F (LexPost x w) Exit.ret A X := tok_ret hr ha hb hc hd bx ⟨rfl, h⟩
theorem wordB_no {X : List UInt8} (h : wordB X = false) : (X == [110, 117, 108, 108]) = false ∧ (X == [116, 114, 117, 101]) = false ∧ (X == [102, 97, 108, 115, 101]) = false := by
  unfold wordB at h
  simp only [Bool.or_eq_false_iff] at h
  exact ⟨h.1.1, h.1.2, h.2⟩
theorem wordB_yes {X : List UInt8} (h : wordB X = true) : (X == [110, 117, 108, 108]) = true ∨ ((X == [110, 117, 108, 108]) = false ∧ (X == [116, 114, 117, 101]) = true) ∨ ((X == [110, 117, 108, 108]) = false ∧ (X == [116, 114, 117, 101]) = false ∧ (X == [102, 97, 108, 115, 101]) = true) := by
  unfold wordB at h
  cases q1 : (X == [110, 117, 108, 108])
  · cases q2 : (X == [116, 114, 117, 101])
    · rw [q1, q2] at h
      exact .inr (.inr ⟨rfl, rfl, by simpa using h⟩)
    · exact .inr (.inl ⟨rfl, rfl⟩)
  · exact .inl rfl
set_option maxHeartbeats 1000000 in
theorem word_any (s : ByteArray) (k : Nat) (hs : s.size ≤ maxLen) (hk : k < s.size) (w : World) : Calls Tryz.prog 114 #[.string s, .int .i64 k] w (LexPost (wordP s.data.toList k) w) := by
  unfold maxLen at hs
  have hl : s.data.toList.length = s.size := by simp
  have HL := Lib.hid hl
  clear hl
  go_enter Tryz.func114, Tryz.ntmps114
  go_wp2
  go_loop [7] (fun t => ∃ j : Nat, k ≤ j ∧ j ≤ s.size ∧ t = .int .i64 j ∧ span letB s.data.toList k = span letB s.data.toList j) (fun t => s.size - (intOf t).toNat)
  case atStart => exact ⟨k, Nat.le_refl _, by omega, rfl, rfl⟩
  case round =>
    obtain ⟨j, hkj, hj, rfl, hsp⟩ := hrel
    have HS := Lib.hid hsp
    clear hsp
    by_cases hgo : ∃ b, s.data.toList[j]? = some b ∧ letB b = true
    · obtain ⟨b, H3, hc⟩ := hgo
      have HN := Lib.hid (span_inq H3 hc)
      have hlt : j < s.size := by have := (List.getElem?_eq_some_iff.1 H3).1; rw [HL.out] at this; exact this
      have hb : s[j] = b := by have := (List.getElem?_eq_some_iff.1 H3).2; rw [← this]; rfl
      clear H3
      go_wp2_with (go_at_call 113; refine (letter_any _ _).mono ?_; rw [hc]; rintro e w' ⟨rfl, rfl⟩)
      go_round
      case rel => exact ⟨j + 1, by omega, by omega, by go_num, HS.out.trans HN.out⟩
      case measure => simp [intOf]; omega
    · have HE : Hid (span letB s.data.toList k = j) := Lib.hid (by
        rw [HS.out]
        by_cases hlt : j < s.size
        · have h3 := at_list hlt rfl
          exact span_noq h3 (by cases h : letB s[j] with | false => rfl | true => exact absurd ⟨_, h3, h⟩ hgo)
        · exact span_end (by rw [HL.out]; omega))
      have HX := Lib.hid (ext_sub s k j)
      have HW : Hid (wordP s.data.toList k = match wordB (sub s.data.toList k j) with | true => okX 2 k j s[k].toNat 0 ⟨#[]⟩ | false => noX k 4) := Lib.hid (by
        unfold wordP
        rw [HE.out, bytq (at_list hk rfl)]; rfl)
      obtain ⟨X, hX⟩ : ∃ X, (s.extract k j).toList = X := ⟨_, rfl⟩
      rw [← HX.out, hX] at HW
      obtain ⟨b0, hb0⟩ : ∃ b0, s[k] = b0 := ⟨_, rfl⟩
      rw [hb0] at HW
      have hexit : ∀ h : j < s.size, letB s[j] = false := fun h => by
        cases hc : letB s[j] with
        | false => rfl
        | true => exact absurd ⟨_, at_list h rfl, hc⟩ hgo
      have HEX := Lib.hid hexit
      clear hgo hexit
      by_cases hlt : j < s.size
      all_goals
        try have hc := HEX.out hlt
        cases hw : wordB X with
        | false =>
          obtain ⟨q1, q2, q3⟩ := wordB_no hw
          rw [hw] at HW
          clear hw
          go_wp2_with (first
            | (go_at_call 113; refine (letter_any _ _).mono ?_; rw [hc]; rintro e w' ⟨rfl, rfl⟩)
            | (go_at_call 110; refine (fail_any _ _ _).mono ?_; rintro e w' ⟨rfl, hb'⟩; have bx := (Box.laid w _ _).below hb' (by simp); obtain ⟨t0, t1, t2, t3, t4, t5⟩ := box6 bx; obtain ⟨f0, f1, f2, f3, f4, f5⟩ := free6 bx))
          refine bodyPost_ret (v := (noX k 4).val) (by simp [results, Tryz.results114, go_sem, Lx.val, noX, t0, t1, t2, t3, t4, t5]) rfl ⟨?_, ?_⟩
          · rw [HW.out]
          · exact below_six (Nat.le_refl _) (((Below.refl _ _).alloc (Nat.le_refl _) _).trans (hb'.mono (by simp))) _ _ _ _ _ _
        | true =>
          rw [hw] at HW
          have HWW := Lib.hid hw
          clear hw
          rcases wordB_yes HWW.out with q1 | ⟨q1, q2⟩ | ⟨q1, q2, q3⟩
          all_goals
            go_wp2_with (first
              | (go_at_call 113; refine (letter_any _ _).mono ?_; rw [hc]; rintro e w' ⟨rfl, rfl⟩)
              | (go_at_call 111; refine (found_any _ _ _ _ _ _ _).mono ?_; rintro e w' ⟨rfl, hb'⟩; have bx := (Box.laid w _ _).below hb' (by simp); obtain ⟨t0, t1, t2, t3, t4, t5⟩ := box6 bx; obtain ⟨f0, f1, f2, f3, f4, f5⟩ := free6 bx))
            refine bodyPost_ret (v := (okX 2 k j b0.toNat 0 ⟨#[]⟩).val) (by simp [results, Tryz.results114, go_sem, Lx.val, okX, t0, t1, t2, t3, t4, t5]) rfl ⟨?_, ?_⟩
            · rw [HW.out]
            · exact below_six (Nat.le_refl _) (((Below.refl _ _).alloc (Nat.le_refl _) _).trans (hb'.mono (by simp))) _ _ _ _ _ _
end Go.Proofs.YtfmpdcmedaiooaaGreatDoor
