/- The contracts of the small functions of the layer jsonlex and of its reference. The contracts of Skip, of words, and of the reference's digit and letter. The contracts of words. -/
import Derived.Test.YtmfjpcmbdgbjjaaGreatDoorRows
import Derived.Test.YtmfjpcmbdgbjjaaGreatDoorQ01
import Derived.Test.YtmfjpcmbdgbjjaaGreatDoorQ03
import Derived.WalkKit
import Derived.Lib.Hide
import Derived.WalkSpells
import Derived.WalkLawsBesides
import Derived.Deep.RegionHeld3
import Derived.Deep.Light
import Derived.Lib.Strings
set_option linter.unusedVariables false
set_option linter.unusedSimpArgs false
namespace Go.Proofs.YtmfjpcmbdgbjjaaGreatDoor
open Go.RowKit
theorem blank_any (b : UInt8) (w : World) : Calls Tryz.prog 109 #[.int .u8 b.toNat] w fun e w' => e = .returned (.bool (blankB b)) ∧ w = w' := by
  have hb := UInt8.toNat_lt b
  unfold blankB
  generalize b.toNat = n at *
  go_enter Tryz.func109, Tryz.ntmps109
  go_wp2
  all_goals go_ret
  all_goals exact ⟨ret_bool (by (try simp only [beq_iff_eq, beq_eq_false_iff_ne, decide_eq_true_eq, decide_eq_false_iff_not, ne_eq] at *); rw [Bool.eq_iff_iff]; first | (simp; omega) | (simp; done) | omega), rfl⟩
theorem sign_any (b : UInt8) (w : World) : Calls Tryz.prog 77 #[.int .u8 b.toNat] w fun e w' => e = .returned (.bool (signB b)) ∧ w = w' := by
  have hb := UInt8.toNat_lt b
  unfold signB
  generalize b.toNat = n at *
  go_enter Tryz.func77, Tryz.ntmps77
  go_wp2
  all_goals go_ret
  all_goals exact ⟨ret_bool (by (try simp only [beq_iff_eq, beq_eq_false_iff_ne, decide_eq_true_eq, decide_eq_false_iff_not, ne_eq] at *); rw [Bool.eq_iff_iff]; first | (simp; omega) | (simp; done) | omega), rfl⟩
theorem letter_any (b : UInt8) (w : World) : Calls Tryz.prog 78 #[.int .u8 b.toNat] w fun e w' => e = .returned (.bool (letB b)) ∧ w = w' := by
  have hb := UInt8.toNat_lt b
  unfold letB
  generalize b.toNat = n at *
  go_enter Tryz.func78, Tryz.ntmps78
  go_wp2
  all_goals go_ret
  all_goals exact ⟨ret_bool (by (try simp only [beq_iff_eq, beq_eq_false_iff_ne, decide_eq_true_eq, decide_eq_false_iff_not, ne_eq] at *); rw [Bool.eq_iff_iff]; first | (simp; omega) | (simp; done) | omega), rfl⟩
theorem digit_any (b : UInt8) (w : World) : Calls Tryz.prog 80 #[.int .u8 b.toNat] w fun e w' => e = .returned (.bool (digB b)) ∧ w = w' := by
  have hb := UInt8.toNat_lt b
  unfold digB
  generalize b.toNat = n at *
  go_enter Tryz.func80, Tryz.ntmps80
  go_wp2
  all_goals go_ret
  all_goals exact ⟨ret_bool (by (try simp only [beq_iff_eq, beq_eq_false_iff_ne, decide_eq_true_eq, decide_eq_false_iff_not, ne_eq] at *); rw [Bool.eq_iff_iff]; first | (simp; omega) | (simp; done) | omega), rfl⟩
def hexV : Option Nat → Value
  | some d => .tuple #[.int .i64 d, .bool true]
  | none => .tuple #[.int .i64 0, .bool false]
set_option maxHeartbeats 1000000 in
theorem hex_any (b : UInt8) (w : World) : Calls Tryz.prog 209 #[.int .u8 b.toNat] w fun e w' => e = .returned (hexV (hexP b)) ∧ w = w' := by
  have hb := UInt8.toNat_lt b
  have hd := Lib.hid (fun W => digit_any b W)
  unfold hexP
  unfold digB at hd
  generalize b.toNat = n at *
  by_cases h1 : 48 ≤ n ∧ n ≤ 57
  · rw [decide_eq_true h1] at hd
    rw [if_pos h1]
    go_enter Tryz.func209, Tryz.ntmps209
    go_wp2_with (go_at_call 80; refine (hd.out _).mono ?_; rintro e w' ⟨rfl, rfl⟩)
    go_ret2
    exact ⟨by unfold hexV; simp; omega, rfl⟩
  · rw [decide_eq_false h1] at hd
    rw [if_neg h1]
    by_cases h2 : 97 ≤ n ∧ n ≤ 102
    · rw [if_pos h2]
      go_enter Tryz.func209, Tryz.ntmps209
      go_wp2_with (go_at_call 80; refine (hd.out _).mono ?_; rintro e w' ⟨rfl, rfl⟩)
      all_goals first | omega | skip
      all_goals go_ret2
      all_goals exact ⟨by unfold hexV; simp; omega, rfl⟩
    · rw [if_neg h2]
      by_cases h3 : 65 ≤ n ∧ n ≤ 70
      · rw [if_pos h3]
        go_enter Tryz.func209, Tryz.ntmps209
        go_wp2_with (go_at_call 80; refine (hd.out _).mono ?_; rintro e w' ⟨rfl, rfl⟩)
        all_goals first | omega | skip
        all_goals go_ret2
        all_goals exact ⟨by unfold hexV; simp; omega, rfl⟩
      · rw [if_neg h3]
        go_enter Tryz.func209, Tryz.ntmps209
        go_wp2_with (go_at_call 80; refine (hd.out _).mono ?_; rintro e w' ⟨rfl, rfl⟩)
        all_goals first | omega | skip
        all_goals go_ret2
        all_goals exact ⟨rfl, rfl⟩
theorem possible_any (a b : Nat) (low : Bool) (ha : a ≤ 1114111) (hb : b ≤ 1114111) (w : World) : Calls Tryz.prog 210 #[.int .i64 a, .int .i64 b, .bool low] w fun e w' => e = .returned (.bool (possP a b low)) ∧ w = w' := by
  unfold possP
  obtain ⟨x, hx⟩ : ∃ x : Int, x = (a : Int) := ⟨_, rfl⟩
  obtain ⟨y, hy⟩ : ∃ y : Int, y = (b : Int) := ⟨_, rfl⟩
  rw [← hx, ← hy]
  have HX := Lib.hid hx
  have HY := Lib.hid hy
  clear ha hb hx hy
  cases low
  · go_enter Tryz.func210, Tryz.ntmps210
    go_wp2
    all_goals go_ret
    all_goals exact ⟨ret_bool (by have h1 := HX.out; have h2 := HY.out; rw [Bool.eq_iff_iff]; first | (simp; omega) | (simp; done) | omega), rfl⟩
  · go_enter Tryz.func210, Tryz.ntmps210
    go_wp2
    all_goals go_ret
    all_goals exact ⟨ret_bool (by have h1 := HX.out; have h2 := HY.out; rw [Bool.eq_iff_iff]; first | (simp; omega) | (simp; done) | omega), rfl⟩
theorem fail_any (p e : Int) (w : World) : Calls Tryz.prog 74 #[.int .i64 p, .int .i64 e] w fun x w' => x = .returned (.tuple #[.agg #[.int .i64 0, .int .i64 0, .int .i64 0, .int .u8 0, .int .i64 0, .string ⟨#[]⟩], .int .i64 p, .int .i64 e]) ∧ Below w.heap.size w w' := by
  go_enter Tryz.func74, Tryz.ntmps74
  go_wp2_with fail
  refine bodyPost_ret (v := .tuple #[.agg #[.int .i64 0, .int .i64 0, .int .i64 0, .int .u8 0, .int .i64 0, .string ⟨#[]⟩], .int .i64 p, .int .i64 e]) (by simp [results, Tryz.results74, go_sem]) rfl ⟨rfl, ?_⟩
  exact (Below.refl _ _).alloc (Nat.le_refl _) _
theorem found_any (k f t b i : Int) (s : ByteArray) (w : World) : Calls Tryz.prog 76 #[.agg #[.int .i64 k, .int .i64 f, .int .i64 t, .int .u8 b, .int .i64 i, .string s]] w fun x w' => x = .returned (.tuple #[.agg #[.int .i64 k, .int .i64 f, .int .i64 t, .int .u8 b, .int .i64 i, .string s], .int .i64 t, .int .i64 0]) ∧ Below w.heap.size w w' := by
  go_enter Tryz.func76, Tryz.ntmps76
  go_wp2_with fail
  go_region
  go_wp2_with fail
  refine bodyPost_ret (v := .tuple #[.agg #[.int .i64 k, .int .i64 f, .int .i64 t, .int .u8 b, .int .i64 i, .string s], .int .i64 t, .int .i64 0]) (by simp [results, Tryz.results76, go_sem]) rfl ⟨rfl, ?_⟩
  exact (((Below.refl _ _).alloc (Nat.le_refl _) _).alloc (by simp) _).drew
end Go.Proofs.YtmfjpcmbdgbjjaaGreatDoor
namespace Go.Proofs.YtmfjpcmbdgbjjaaGreatDoor
open Go.RowKit
theorem at_list {s : ByteArray} {k : Nat} {b : UInt8} (h : k < s.size) (hb : s[k] = b) : s.data.toList[k]? = some b := by
  have h2 : k < s.data.toList.length := by simpa using h
  rw [List.getElem?_eq_getElem h2, ← hb]; rfl
theorem span_inq {p : UInt8 → Bool} {l : List UInt8} {k : Nat} {b : UInt8} (h : l[k]? = some b) (hp : p b = true) : span p l k = span p l (k + 1) := by
  obtain ⟨h1, rfl⟩ := List.getElem?_eq_some_iff.1 h
  exact span_in h1 hp
theorem span_noq {p : UInt8 → Bool} {l : List UInt8} {k : Nat} {b : UInt8} (h : l[k]? = some b) (hp : p b = false) : span p l k = k := by
  obtain ⟨h1, rfl⟩ := List.getElem?_eq_some_iff.1 h
  exact span_no h1 hp
theorem bytq {l : List UInt8} {k : Nat} {b : UInt8} (h : l[k]? = some b) : byt l k = b.toNat := by unfold byt; rw [h]; rfl
set_option maxHeartbeats 1000000 in
theorem skip_any (s : ByteArray) (k : Nat) (hs : s.size ≤ maxLen) (hk : k ≤ s.size) (w : World) : Calls Tryz.prog 75 #[.string s, .int .i64 k] w fun e w' => e = .returned (.int .i64 (span blankB s.data.toList k : Nat)) ∧ w = w' := by
  unfold maxLen at hs
  have hl : s.data.toList.length = s.size := by simp
  have HL := Lib.hid hl
  clear hl
  have hq1 : decide ((k : Int) < 0) = false := by simp
  have hq2 : decide ((s.size : Int) < (k : Int)) = false := by simp; omega
  have hq3 : decide (s.size < k) = false := by simp; omega
  go_enter Tryz.func75, Tryz.ntmps75
  go_wp2
  go_loop [1] (fun t => ∃ j : Nat, j ≤ s.size ∧ t = .int .i64 j ∧ span blankB s.data.toList k = span blankB s.data.toList j) (fun t => s.size - (intOf t).toNat)
  case atStart => exact ⟨k, hk, rfl, rfl⟩
  case round =>
    obtain ⟨j, hj, rfl, hsp⟩ := hrel
    have HS := Lib.hid hsp
    clear hsp
    by_cases hlt : j < s.size
    · obtain ⟨b, hb⟩ : ∃ b, s[j] = b := ⟨_, rfl⟩
      have H3 := Lib.hid (at_list hlt hb)
      cases hc : blankB b with
      | true =>
        have HN := Lib.hid (span_inq H3.out hc)
        go_wp2_with (go_at_call 109; refine (blank_any _ _).mono ?_; rw [hc]; rintro e w' ⟨rfl, rfl⟩)
        go_round
        case rel => exact ⟨j + 1, by omega, by go_num, HS.out.trans HN.out⟩
        case measure => simp [intOf]; omega
      | false =>
        have HN := Lib.hid (span_noq H3.out hc)
        go_wp2_with (go_at_call 109; refine (blank_any _ _).mono ?_; rw [hc]; rintro e w' ⟨rfl, rfl⟩)
        go_ret
        exact ⟨ret_int (by rw [HS.out, HN.out]), rfl⟩
    · have HN := Lib.hid (span_end (p := blankB) (l := s.data.toList) (k := j) (by rw [HL.out]; omega))
      have hje : j = s.size := by omega
      go_wp2
      all_goals go_ret
      all_goals exact ⟨ret_int (by rw [HS.out, HN.out]; (try omega)), rfl⟩
end Go.Proofs.YtmfjpcmbdgbjjaaGreatDoor
namespace Go.Proofs.YtmfjpcmbdgbjjaaGreatDoor
open Go.RowKit
def LexPost (x : Lx) (w : World) (e : Ending) (w' : World) : Prop := e = .returned x.val ∧ Below w.heap.size w w'
theorem box6 {w : World} {g : Nat} {t : TypeId} {x0 x1 x2 x3 x4 x5 : Value} (h : Box w g t #[x0, x1, x2, x3, x4, x5]) : w.cell? ⟨g, 0, none⟩ = some x0 ∧ w.cell? ⟨g, 1, none⟩ = some x1 ∧ w.cell? ⟨g, 2, none⟩ = some x2 ∧ w.cell? ⟨g, 3, none⟩ = some x3 ∧ w.cell? ⟨g, 4, none⟩ = some x4 ∧ w.cell? ⟨g, 5, none⟩ = some x5 :=
  ⟨h.cell rfl, h.cell rfl, h.cell rfl, h.cell rfl, h.cell rfl, h.cell rfl⟩
theorem free6 {w : World} {g : Nat} {t : TypeId} {x0 x1 x2 x3 x4 x5 : Value} (h : Box w g t #[x0, x1, x2, x3, x4, x5]) : w.frozen? ⟨g, 0, none⟩ = false ∧ w.frozen? ⟨g, 1, none⟩ = false ∧ w.frozen? ⟨g, 2, none⟩ = false ∧ w.frozen? ⟨g, 3, none⟩ = false ∧ w.frozen? ⟨g, 4, none⟩ = false ∧ w.frozen? ⟨g, 5, none⟩ = false :=
  ⟨h.free 0, h.free 1, h.free 2, h.free 3, h.free 4, h.free 5⟩
theorem ext_sub (s : ByteArray) (i j : Nat) : (s.extract i j).toList = sub s.data.toList i j := by
  rw [Lib.toList_data]
  obtain ⟨⟨l⟩⟩ := s
  rw [ByteArray.extract_mk]
  unfold sub
  simp
theorem below_six {w X : World} {B g : Nat} (hg : B ≤ g) (h : Below B w X) (u0 u1 u2 u3 u4 u5 : Value) : Below B w ((((((X.setCell ⟨g, 0, none⟩ u0).setCell ⟨g, 1, none⟩ u1).setCell ⟨g, 2, none⟩ u2).setCell ⟨g, 3, none⟩ u3).setCell ⟨g, 4, none⟩ u4).setCell ⟨g, 5, none⟩ u5) :=
  (((((h.setCell hg _).setCell hg _).setCell hg _).setCell hg _).setCell hg _).setCell hg _
theorem put6 {w : World} {g : Nat} {t : TypeId} {x0 x1 x2 x3 x4 x5 : Value} (h : Box w g t #[x0, x1, x2, x3, x4, x5]) (u0 u1 u2 u3 u4 u5 : Value) :
    Box ((((((w.setCell ⟨g, 0, none⟩ u0).setCell ⟨g, 1, none⟩ u1).setCell ⟨g, 2, none⟩ u2).setCell ⟨g, 3, none⟩ u3).setCell ⟨g, 4, none⟩ u4).setCell ⟨g, 5, none⟩ u5) g t #[u0, u1, u2, u3, u4, u5] :=
  (((((h.put 0 u0).put 1 u1).put 2 u2).put 3 u3).put 4 u4).put 5 u5
theorem tok_ret {F : Func} {a b c : Nat} {Post : Ending → World → Prop} {A : Act} {X : World} {g : Nat} {x0 x1 x2 x3 x4 x5 p e : Value} (hr : F.results = #[.cell a 44, .tmp b, .tmp c])
    (ha : A.tmps[a]?.getD undef = .pointer (some ⟨g, 0, none⟩)) (hb : A.tmps[b]?.getD undef = p) (hc : A.tmps[c]?.getD undef = e) (hd : A.defers = []) (bx : Box X g 44 #[x0, x1, x2, x3, x4, x5])
    (h : Post (.returned (.tuple #[.agg #[x0, x1, x2, x3, x4, x5], p, e])) X) : bodyPost Tryz.prog F Post Exit.ret A X := by
  obtain ⟨t0, t1, t2, t3, t4, t5⟩ := box6 bx
  refine bodyPost_ret (v := .tuple #[.agg #[x0, x1, x2, x3, x4, x5], p, e]) ?_ hd h
  simp [results, hr, go_sem, ha, hb, hc, t0, t1, t2, t3, t4, t5]
theorem lex_ret {F : Func} {a b c : Nat} {x : Lx} {w : World} {A : Act} {X : World} {g : Nat} (hr : F.results = #[.cell a 44, .tmp b, .tmp c])
    (ha : A.tmps[a]?.getD undef = .pointer (some ⟨g, 0, none⟩)) (hb : A.tmps[b]?.getD undef = .int .i64 x.p) (hc : A.tmps[c]?.getD undef = .int .i64 x.e) (hd : A.defers = [])
    (bx : Box X g 44 #[.int .i64 x.k, .int .i64 x.f, .int .i64 x.t, .int .u8 x.b, .int .i64 x.i, .string x.s])
    (h : Below w.heap.size w X) : bodyPost Tryz.prog F (LexPost x w) Exit.ret A X := tok_ret hr ha hb hc hd bx ⟨rfl, h⟩
theorem wordB_no {X : List UInt8} (h : wordB X = false) : (X == [110, 117, 108, 108]) = false ∧ (X == [116, 114, 117, 101]) = false ∧ (X == [102, 97, 108, 115, 101]) = false := by
  unfold wordB at h
  simp only [Bool.or_eq_false_iff] at h
  exact ⟨h.1.1, h.1.2, h.2⟩
theorem wordB_yes {X : List UInt8} (h : wordB X = true) : (X == [110, 117, 108, 108]) = true ∨ ((X == [110, 117, 108, 108]) = false ∧ (X == [116, 114, 117, 101]) = true) ∨ ((X == [110, 117, 108, 108]) = false ∧ (X == [116, 114, 117, 101]) = false ∧ (X == [102, 97, 108, 115, 101]) = true) := by
  unfold wordB at h
  cases q1 : (X == [110, 117, 108, 108])
  · cases q2 : (X == [116, 114, 117, 101])
    · rw [q1, q2] at h
      exact .inr (.inr ⟨rfl, rfl, by simpa using h⟩)
    · exact .inr (.inl ⟨rfl, rfl⟩)
  · exact .inl rfl
set_option maxHeartbeats 1000000 in
theorem word_any (s : ByteArray) (k : Nat) (hs : s.size ≤ maxLen) (hk : k < s.size) (w : World) : Calls Tryz.prog 79 #[.string s, .int .i64 k] w (LexPost (wordP s.data.toList k) w) := by
  unfold maxLen at hs
  have hl : s.data.toList.length = s.size := by simp
  have HL := Lib.hid hl
  clear hl
  go_enter Tryz.func79, Tryz.ntmps79
  go_wp2
  go_loop [7] (fun t => ∃ j : Nat, k ≤ j ∧ j ≤ s.size ∧ t = .int .i64 j ∧ span letB s.data.toList k = span letB s.data.toList j) (fun t => s.size - (intOf t).toNat)
  case atStart => exact ⟨k, Nat.le_refl _, by omega, rfl, rfl⟩
  case round =>
    obtain ⟨j, hkj, hj, rfl, hsp⟩ := hrel
    have HS := Lib.hid hsp
    clear hsp
    by_cases hgo : ∃ b, s.data.toList[j]? = some b ∧ letB b = true
    · obtain ⟨b, H3, hc⟩ := hgo
      have HN := Lib.hid (span_inq H3 hc)
      have hlt : j < s.size := by have := (List.getElem?_eq_some_iff.1 H3).1; rw [HL.out] at this; exact this
      have hb : s[j] = b := by have := (List.getElem?_eq_some_iff.1 H3).2; rw [← this]; rfl
      clear H3
      go_wp2_with (go_at_call 78; refine (letter_any _ _).mono ?_; rw [hc]; rintro e w' ⟨rfl, rfl⟩)
      go_round
      case rel => exact ⟨j + 1, by omega, by omega, by go_num, HS.out.trans HN.out⟩
      case measure => simp [intOf]; omega
    · have HE : Hid (span letB s.data.toList k = j) := Lib.hid (by
        rw [HS.out]
        by_cases hlt : j < s.size
        · have h3 := at_list hlt rfl
          exact span_noq h3 (by cases h : letB s[j] with | false => rfl | true => exact absurd ⟨_, h3, h⟩ hgo)
        · exact span_end (by rw [HL.out]; omega))
      have HX := Lib.hid (ext_sub s k j)
      have HW : Hid (wordP s.data.toList k = match wordB (sub s.data.toList k j) with | true => okX 2 k j s[k].toNat 0 ⟨#[]⟩ | false => noX k 4) := Lib.hid (by
        unfold wordP
        rw [HE.out, bytq (at_list hk rfl)]; rfl)
      obtain ⟨X, hX⟩ : ∃ X, (s.extract k j).toList = X := ⟨_, rfl⟩
      rw [← HX.out, hX] at HW
      obtain ⟨b0, hb0⟩ : ∃ b0, s[k] = b0 := ⟨_, rfl⟩
      rw [hb0] at HW
      have hexit : ∀ h : j < s.size, letB s[j] = false := fun h => by
        cases hc : letB s[j] with
        | false => rfl
        | true => exact absurd ⟨_, at_list h rfl, hc⟩ hgo
      have HEX := Lib.hid hexit
      clear hgo hexit
      by_cases hlt : j < s.size
      all_goals
        try have hc := HEX.out hlt
        cases hw : wordB X with
        | false =>
          obtain ⟨q1, q2, q3⟩ := wordB_no hw
          rw [hw] at HW
          clear hw
          go_wp2_with (first
            | (go_at_call 78; refine (letter_any _ _).mono ?_; rw [hc]; rintro e w' ⟨rfl, rfl⟩)
            | (go_at_call 74; refine (fail_any _ _ _).mono ?_; rintro e w' ⟨rfl, hb'⟩; have bx := (Box.laid w _ _).below hb' (by simp); obtain ⟨t0, t1, t2, t3, t4, t5⟩ := box6 bx; obtain ⟨f0, f1, f2, f3, f4, f5⟩ := free6 bx))
          refine bodyPost_ret (v := (noX k 4).val) (by simp [results, Tryz.results79, go_sem, Lx.val, noX, t0, t1, t2, t3, t4, t5]) rfl ⟨?_, ?_⟩
          · rw [HW.out]
          · exact below_six (Nat.le_refl _) (((Below.refl _ _).alloc (Nat.le_refl _) _).trans (hb'.mono (by simp))) _ _ _ _ _ _
        | true =>
          rw [hw] at HW
          have HWW := Lib.hid hw
          clear hw
          rcases wordB_yes HWW.out with q1 | ⟨q1, q2⟩ | ⟨q1, q2, q3⟩
          all_goals
            go_wp2_with (first
              | (go_at_call 78; refine (letter_any _ _).mono ?_; rw [hc]; rintro e w' ⟨rfl, rfl⟩)
              | (go_at_call 76; refine (found_any _ _ _ _ _ _ _).mono ?_; rintro e w' ⟨rfl, hb'⟩; have bx := (Box.laid w _ _).below hb' (by simp); obtain ⟨t0, t1, t2, t3, t4, t5⟩ := box6 bx; obtain ⟨f0, f1, f2, f3, f4, f5⟩ := free6 bx))
            refine bodyPost_ret (v := (okX 2 k j b0.toNat 0 ⟨#[]⟩).val) (by simp [results, Tryz.results79, go_sem, Lx.val, okX, t0, t1, t2, t3, t4, t5]) rfl ⟨?_, ?_⟩
            · rw [HW.out]
            · exact below_six (Nat.le_refl _) (((Below.refl _ _).alloc (Nat.le_refl _) _).trans (hb'.mono (by simp))) _ _ _ _ _ _
end Go.Proofs.YtmfjpcmbdgbjjaaGreatDoor
