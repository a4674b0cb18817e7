import Derived.Test.YtoleoimmpggldaaGreatDoorRows
import Derived.Test.YtoleoimmpggldaaGreatDoorQB
import Derived.Test.YtoleoimmpggldaaGreatDoorQA
import Derived.WalkKit
import Derived.Lib.Hide
import Derived.WalkSpells
import Derived.WalkLawsBesides
import Derived.Deep.RegionHeld3
import Derived.Deep.Light
import Derived.Lib.Strings
set_option linter.unusedVariables false
set_option linter.unusedSectionVars false
set_option linter.unusedSimpArgs false
set_option maxHeartbeats 1000000
namespace Go.Proofs.YtoleoimmpggldaaGreatDoor
open Go.RowKit
theorem blank_any (b : UInt8) (w : World) : Calls Tryz.prog 64 #[.int .u8 b.toNat] w fun e w' => e = .returned (.bool (blankB b)) ∧ w = w' := by
 have hb := UInt8.toNat_lt b;unfold blankB;generalize b.toNat = n at *
 go_enter Tryz.func64, Tryz.ntmps64
 go_wp2
 all_goals go_ret
 all_goals exact ⟨ret_bool (by (try simp only [beq_iff_eq, bF, decide_eq_true_eq, decide_eq_false_iff_not, ne_eq] at *); rw [Bool.eq_iff_iff]; first | (simp; omega) | (simp; done) | omega), rfl⟩
theorem rblank_any (b : UInt8) (w : World) : Calls Tryz.prog 56 #[.int .u8 b.toNat] w fun e w' => e = .returned (.bool (blankB b)) ∧ w = w' := by
 have hb := UInt8.toNat_lt b;unfold blankB;generalize b.toNat = n at *
 go_enter Tryz.func56, Tryz.ntmps56
 go_wp2
 all_goals go_ret
 all_goals exact ⟨ret_bool (by (try simp only [beq_iff_eq, bF, decide_eq_true_eq, decide_eq_false_iff_not, ne_eq] at *); rw [Bool.eq_iff_iff]; first | (simp; omega) | (simp; done) | omega), rfl⟩
theorem sign_any (b : UInt8) (w : World) : Calls Tryz.prog 90 #[.int .u8 b.toNat] w fun e w' => e = .returned (.bool (signB b)) ∧ w = w' := by
 have hb := UInt8.toNat_lt b;unfold signB;generalize b.toNat = n at *
 go_enter Tryz.func90, Tryz.ntmps90
 go_wp2
 all_goals go_ret
 all_goals exact ⟨ret_bool (by (try simp only [beq_iff_eq, bF, decide_eq_true_eq, decide_eq_false_iff_not, ne_eq] at *); rw [Bool.eq_iff_iff]; first | (simp; omega) | (simp; done) | omega), rfl⟩
theorem letter_any (b : UInt8) (w : World) : Calls Tryz.prog 91 #[.int .u8 b.toNat] w fun e w' => e = .returned (.bool (letB b)) ∧ w = w' := by
 have hb := UInt8.toNat_lt b;unfold letB;generalize b.toNat = n at *
 go_enter Tryz.func91, Tryz.ntmps91
 go_wp2
 all_goals go_ret
 all_goals exact ⟨ret_bool (by (try simp only [beq_iff_eq, bF, decide_eq_true_eq, decide_eq_false_iff_not, ne_eq] at *); rw [Bool.eq_iff_iff]; first | (simp; omega) | (simp; done) | omega), rfl⟩
theorem digit_any (b : UInt8) (w : World) : Calls Tryz.prog 93 #[.int .u8 b.toNat] w fun e w' => e = .returned (.bool (digB b)) ∧ w = w' := by
 have hb := UInt8.toNat_lt b;unfold digB;generalize b.toNat = n at *
 go_enter Tryz.func93, Tryz.ntmps93
 go_wp2
 all_goals go_ret
 all_goals exact ⟨ret_bool (by (try simp only [beq_iff_eq, bF, decide_eq_true_eq, decide_eq_false_iff_not, ne_eq] at *); rw [Bool.eq_iff_iff]; first | (simp; omega) | (simp; done) | omega), rfl⟩
def hexV : Option Nat → Value
 | some d => .tuple #[ι d, .bool true]
 | none => .tuple #[ι 0, .bool false]
theorem hex_any (b : UInt8) (w : World) : Calls Tryz.prog 132 #[.int .u8 b.toNat] w fun e w' => e = .returned (hexV (hexP b)) ∧ w = w' := by
 have hb := UInt8.toNat_lt b;have hd := hI (fun W => digit_any b W);unfold hexP;unfold digB at hd;generalize b.toNat = n at *
 by_cases h1 : 48 ≤ n ∧ n ≤ 57
 · rw [decide_eq_true h1] at hd;rw [if_pos h1]
   go_enter Tryz.func132, Tryz.ntmps132
   go_wp2_with (go_at_call 93; refine (hd.out _).mono ?_; rintro e w' ⟨rfl, rfl⟩)
   go_ret2
   exact ⟨by unfold hexV; simp; omega, rfl⟩
 · rw [decide_eq_false h1] at hd;rw [if_neg h1]
   by_cases h2 : 97 ≤ n ∧ n ≤ 102
   · rw [if_pos h2]
     go_enter Tryz.func132, Tryz.ntmps132
     go_wp2_with (go_at_call 93; refine (hd.out _).mono ?_; rintro e w' ⟨rfl, rfl⟩)
     all_goals first | omega | skip
     all_goals go_ret2
     all_goals exact ⟨by unfold hexV; simp; omega, rfl⟩
   · rw [if_neg h2]
     by_cases h3 : 65 ≤ n ∧ n ≤ 70
     · rw [if_pos h3]
       go_enter Tryz.func132, Tryz.ntmps132
       go_wp2_with (go_at_call 93; refine (hd.out _).mono ?_; rintro e w' ⟨rfl, rfl⟩)
       all_goals first | omega | skip
       all_goals go_ret2
       all_goals exact ⟨by unfold hexV; simp; omega, rfl⟩
     · rw [if_neg h3]
       go_enter Tryz.func132, Tryz.ntmps132
       go_wp2_with (go_at_call 93; refine (hd.out _).mono ?_; rintro e w' ⟨rfl, rfl⟩)
       all_goals first | omega | skip
       all_goals go_ret2
       all_goals exact ⟨rfl, rfl⟩
theorem rhex_any (b : UInt8) (w : World) : Calls Tryz.prog 115 #[.int .u8 b.toNat] w fun e w' => e = .returned (hexV (hexP b)) ∧ w = w' := by
 have hb := UInt8.toNat_lt b;unfold hexP;generalize b.toNat = n at *
 by_cases h1 : 48 ≤ n ∧ n ≤ 57
 · rw [if_pos h1]
   go_enter Tryz.func115, Tryz.ntmps115
   go_wp2
   all_goals first | omega | skip
   all_goals go_ret2
   all_goals exact ⟨by unfold hexV; simp; omega, rfl⟩
 · rw [if_neg h1]
   by_cases h2 : 97 ≤ n ∧ n ≤ 102
   · rw [if_pos h2]
     go_enter Tryz.func115, Tryz.ntmps115
     go_wp2
     all_goals first | omega | skip
     all_goals go_ret2
     all_goals exact ⟨by unfold hexV; simp; omega, rfl⟩
   · rw [if_neg h2]
     by_cases h3 : 65 ≤ n ∧ n ≤ 70
     · rw [if_pos h3]
       go_enter Tryz.func115, Tryz.ntmps115
       go_wp2
       all_goals first | omega | skip
       all_goals go_ret2
       all_goals exact ⟨by unfold hexV; simp; omega, rfl⟩
     · rw [if_neg h3]
       go_enter Tryz.func115, Tryz.ntmps115
       go_wp2
       all_goals first | omega | skip
       all_goals go_ret2
       all_goals exact ⟨rfl, rfl⟩
theorem possible_any (a b : Nat) (low : Bool) (ha : a ≤ 1114111) (hb : b ≤ 1114111) (w : World) : Calls Tryz.prog 133 #[ι a, ι b, .bool low] w fun e w' => e = .returned (.bool (possP a b low)) ∧ w = w' := by
 unfold possP;obtain ⟨x, hx⟩ : ∃ x : Int, x = (a : Int) := ⟨_, rfl⟩
 obtain ⟨y, hy⟩ : ∃ y : Int, y = (b : Int) := ⟨_, rfl⟩
 rw [← hx, ← hy];have HX := hI hx;have HY := hI hy;clear ha hb hx hy
 cases low
 · go_enter Tryz.func133, Tryz.ntmps133
   go_wp2
   all_goals go_ret
   all_goals exact ⟨ret_bool (by have h1 := HX.out; have h2 := HY.out; rw [Bool.eq_iff_iff]; first | (simp; omega) | (simp; done) | omega), rfl⟩
 · go_enter Tryz.func133, Tryz.ntmps133
   go_wp2
   all_goals go_ret
   all_goals exact ⟨ret_bool (by have h1 := HX.out; have h2 := HY.out; rw [Bool.eq_iff_iff]; first | (simp; omega) | (simp; done) | omega), rfl⟩
theorem fail_any (p e : Int) (w : World) : Calls Tryz.prog 88 #[ι p, ι e] w fun x w' => x = .returned (.tuple #[.agg #[ι 0, ι 0, ι 0, .int .u8 0, ι 0, eS], ι p, ι e]) ∧ Below w.heap.size w w' := by
 go_enter Tryz.func88, Tryz.ntmps88
 go_wp2_with fail;refine bodyPost_ret (v := .tuple #[.agg #[ι 0, ι 0, ι 0, .int .u8 0, ι 0, eS], ι p, ι e]) (by simp [results, Tryz.results88, go_sem]) rfl ⟨rfl, ?_⟩;exact (Below.refl _ _).alloc (Nat.le_refl _) _
theorem found_any (k f t b i : Int) (s : ByteArray) (w : World) : Calls Tryz.prog 89 #[.agg #[ι k, ι f, ι t, .int .u8 b, ι i, .string s]] w fun x w' => x = .returned (.tuple #[.agg #[ι k, ι f, ι t, .int .u8 b, ι i, .string s], ι t, ι 0]) ∧ Below w.heap.size w w' := by
 go_enter Tryz.func89, Tryz.ntmps89
 go_wp2_with fail
 go_region
 go_wp2_with fail;refine bodyPost_ret (v := .tuple #[.agg #[ι k, ι f, ι t, .int .u8 b, ι i, .string s], ι t, ι 0]) (by simp [results, Tryz.results89, go_sem]) rfl ⟨rfl, ?_⟩;exact (((Below.refl _ _).alloc (Nat.le_refl _) _).alloc (by simp) _).drew
end Go.Proofs.YtoleoimmpggldaaGreatDoor
namespace Go.Proofs.YtoleoimmpggldaaGreatDoor
open Go.RowKit
theorem at_list {s : ByteArray} {k : Nat} {b : UInt8} (h : k < s.size) (hb : s[k] = b) : s.data.toList[k]? = some b := by
 have h2 : k < s.data.toList.length := by simpa using h
 rw [List.getElem?_eq_getElem h2, ← hb]; rfl
theorem span_inq {p : UInt8 → Bool} {l : List UInt8} {k : Nat} {b : UInt8} (h : l[k]? = some b) (hp : p b = true) : span p l k = span p l (k + 1) := by
 obtain ⟨h1, rfl⟩ := gE.1 h;exact span_in h1 hp
theorem span_noq {p : UInt8 → Bool} {l : List UInt8} {k : Nat} {b : UInt8} (h : l[k]? = some b) (hp : p b = false) : span p l k = k := by
 obtain ⟨h1, rfl⟩ := gE.1 h;exact span_no h1 hp
theorem bytq {l : List UInt8} {k : Nat} {b : UInt8} (h : l[k]? = some b) : byt l k = b.toNat := by unfold byt; rw [h]; rfl
theorem rletter_in (s : ByteArray) (k : Nat) (hs : s.size ≤ maxLen) (h : k < s.size) (b : UInt8) (hb : s[k] = b) (w : World) : Calls Tryz.prog 59 #[.string s, ι k] w fun e w' => e = .returned (.bool (letB b)) ∧ w = w' := by
 unfold maxLen at hs;have hb2 := UInt8.toNat_lt b;unfold letB
 go_enter Tryz.func59, Tryz.ntmps59
 go_wp2
 all_goals go_ret
 all_goals exact ⟨ret_bool (by (try simp only [beq_iff_eq, bF, decide_eq_true_eq, decide_eq_false_iff_not, ne_eq] at *); rw [Bool.eq_iff_iff]; first | (simp; omega) | (simp; done) | omega), rfl⟩
theorem rletter_end (s : ByteArray) (k : Nat) (hs : s.size ≤ maxLen) (h : ¬ k < s.size) (w : World) : Calls Tryz.prog 59 #[.string s, ι k] w fun e w' => e = .returned (.bool false) ∧ w = w' := by
 unfold maxLen at hs
 go_enter Tryz.func59, Tryz.ntmps59
 go_wp2
 all_goals go_ret
 all_goals exact ⟨rfl, rfl⟩
theorem rdigit_in (s : ByteArray) (k : Nat) (hs : s.size ≤ maxLen) (h : k < s.size) (b : UInt8) (hb : s[k] = b) (w : World) : Calls Tryz.prog 61 #[.string s, ι k] w fun e w' => e = .returned (.bool (digB b)) ∧ w = w' := by
 unfold maxLen at hs;have hb2 := UInt8.toNat_lt b;unfold digB
 go_enter Tryz.func61, Tryz.ntmps61
 go_wp2
 all_goals go_ret
 all_goals exact ⟨ret_bool (by (try simp only [beq_iff_eq, bF, decide_eq_true_eq, decide_eq_false_iff_not, ne_eq] at *); rw [Bool.eq_iff_iff]; first | (simp; omega) | (simp; done) | omega), rfl⟩
theorem rdigit_end (s : ByteArray) (k : Nat) (hs : s.size ≤ maxLen) (h : ¬ k < s.size) (w : World) : Calls Tryz.prog 61 #[.string s, ι k] w fun e w' => e = .returned (.bool false) ∧ w = w' := by
 unfold maxLen at hs
 go_enter Tryz.func61, Tryz.ntmps61
 go_wp2
 all_goals go_ret
 all_goals exact ⟨rfl, rfl⟩
theorem skip_any (s : ByteArray) (k : Nat) (hs : s.size ≤ maxLen) (hk : k ≤ s.size) (w : World) : Calls Tryz.prog 40 #[.string s, ι k] w fun e w' => e = .returned (ι (span blankB s.data.toList k : Nat)) ∧ w = w' := by
 unfold maxLen at hs;have hl : s.data.toList.length = s.size := by simp
 have HL := hI hl;clear hl;have hq1 : decide ((k : Int) < 0) = false := by simp
 have hq2 : decide ((s.size : Int) < (k : Int)) = false := by simp; omega
 have hq3 : decide (s.size < k) = false := by simp; omega
 go_enter Tryz.func40, Tryz.ntmps40
 go_wp2
 go_loop [1] (fun t => ∃ j : Nat, j ≤ s.size ∧ t = ι j ∧ span blankB s.data.toList k = span blankB s.data.toList j) (fun t => s.size - (intOf t).toNat)
 case atStart => exact ⟨k, hk, rfl, rfl⟩
 case round =>
  obtain ⟨j, hj, rfl, hsp⟩ := hrel;have HS := hI hsp;clear hsp
  by_cases hlt : j < s.size
  · obtain ⟨b, hb⟩ : ∃ b, s[j] = b := ⟨_, rfl⟩
    have H3 := hI (at_list hlt hb)
    cases hc : blankB b with
    | true =>
     have HN := hI (span_inq H3.out hc)
     go_wp2_with (go_at_call 64; refine (blank_any _ _).mono ?_; rw [hc]; rintro e w' ⟨rfl, rfl⟩)
     go_round
     case rel => exact ⟨j + 1, by omega, by go_num, HS.out.trans HN.out⟩
     case measure => simp [intOf]; omega
    | false =>
     have HN := hI (span_noq H3.out hc)
     go_wp2_with (go_at_call 64; refine (blank_any _ _).mono ?_; rw [hc]; rintro e w' ⟨rfl, rfl⟩)
     go_ret
     exact ⟨ret_int (by rw [HS.out, HN.out]), rfl⟩
  · have HN := hI (span_end (p := blankB) (l := s.data.toList) (k := j) (by rw [HL.out]; omega));have hje : j = s.size := by omega
    go_wp2
    all_goals go_ret
    all_goals exact ⟨ret_int (by rw [HS.out, HN.out]; (try omega)), rfl⟩
theorem rskip_any (s : ByteArray) (k : Nat) (hs : s.size ≤ maxLen) (hk : k ≤ s.size) (w : World) : Calls Tryz.prog 32 #[.string s, ι k] w fun e w' => e = .returned (ι (span blankB s.data.toList k : Nat)) ∧ w = w' := by
 unfold maxLen at hs;have hl : s.data.toList.length = s.size := by simp
 have HL := hI hl;clear hl;have hq1 : decide ((k : Int) < 0) = false := by simp
 have hq2 : decide ((s.size : Int) < (k : Int)) = false := by simp; omega
 have hq3 : decide (s.size < k) = false := by simp; omega
 go_enter Tryz.func32, Tryz.ntmps32
 go_wp2
 go_loop [1] (fun t => ∃ j : Nat, j ≤ s.size ∧ t = ι j ∧ span blankB s.data.toList k = span blankB s.data.toList j) (fun t => s.size - (intOf t).toNat)
 case atStart => exact ⟨k, hk, rfl, rfl⟩
 case round =>
  obtain ⟨j, hj, rfl, hsp⟩ := hrel;have HS := hI hsp;clear hsp
  by_cases hlt : j < s.size
  · obtain ⟨b, hb⟩ : ∃ b, s[j] = b := ⟨_, rfl⟩
    have H3 := hI (at_list hlt hb)
    cases hc : blankB b with
    | true =>
     have HN := hI (span_inq H3.out hc)
     go_wp2_with (go_at_call 56; refine (rblank_any _ _).mono ?_; rw [hc]; rintro e w' ⟨rfl, rfl⟩)
     go_round
     case rel => exact ⟨j + 1, by omega, by go_num, HS.out.trans HN.out⟩
     case measure => simp [intOf]; omega
    | false =>
     have HN := hI (span_noq H3.out hc)
     go_wp2_with (go_at_call 56; refine (rblank_any _ _).mono ?_; rw [hc]; rintro e w' ⟨rfl, rfl⟩)
     go_ret
     exact ⟨ret_int (by rw [HS.out, HN.out]), rfl⟩
  · have HN := hI (span_end (p := blankB) (l := s.data.toList) (k := j) (by rw [HL.out]; omega));have hje : j = s.size := by omega
    go_wp2
    all_goals go_ret
    all_goals exact ⟨ret_int (by rw [HS.out, HN.out]; (try omega)), rfl⟩
def atB (p : UInt8 → Bool) (l : List UInt8) (j : Nat) : Bool := match l[j]? with
 | some b => p b
 | none => false
theorem atB_in {p : UInt8 → Bool} {l : List UInt8} {j : Nat} (h : atB p l j = true) : span p l j = span p l (j + 1) ∧ j < l.length := by
 unfold atB at h
 cases hq : l[j]? with
 | none => rw [hq] at h; cases h
 | some b =>
  rw [hq] at h;exact ⟨span_inq hq h, (gE.1 hq).1⟩
theorem atB_out {p : UInt8 → Bool} {l : List UInt8} {j : Nat} (h : atB p l j = false) : span p l j = j := by
 unfold atB at h
 cases hq : l[j]? with
 | none => exact span_end (List.getElem?_eq_none_iff.1 hq)
 | some b =>
  rw [hq] at h;exact span_noq hq h
theorem rletter_any (s : ByteArray) (k : Nat) (hs : s.size ≤ maxLen) (w : World) : Calls Tryz.prog 59 #[.string s, ι k] w fun e w' => e = .returned (.bool (atB letB s.data.toList k)) ∧ w = w' := by
 by_cases h : k < s.size
 · unfold atB;rw [at_list h rfl];exact rletter_in s k hs h _ rfl w
 · unfold atB;rw [List.getElem?_eq_none (by simp; omega)];exact rletter_end s k hs h w
theorem rdigit_any (s : ByteArray) (k : Nat) (hs : s.size ≤ maxLen) (w : World) : Calls Tryz.prog 61 #[.string s, ι k] w fun e w' => e = .returned (.bool (atB digB s.data.toList k)) ∧ w = w' := by
 by_cases h : k < s.size
 · unfold atB;rw [at_list h rfl];exact rdigit_in s k hs h _ rfl w
 · unfold atB;rw [List.getElem?_eq_none (by simp; omega)];exact rdigit_end s k hs h w
end Go.Proofs.YtoleoimmpggldaaGreatDoor
namespace Go.Proofs.YtoleoimmpggldaaGreatDoor
open Go.RowKit
def LexPost (x : Lx) (w : World) (e : Ending) (w' : World) : Prop := e = .returned x.val ∧ Below w.heap.size w w'
theorem box6 {w : World} {g : Nat} {t : TypeId} {x0 x1 x2 x3 x4 x5 : Value} (h : Box w g t #[x0, x1, x2, x3, x4, x5]) : w.cell? ⟨g, 0, none⟩ = some x0 ∧ w.cell? ⟨g, 1, none⟩ = some x1 ∧ w.cell? ⟨g, 2, none⟩ = some x2 ∧ w.cell? ⟨g, 3, none⟩ = some x3 ∧ w.cell? ⟨g, 4, none⟩ = some x4 ∧ w.cell? ⟨g, 5, none⟩ = some x5 :=
 ⟨h.cell rfl, h.cell rfl, h.cell rfl, h.cell rfl, h.cell rfl, h.cell rfl⟩
theorem free6 {w : World} {g : Nat} {t : TypeId} {x0 x1 x2 x3 x4 x5 : Value} (h : Box w g t #[x0, x1, x2, x3, x4, x5]) : w.frozen? ⟨g, 0, none⟩ = false ∧ w.frozen? ⟨g, 1, none⟩ = false ∧ w.frozen? ⟨g, 2, none⟩ = false ∧ w.frozen? ⟨g, 3, none⟩ = false ∧ w.frozen? ⟨g, 4, none⟩ = false ∧ w.frozen? ⟨g, 5, none⟩ = false :=
 ⟨h.free 0, h.free 1, h.free 2, h.free 3, h.free 4, h.free 5⟩
theorem ext_sub (s : ByteArray) (i j : Nat) : (s.extract i j).toList = sub s.data.toList i j := by
 rw [Lib.toList_data];obtain ⟨⟨l⟩⟩ := s;rw [ByteArray.extract_mk];unfold sub
 simp
theorem below_six {w X : World} {B g : Nat} (hg : B ≤ g) (h : Below B w X) (u0 u1 u2 u3 u4 u5 : Value) : Below B w ((((((X.setCell ⟨g, 0, none⟩ u0).setCell ⟨g, 1, none⟩ u1).setCell ⟨g, 2, none⟩ u2).setCell ⟨g, 3, none⟩ u3).setCell ⟨g, 4, none⟩ u4).setCell ⟨g, 5, none⟩ u5) :=
 (((((h.setCell hg _).setCell hg _).setCell hg _).setCell hg _).setCell hg _).setCell hg _
theorem put6 {w : World} {g : Nat} {t : TypeId} {x0 x1 x2 x3 x4 x5 : Value} (h : Box w g t #[x0, x1, x2, x3, x4, x5]) (u0 u1 u2 u3 u4 u5 : Value) :
 Box ((((((w.setCell ⟨g, 0, none⟩ u0).setCell ⟨g, 1, none⟩ u1).setCell ⟨g, 2, none⟩ u2).setCell ⟨g, 3, none⟩ u3).setCell ⟨g, 4, none⟩ u4).setCell ⟨g, 5, none⟩ u5) g t #[u0, u1, u2, u3, u4, u5] :=
 (((((h.put 0 u0).put 1 u1).put 2 u2).put 3 u3).put 4 u4).put 5 u5
theorem tok_ret {F : Func} {a b c : Nat} {Post : Ending → World → Prop} {A : Act} {X : World} {g : Nat} {x0 x1 x2 x3 x4 x5 p e : Value} (hr : F.results = #[.cell a 67, .tmp b, .tmp c])
 (ha : A.tmps[a]?.getD undef = .pointer (some ⟨g, 0, none⟩)) (hb : A.tmps[b]?.getD undef = p) (hc : A.tmps[c]?.getD undef = e) (hd : A.defers = []) (bx : Box X g 67 #[x0, x1, x2, x3, x4, x5])
 (h : Post (.returned (.tuple #[.agg #[x0, x1, x2, x3, x4, x5], p, e])) X) : bodyPost Tryz.prog F Post Exit.ret A X := by
 obtain ⟨t0, t1, t2, t3, t4, t5⟩ := box6 bx;refine bodyPost_ret (v := .tuple #[.agg #[x0, x1, x2, x3, x4, x5], p, e]) ?_ hd h;simp [results, hr, go_sem, ha, hb, hc, t0, t1, t2, t3, t4, t5]
theorem lex_ret {F : Func} {a b c : Nat} {x : Lx} {w : World} {A : Act} {X : World} {g : Nat} (hr : F.results = #[.cell a 67, .tmp b, .tmp c])
 (ha : A.tmps[a]?.getD undef = .pointer (some ⟨g, 0, none⟩)) (hb : A.tmps[b]?.getD undef = ι x.p) (hc : A.tmps[c]?.getD undef = ι x.e) (hd : A.defers = [])
 (bx : Box X g 67 #[ι x.k, ι x.f, ι x.t, .int .u8 x.b, ι x.i, .string x.s])
 (h : Below w.heap.size w X) : bodyPost Tryz.prog F (LexPost x w) Exit.ret A X := tok_ret hr ha hb hc hd bx ⟨rfl, h⟩
theorem wordB_no {X : List UInt8} (h : wordB X = false) : (X == [110, 117, 108, 108]) = false ∧ (X == [116, 114, 117, 101]) = false ∧ (X == [102, 97, 108, 115, 101]) = false := by
 unfold wordB at h;simp only [Bool.or_eq_false_iff] at h;exact ⟨h.1.1, h.1.2, h.2⟩
theorem wordB_yes {X : List UInt8} (h : wordB X = true) : (X == [110, 117, 108, 108]) = true ∨ ((X == [110, 117, 108, 108]) = false ∧ (X == [116, 114, 117, 101]) = true) ∨ ((X == [110, 117, 108, 108]) = false ∧ (X == [116, 114, 117, 101]) = false ∧ (X == [102, 97, 108, 115, 101]) = true) := by
 unfold wordB at h
 cases q1 : (X == [110, 117, 108, 108])
 · cases q2 : (X == [116, 114, 117, 101])
   · rw [q1, q2] at h;exact .inr (.inr ⟨rfl, rfl, by simpa using h⟩)
   · exact .inr (.inl ⟨rfl, rfl⟩)
 · exact .inl rfl
theorem word_any (s : ByteArray) (k : Nat) (hs : s.size ≤ maxLen) (hk : k < s.size) (w : World) : Calls Tryz.prog 92 #[.string s, ι k] w (LexPost (wordP s.data.toList k) w) := by
 unfold maxLen at hs;have hl : s.data.toList.length = s.size := by simp
 have HL := hI hl;clear hl
 go_enter Tryz.func92, Tryz.ntmps92
 go_wp2
 go_loop [7] (fun t => ∃ j : Nat, k ≤ j ∧ j ≤ s.size ∧ t = ι j ∧ span letB s.data.toList k = span letB s.data.toList j) (fun t => s.size - (intOf t).toNat)
 case atStart => exact ⟨k, Nat.le_refl _, by omega, rfl, rfl⟩
 case round =>
  obtain ⟨j, hkj, hj, rfl, hsp⟩ := hrel;have HS := hI hsp;clear hsp
  by_cases hgo : ∃ b, s.data.toList[j]? = some b ∧ letB b = true
  · obtain ⟨b, H3, hc⟩ := hgo;have HN := hI (span_inq H3 hc);have hlt : j < s.size := by have := (gE.1 H3).1; rw [HL.out] at this; exact this
    have hb : s[j] = b := by have := (gE.1 H3).2; rw [← this]; rfl
    clear H3
    go_wp2_with (go_at_call 91; refine (letter_any _ _).mono ?_; rw [hc]; rintro e w' ⟨rfl, rfl⟩)
    go_round
    case rel => exact ⟨j + 1, by omega, by omega, by go_num, HS.out.trans HN.out⟩
    case measure => simp [intOf]; omega
  · have HE : Hid (span letB s.data.toList k = j) := hI (by
     rw [HS.out]
     by_cases hlt : j < s.size
     · have h3 := at_list hlt rfl;exact span_noq h3 (by cases h : letB s[j] with | false => rfl | true => exact absurd ⟨_, h3, h⟩ hgo)
     · exact span_end (by rw [HL.out]; omega))
    have HX := hI (ext_sub s k j);have HW : Hid (wordP s.data.toList k = match wordB (sub s.data.toList k j) with | true => okX 2 k j s[k].toNat 0 ⟨#[]⟩ | false => noX k 4) := hI (by
     unfold wordP;rw [HE.out, bytq (at_list hk rfl)]; rfl)
    obtain ⟨X, hX⟩ : ∃ X, (s.extract k j).toList = X := ⟨_, rfl⟩
    rw [← HX.out, hX] at HW;obtain ⟨b0, hb0⟩ : ∃ b0, s[k] = b0 := ⟨_, rfl⟩
    rw [hb0] at HW;have hexit : ∀ h : j < s.size, letB s[j] = false := fun h => by
     cases hc : letB s[j] with
     | false => rfl
     | true => exact absurd ⟨_, at_list h rfl, hc⟩ hgo
    have HEX := hI hexit;clear hgo hexit
    by_cases hlt : j < s.size
    all_goals
     try have hc := HEX.out hlt
     cases hw : wordB X with
     | false =>
      obtain ⟨q1, q2, q3⟩ := wordB_no hw;rw [hw] at HW;clear hw
      go_wp2_with (first
       | (go_at_call 91; refine (letter_any _ _).mono ?_; rw [hc]; rintro e w' ⟨rfl, rfl⟩)
       | (go_at_call 88; refine (fail_any _ _ _).mono ?_; rintro e w' ⟨rfl, hb'⟩; have bx := (Box.laid w _ _).below hb' (by simp); obtain ⟨t0, t1, t2, t3, t4, t5⟩ := box6 bx; obtain ⟨f0, f1, f2, f3, f4, f5⟩ := free6 bx))
      refine bodyPost_ret (v := (noX k 4).val) (by simp [results, Tryz.results92, go_sem, Lx.val, noX, t0, t1, t2, t3, t4, t5]) rfl ⟨?_, ?_⟩
      · rw [HW.out]
      · exact below_six (Nat.le_refl _) (((Below.refl _ _).alloc (Nat.le_refl _) _).trans (hb'.mono (by simp))) _ _ _ _ _ _
     | true =>
      rw [hw] at HW;have HWW := hI hw;clear hw;rcases wordB_yes HWW.out with q1 | ⟨q1, q2⟩ | ⟨q1, q2, q3⟩
      all_goals
       go_wp2_with (first
        | (go_at_call 91; refine (letter_any _ _).mono ?_; rw [hc]; rintro e w' ⟨rfl, rfl⟩)
        | (go_at_call 89; refine (found_any _ _ _ _ _ _ _).mono ?_; rintro e w' ⟨rfl, hb'⟩; have bx := (Box.laid w _ _).below hb' (by simp); obtain ⟨t0, t1, t2, t3, t4, t5⟩ := box6 bx; obtain ⟨f0, f1, f2, f3, f4, f5⟩ := free6 bx))
       refine bodyPost_ret (v := (okX 2 k j b0.toNat 0 ⟨#[]⟩).val) (by simp [results, Tryz.results92, go_sem, Lx.val, okX, t0, t1, t2, t3, t4, t5]) rfl ⟨?_, ?_⟩
       · rw [HW.out]
       · exact below_six (Nat.le_refl _) (((Below.refl _ _).alloc (Nat.le_refl _) _).trans (hb'.mono (by simp))) _ _ _ _ _ _
theorem rword_any (s : ByteArray) (k : Nat) (hs : s.size ≤ maxLen) (hk : k < s.size) (w : World) : Calls Tryz.prog 60 #[.string s, ι k] w (LexPost (wordP s.data.toList k) w) := by
 have hl : s.data.toList.length = s.size := by simp
 have HL := hI hl;have HLT := hI (fun j W => rletter_any s j hs W);unfold maxLen at hs;clear hl
 go_enter Tryz.func60, Tryz.ntmps60
 go_wp2
 go_loop [7] (fun t => ∃ j : Nat, k ≤ j ∧ j ≤ s.size ∧ t = ι j ∧ span letB s.data.toList k = span letB s.data.toList j) (fun t => s.size - (intOf t).toNat)
 case atStart => exact ⟨k, Nat.le_refl _, by omega, rfl, rfl⟩
 case round =>
  obtain ⟨j, hkj, hj, rfl, hsp⟩ := hrel;have HS := hI hsp;have hc1 := HLT.out j;clear hsp
  cases hc : atB letB s.data.toList j with
  | true =>
   rw [hc] at hc1;obtain ⟨hn, hlt⟩ := atB_in hc;rw [HL.out] at hlt;have HN := hI hn;have HC := hI hc1;clear hn hc hc1
   go_wp2_with (go_at_call 59; refine (HC.out _).mono ?_; rintro e w' ⟨rfl, rfl⟩)
   go_round
   case rel => exact ⟨j + 1, by omega, by omega, by go_num, HS.out.trans HN.out⟩
   case measure => simp [intOf]; omega
  | false =>
   rw [hc] at hc1;have HE : Hid (span letB s.data.toList k = j) := hI (HS.out.trans (atB_out hc));have HX := hI (ext_sub s k j);have HW : Hid (wordP s.data.toList k = match wordB (sub s.data.toList k j) with | true => okX 2 k j s[k].toNat 0 ⟨#[]⟩ | false => noX k 4) := hI (by
    unfold wordP;rw [HE.out, bytq (at_list hk rfl)]; rfl)
   have HC := hI hc1;obtain ⟨X, hX⟩ : ∃ X, (s.extract k j).toList = X := ⟨_, rfl⟩
   rw [← HX.out, hX] at HW;obtain ⟨b0, hb0⟩ : ∃ b0, s[k] = b0 := ⟨_, rfl⟩
   rw [hb0] at HW;clear hc hc1
   cases hw : wordB X with
   | false =>
    obtain ⟨q1, q2, q3⟩ := wordB_no hw;rw [hw] at HW;clear hw
    go_wp2_with (go_at_call 59; refine (HC.out _).mono ?_; rintro e w' ⟨rfl, rfl⟩)
    refine bodyPost_ret (v := (noX k 4).val) (by simp [results, Tryz.results60, go_sem, Lx.val, noX]) rfl ⟨?_, ?_⟩
    · rw [HW.out]
    · exact (Below.refl _ _).alloc (Nat.le_refl _) _
   | true =>
    rw [hw] at HW;have HWW := hI hw;clear hw;rcases wordB_yes HWW.out with q1 | ⟨q1, q2⟩ | ⟨q1, q2, q3⟩
    all_goals
     go_wp2_with (go_at_call 59; refine (HC.out _).mono ?_; rintro e w' ⟨rfl, rfl⟩)
     refine bodyPost_ret (v := (okX 2 k j b0.toNat 0 ⟨#[]⟩).val) (by simp [results, Tryz.results60, go_sem, Lx.val, okX]) rfl ⟨?_, ?_⟩
     · rw [HW.out]
     · exact (Below.refl _ _).alloc (Nat.le_refl _) _
