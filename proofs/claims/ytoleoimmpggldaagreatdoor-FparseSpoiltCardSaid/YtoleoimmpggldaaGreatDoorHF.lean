import Derived.Shelf.Lays
import Derived.Shelf.LaysM
import Derived.Shelf.Strings.Prefix
import Derived.Shelf.Small.Strs
import Derived.Shelf.Strconv.Clone
import Derived.Ground.NamesProg
import Derived.Lib.IndexBytes
import Derived.Test.YtoleoimmpggldaaGreatDoorRows
import Derived.Test.YtoleoimmpggldaaGreatDoorFx
import Derived.Test.YtoleoimmpggldaaGreatDoorHJ
import Derived.Test.YtoleoimmpggldaaGreatDoorQC
set_option linter.unusedVariables false
set_option linter.unusedSectionVars false
set_option linter.unusedSimpArgs false
set_option maxHeartbeats 4000000
set_option maxRecDepth 100000
namespace Go.Proofs
open Go.Shelf Go.RowKit
def Tryz.fl99_ren : Go.Shelf.Ren := ⟨fun | 99 => 74 | 206 => 96 | n => n, fun | 3 => 3 | 4 => 4 | 9 => 9 | n => n, fun | n => n⟩
theorem Tryz.fl99 : Go.Proofs.Lays.n99 Tryz.prog Tryz.fl99_ren := {
 mixed := by kernel_rfl
 f99 := Tryz.func74.trans (congrArg some (by kernel_rfl))
 f206 := Tryz.func96.trans (congrArg some (by kernel_rfl))
 t3 := Tryz.underlying3
 a3 := Tryz.isAgg3
 z3 := Tryz.sizeOf3
 v3 := Tryz.zeroValue3
 t4 := Tryz.underlying4
 a4 := Tryz.isAgg4
 z4 := Tryz.sizeOf4
 v4 := Tryz.zeroValue4
 t9 := Tryz.underlying9
 a9 := Tryz.isAgg9
 z9 := Tryz.sizeOf9
 v9 := Tryz.zeroValue9 }
def Tryz.fl137_ren : Go.Shelf.Ren := ⟨fun | 137 => 65 | 217 => 84 | 266 => 102 | n => n, fun | 3 => 3 | 5 => 5 | 9 => 9 | n => n, fun | n => n⟩
theorem Tryz.fl137 : Go.Proofs.Lays.n137 Tryz.prog Tryz.fl137_ren := {
 mixed := by kernel_rfl
 f137 := Tryz.func65.trans (congrArg some (by kernel_rfl))
 f217 := Tryz.func84.trans (congrArg some (by kernel_rfl))
 f266 := Tryz.func102.trans (congrArg some (by kernel_rfl))
 t3 := Tryz.underlying3
 a3 := Tryz.isAgg3
 z3 := Tryz.sizeOf3
 v3 := Tryz.zeroValue3
 t5 := Tryz.underlying5
 a5 := Tryz.isAgg5
 z5 := Tryz.sizeOf5
 v5 := Tryz.zeroValue5
 t9 := Tryz.underlying9
 a9 := Tryz.isAgg9
 z9 := Tryz.sizeOf9
 v9 := Tryz.zeroValue9 }
def Tryz.fl316_ren : Go.Shelf.Ren := ⟨fun | 316 => 85 | n => n, fun | 0 => 0 | 3 => 3 | 4 => 4 | 9 => 9 | 37 => 93 | 127 => 106 | 5 => 5 | n => n, fun | n => n⟩
theorem Tryz.fl316 : Go.Proofs.LaysM.n316 Tryz.prog Tryz.fl316_ren := {
 mixed := by kernel_rfl
 f316 := Tryz.func85.trans (congrArg some (by kernel_rfl))
 t0 := Tryz.underlying0
 a0 := Tryz.isAgg0
 z0 := Tryz.sizeOf0
 v0 := Tryz.zeroValue0
 t3 := Tryz.underlying3
 a3 := Tryz.isAgg3
 z3 := Tryz.sizeOf3
 v3 := Tryz.zeroValue3
 t4 := Tryz.underlying4
 a4 := Tryz.isAgg4
 z4 := Tryz.sizeOf4
 v4 := Tryz.zeroValue4
 t9 := Tryz.underlying9
 a9 := Tryz.isAgg9
 z9 := Tryz.sizeOf9
 v9 := Tryz.zeroValue9
 t37 := Tryz.underlying93
 a37 := Tryz.isAgg93
 z37 := Tryz.sizeOf93
 v37 := Tryz.zeroValue93
 t127 := Tryz.underlying106
 a127 := Tryz.isAgg106
 z127 := Tryz.sizeOf106
 v127 := Tryz.zeroValue106
 t5 := Tryz.underlying5
 a5 := Tryz.isAgg5
 z5 := Tryz.sizeOf5
 v5 := Tryz.zeroValue5
 i0 := by kernel_rfl
 i3 := by kernel_rfl
 i4 := by kernel_rfl
 i5 := by kernel_rfl
 i9 := by kernel_rfl
 i37 := by kernel_rfl
 i127 := by kernel_rfl }
end Go.Proofs
namespace Go.Proofs.YtoleoimmpggldaaGreatDoor
open Go.RowKit
theorem pre_lib (s p : ByteArray) (w : World) : Calls Tryz.prog 74 #[.string s, .string p] w fun e w' => e = .returned (.bool (Lib.hasPrefix s.data.toList p.data.toList)) ∧ w' = w :=
 Go.Proofs.Any.strings_HasPrefix { Tryz.fl99 with } s p w
theorem index_lib (s : ByteArray) (w : World) : Calls Tryz.prog 65 #[.string s, .int .u8 10] w fun e w' => e = .returned (ι (Lib.indexByte s.data.toList 10)) ∧ w' = w :=
 Go.Proofs.Any.strings_IndexByte { Tryz.fl137 with } s 10 w
theorem clone_lite (s : ByteArray) (w : World) (hs : s.size ≤ 281474976710656) : Calls Tryz.prog 85 #[.string s] w fun e w' => e = .returned (.string s) ∧ Below w.heap.size w w' :=
 Go.Proofs.Any.stringslite_Clone { Tryz.fl316 with } s w hs
theorem clone_lib (s : ByteArray) (w : World) (hs : s.size ≤ 281474976710656) : Calls Tryz.prog 70 #[.string s] w fun e w' => e = .returned (.string s) ∧ Below w.heap.size w w' := by
 have H := hI (clone_lite s w hs)
 go_enter Tryz.func70, Tryz.ntmps70
 go_wp2_with (go_at_call 85; refine H.out.mono ?_; rintro e w' ⟨rfl, hb⟩)
 go_ret
 exact ⟨rfl, hb⟩
end Go.Proofs.YtoleoimmpggldaaGreatDoor
namespace Go.Proofs.YtoleoimmpggldaaGreatDoor
open Go.RowKit
theorem fname_any (b : UInt8) (w : World) : Calls Tryz.prog 66 #[.int .u8 b.toNat] w fun e w' => e = .returned (.bool (nameB b)) ∧ w = w' := by
 have hb := UInt8.toNat_lt b;unfold nameB;generalize b.toNat = n at *
 go_enter Tryz.func66, Tryz.ntmps66
 go_wp2
 all_goals go_ret
 all_goals exact ⟨ret_bool (by (try simp only [beq_iff_eq, bF, decide_eq_true_eq, decide_eq_false_iff_not, ne_eq] at *); rw [Bool.eq_iff_iff]; first | (simp; omega) | (simp; done) | omega), rfl⟩
theorem fdig_any (b : UInt8) (w : World) : Calls Tryz.prog 45 #[.int .u8 b.toNat] w fun e w' => e = .returned (.bool (digB b)) ∧ w = w' := by
 have hb := UInt8.toNat_lt b;unfold digB;generalize b.toNat = n at *
 go_enter Tryz.func45, Tryz.ntmps45
 go_wp2
 all_goals go_ret
 all_goals exact ⟨ret_bool (by (try simp only [beq_iff_eq, bF, decide_eq_true_eq, decide_eq_false_iff_not, ne_eq] at *); rw [Bool.eq_iff_iff]; first | (simp; omega) | (simp; done) | omega), rfl⟩
theorem fbegins_any (s : ByteArray) (k : Nat) (hs : s.size ≤ maxLen) (w : World) : Calls Tryz.prog 42 #[.string s, ι k] w fun e w' => e = .returned (.bool (atF nameB s.data.toList k)) ∧ w = w' := by
 unfold maxLen at hs
 by_cases h : k < s.size
 · obtain ⟨b, hb⟩ : ∃ b, s[k] = b := ⟨_, rfl⟩
   rw [atF_at (at_list h hb)];have HN := hI (fun W => fname_any b W);generalize nameB b = x at HN ⊢
   go_enter Tryz.func42, Tryz.ntmps42
   go_wp2_with (go_at_call 66; refine (HN.out _).mono ?_; rintro e w' ⟨rfl, rfl⟩)
   all_goals go_ret
   all_goals exact ⟨rfl, rfl⟩
 · rw [atF_end (by simp; omega)]
   go_enter Tryz.func42, Tryz.ntmps42
   go_wp2
   all_goals go_ret
   all_goals exact ⟨rfl, rfl⟩
theorem nmd_split (b : UInt8) : nmdB b = (nameB b || digB b) := rfl
theorem fend_any (s : ByteArray) (k : Nat) (hs : s.size ≤ maxLen) (hk : k ≤ s.size) (w : World) : Calls Tryz.prog 68 #[.string s, ι k] w fun e w' => e = .returned (ι (span nmdB s.data.toList k : Nat)) ∧ w = w' := by
 unfold maxLen at hs;have hl : s.data.toList.length = s.size := by simp
 have HL := hI hl;clear hl
 go_enter Tryz.func68, Tryz.ntmps68
 go_wp2
 go_loop [1] (fun t => ∃ j : Nat, j ≤ s.size ∧ t = ι j ∧ span nmdB s.data.toList k = span nmdB s.data.toList j) (fun t => s.size - (intOf t).toNat)
 case atStart => exact ⟨k, hk, rfl, rfl⟩
 case round =>
  obtain ⟨j, hj, rfl, hsp⟩ := hrel;have HS := hI hsp;clear hsp
  by_cases hlt : j < s.size
  · obtain ⟨b, hb⟩ : ∃ b, s[j] = b := ⟨_, rfl⟩
    have H3 := hI (at_list hlt hb);have HA := hI (fun W => fname_any b W);have HB := hI (fun W => fdig_any b W)
    cases h1 : nameB b with
    | true =>
     have HN := hI (span_inq H3.out (show nmdB b = true by rw [nmd_split, h1]; rfl));rw [h1] at HA;clear h1
     go_wp2_with (go_at_call 66; refine (HA.out _).mono ?_; rintro e w' ⟨rfl, rfl⟩)
     go_round
     case rel => exact ⟨j + 1, by omega, by go_num, HS.out.trans HN.out⟩
     case measure => simp [intOf]; omega
    | false =>
     rw [h1] at HA
     cases h2 : digB b with
     | true =>
      have HN := hI (span_inq H3.out (show nmdB b = true by rw [nmd_split, h1, h2]; rfl));rw [h2] at HB;clear h1 h2
      go_wp2_with (first
       | (go_at_call 66; refine (HA.out _).mono ?_; rintro e w' ⟨rfl, rfl⟩)
       | (go_at_call 45; refine (HB.out _).mono ?_; rintro e w' ⟨rfl, rfl⟩))
      go_round
      case rel => exact ⟨j + 1, by omega, by go_num, HS.out.trans HN.out⟩
      case measure => simp [intOf]; omega
     | false =>
      have HN := hI (span_noq H3.out (show nmdB b = false by rw [nmd_split, h1, h2]; rfl));rw [h2] at HB;clear h1 h2
      go_wp2_with (first
       | (go_at_call 66; refine (HA.out _).mono ?_; rintro e w' ⟨rfl, rfl⟩)
       | (go_at_call 45; refine (HB.out _).mono ?_; rintro e w' ⟨rfl, rfl⟩))
      go_ret
      exact ⟨ret_int (by rw [HS.out, HN.out]), rfl⟩
  · have HN := hI (span_end (p := nmdB) (l := s.data.toList) (k := j) (by rw [HL.out]; omega));have hje : j = s.size := by omega
    go_wp2
    all_goals go_ret
    all_goals exact ⟨ret_int (by rw [HS.out, HN.out]; (try omega)), rfl⟩
theorem kw_any (s : ByteArray) (w : World) : Calls Tryz.prog 67 #[.string s] w fun e w' => e = .returned (.bool (kwB s.data.toList)) ∧ w = w' := by
 rw [← Lib.toList_data];obtain ⟨X, hX⟩ : ∃ X, s.toList = X := ⟨_, rfl⟩
 rw [hX];unfold kwB
 go_enter Tryz.func67, Tryz.ntmps67
 go_wp2
 all_goals go_ret
 all_goals exact ⟨ret_bool (by simp_all), rfl⟩
end Go.Proofs.YtoleoimmpggldaaGreatDoor
namespace Go.Proofs.YtoleoimmpggldaaGreatDoor
open Go.RowKit
theorem index_line : ∀ l : List UInt8, Lib.indexByte l 10 = if (l.takeWhile nolfB).length < l.length then (((l.takeWhile nolfB).length : Nat) : Int) else -1
 | [] => rfl
 | b :: r => by
  have ih := index_line r;have hle : (r.takeWhile nolfB).length ≤ r.length := (List.takeWhile_sublist _).length_le;rw [Lib.indexByte, ih, List.takeWhile_cons]
  by_cases h : b = 10
  · subst h;rw [if_pos (by rfl), if_neg (show ¬ nolfB 10 = true by decide)]
    simp
  · have h2 : nolfB b = true := by
     unfold nolfB;rw [decide_eq_true_eq];intro h3;exact h (UInt8.toNat_inj.1 h3)
    rw [if_neg (by simpa using h), if_pos h2]
    by_cases h4 : (r.takeWhile nolfB).length < r.length
    · rw [if_pos h4, if_neg (by simp)]
      simp
      omega
    · rw [if_neg h4]
      simp
      omega
theorem line_any (s : ByteArray) (k : Nat) (hs : s.size ≤ maxLen) (hk : k ≤ s.size) (w : World) : Calls Tryz.prog 41 #[.string s, ι k] w fun e w' => e = .returned (ι (span nolfB s.data.toList k : Nat)) ∧ w = w' := by
 unfold maxLen at hs;have hl : s.data.toList.length = s.size := by simp
 have hx := fun W => index_lib (s.extract k s.size) W
 rw [Lib.extract_to_end, index_line, List.length_drop, hl] at hx;unfold span;have hle : ((s.data.toList.drop k).takeWhile nolfB).length ≤ s.size - k := by
  have h := (List.takeWhile_sublist (p := nolfB) (l := s.data.toList.drop k)).length_le;rw [List.length_drop, hl] at h;exact h
 generalize ((s.data.toList.drop k).takeWhile nolfB).length = n at *
 have HX := hI hx;clear hx hl
 by_cases h : n < s.size - k
 · rw [if_pos h] at HX
   go_enter Tryz.func41, Tryz.ntmps41
   go_wp2_with (go_at_call 65; refine (HX.out _).mono ?_; rintro e w' ⟨rfl, rfl⟩)
   all_goals go_ret
   all_goals exact ⟨ret_int (by go_num), rfl⟩
 · rw [if_neg h] at HX
   go_enter Tryz.func41, Tryz.ntmps41
   go_wp2_with (go_at_call 65; refine (HX.out _).mono ?_; rintro e w' ⟨rfl, rfl⟩)
   all_goals go_ret
   all_goals exact ⟨ret_int (by omega), rfl⟩
theorem span_twice (p : UInt8 → Bool) {l : List UInt8} {k : Nat} (hk : k ≤ l.length) : span p l (span p l k) = span p l k := by
 by_cases h : span p l k < l.length
 · exact span_no h (span_stop h)
 · exact span_end (by omega)
def GapAt (l : List UInt8) (k j : Nat) : Prop := gapP l k = gapP l j ∧ span blankB l j = j
theorem GapAt.start {l : List UInt8} {k : Nat} (hk : k ≤ l.length) : GapAt l k (span blankB l k) := ⟨gap_blanks l k, span_twice _ hk⟩
theorem GapAt.next {l : List UInt8} {k j : Nat} {b : UInt8} (h : GapAt l k j) (hb : l[j]? = some b) (h35 : b.toNat = 35) : GapAt l k (span blankB l (span nolfB l j)) ∧ j < span blankB l (span nolfB l j) ∧ span blankB l (span nolfB l j) ≤ l.length := by
 obtain ⟨h1, h2⟩ := gE.1 hb;have h3 : span nolfB l j ≤ l.length := span_le (Nat.le_of_lt h1);have h4 : j < span nolfB l j := by
  rw [span_in h1 (by rw [h2]; unfold nolfB; simp; omega)];exact span_ge _ _ _
 have h5 := span_ge blankB l (span nolfB l j);exact ⟨⟨h.1.trans ((gap_line hb h35).trans (gap_blanks l _)), span_twice _ h3⟩, by omega, span_le h3⟩
theorem GapAt.stop {l : List UInt8} {k j : Nat} {b : UInt8} (h : GapAt l k j) (hb : l[j]? = some b) (h35 : ¬ b.toNat = 35) : gapP l k = j := by
 obtain ⟨h1, h2⟩ := gE.1 hb;refine h.1.trans (gap_stop hb h35 ?_)
 cases hq : blankB b with
 | false => rfl
 | true =>
  have h3 := h.2;rw [span_in h1 (by rw [h2]; exact hq)] at h3;have := span_ge blankB l (j + 1);omega
theorem GapAt.end_ {l : List UInt8} {k j : Nat} (h : GapAt l k j) (hj : j = l.length) : gapP l k = j := by
 rw [h.1, gap_end (by omega), hj]
theorem fskip_any (s : ByteArray) (k : Nat) (hs : s.size ≤ maxLen) (hk : k ≤ s.size) (w : World) : Calls Tryz.prog 22 #[.string s, ι k] w fun e w' => e = .returned (ι (gapP s.data.toList k : Nat)) ∧ w = w' := by
 have HSK := hI (fun j (hj : j ≤ s.size) W => skip_any s j hs hj W);have HLN := hI (fun j (hj : j ≤ s.size) W => line_any s j hs hj W);unfold maxLen at hs;have hl : s.data.toList.length = s.size := by simp
 have HL := hI hl;have h0 := GapAt.start (l := s.data.toList) (k := k) (by omega);have h0s : span blankB s.data.toList k ≤ s.size := by rw [← hl]; exact span_le (by omega)
 obtain ⟨j0, hj0⟩ : ∃ j, span blankB s.data.toList k = j := ⟨_, rfl⟩
 have HS0 := hI (HSK.out k hk);rw [hj0] at h0 h0s HS0;have H0 := hI h0;clear hl h0 hj0
 go_enter Tryz.func22, Tryz.ntmps22
 go_wp2_with (go_at_call 40; refine (HS0.out _).mono ?_; rintro e w' ⟨rfl, rfl⟩)
 go_loop [1] (fun t => ∃ j : Nat, j ≤ s.size ∧ t = ι j ∧ Hid (GapAt s.data.toList k j)) (fun t => s.size - (intOf t).toNat)
 case atStart => exact ⟨j0, h0s, rfl, H0⟩
 case round =>
  obtain ⟨j, hj, rfl, HG⟩ := hrel
  by_cases hlt : j < s.size
  · obtain ⟨b, hb⟩ : ∃ b, s[j] = b := ⟨_, rfl⟩
    have HB := hI (at_list hlt hb)
    by_cases h35 : b.toNat = 35
    · obtain ⟨g1, g2, g3⟩ := HG.out.next HB.out h35
      rw [HL.out] at g3;have g4 : span nolfB s.data.toList j ≤ s.size := by rw [← HL.out]; exact span_le (by rw [HL.out]; omega)
      have HN1 := hI (HLN.out j (by omega));obtain ⟨m, hm⟩ : ∃ m, span nolfB s.data.toList j = m := ⟨_, rfl⟩
      rw [hm] at g1 g2 g3 g4 HN1;have HN2 := hI (HSK.out m g4);obtain ⟨j2, hj2⟩ : ∃ j, span blankB s.data.toList m = j := ⟨_, rfl⟩
      rw [hj2] at g1 g2 g3 HN2;have HG2 := hI g1;have q : ((b.toNat : Int) == 35) = true := by rw [beq_iff_eq]; omega
      clear hj2 hm g1 h35
      go_wp2_with (first
       | (go_at_call 41; refine (HN1.out _).mono ?_; rintro e w' ⟨rfl, rfl⟩)
       | (go_at_call 40; refine (HN2.out _).mono ?_; rintro e w' ⟨rfl, rfl⟩))
      go_round
      case rel => exact ⟨j2, g3, rfl, HG2⟩
      case measure => simp [intOf]; omega
    · have HE := hI (HG.out.stop HB.out h35);have q : ((b.toNat : Int) == 35) = false := bF.2 (fun h => h35 (by omega));clear h35;go_wp2_with fail
      go_ret
      exact ⟨ret_int (by rw [HE.out]), rfl⟩
  · have HE := hI (HG.out.end_ (by rw [HL.out]; omega))
    go_wp2
    all_goals go_ret
    all_goals exact ⟨ret_int (by rw [HE.out]), rfl⟩
end Go.Proofs.YtoleoimmpggldaaGreatDoor
namespace Go.Proofs.YtoleoimmpggldaaGreatDoor
open Go.RowKit
def FxPost (x : Fx) (w : World) (e : Ending) (w' : World) : Prop := e = .returned x.val ∧ Below w.heap.size w w'
theorem fx_open {f : FuncId} {args : Array Value} {w : World} {x : Fx} (h : Calls Tryz.prog f args w (FxPost x w)) : Calls Tryz.prog f args w fun e w' => e = .returned (.tuple #[.agg #[ι x.t.k, ι x.t.o, .string x.t.s, ι x.t.i], ι x.p, ι x.e]) ∧ Below w.heap.size w w' := h
theorem box4 {w : World} {g : Nat} {t : TypeId} {x0 x1 x2 x3 : Value} (h : Box w g t #[x0, x1, x2, x3]) : w.cell? ⟨g, 0, none⟩ = some x0 ∧ w.cell? ⟨g, 1, none⟩ = some x1 ∧ w.cell? ⟨g, 2, none⟩ = some x2 ∧ w.cell? ⟨g, 3, none⟩ = some x3 :=
 ⟨h.cell rfl, h.cell rfl, h.cell rfl, h.cell rfl⟩
theorem free4 {w : World} {g : Nat} {t : TypeId} {x0 x1 x2 x3 : Value} (h : Box w g t #[x0, x1, x2, x3]) : w.frozen? ⟨g, 0, none⟩ = false ∧ w.frozen? ⟨g, 1, none⟩ = false ∧ w.frozen? ⟨g, 2, none⟩ = false ∧ w.frozen? ⟨g, 3, none⟩ = false :=
 ⟨h.free 0, h.free 1, h.free 2, h.free 3⟩
theorem below_four {w X : World} {B g : Nat} (hg : B ≤ g) (h : Below B w X) (u0 u1 u2 u3 : Value) : Below B w ((((X.setCell ⟨g, 0, none⟩ u0).setCell ⟨g, 1, none⟩ u1).setCell ⟨g, 2, none⟩ u2).setCell ⟨g, 3, none⟩ u3) :=
 (((h.setCell hg _).setCell hg _).setCell hg _).setCell hg _
theorem put4 {w : World} {g : Nat} {t : TypeId} {x0 x1 x2 x3 : Value} (h : Box w g t #[x0, x1, x2, x3]) (u0 u1 u2 u3 : Value) :
 Box ((((w.setCell ⟨g, 0, none⟩ u0).setCell ⟨g, 1, none⟩ u1).setCell ⟨g, 2, none⟩ u2).setCell ⟨g, 3, none⟩ u3) g t #[u0, u1, u2, u3] :=
 (((h.put 0 u0).put 1 u1).put 2 u2).put 3 u3
theorem ftok_ret {F : Func} {a b c : Nat} {Post : Ending → World → Prop} {A : Act} {X : World} {g : Nat} {x0 x1 x2 x3 p e : Value} (hr : F.results = #[.cell a 41, .tmp b, .tmp c])
 (ha : A.tmps[a]?.getD undef = .pointer (some ⟨g, 0, none⟩)) (hb : A.tmps[b]?.getD undef = p) (hc : A.tmps[c]?.getD undef = e) (hd : A.defers = []) (bx : Box X g 41 #[x0, x1, x2, x3])
 (h : Post (.returned (.tuple #[.agg #[x0, x1, x2, x3], p, e])) X) : bodyPost Tryz.prog F Post Exit.ret A X := by
 obtain ⟨t0, t1, t2, t3⟩ := box4 bx;refine bodyPost_ret (v := .tuple #[.agg #[x0, x1, x2, x3], p, e]) ?_ hd h;simp [results, hr, go_sem, ha, hb, hc, t0, t1, t2, t3]
theorem fx_ret {F : Func} {a b c : Nat} {x : Fx} {w : World} {A : Act} {X : World} {g : Nat} (hr : F.results = #[.cell a 41, .tmp b, .tmp c])
 (ha : A.tmps[a]?.getD undef = .pointer (some ⟨g, 0, none⟩)) (hb : A.tmps[b]?.getD undef = ι x.p) (hc : A.tmps[c]?.getD undef = ι x.e) (hd : A.defers = [])
 (bx : Box X g 41 #[ι x.t.k, ι x.t.o, .string x.t.s, ι x.t.i])
 (h : Below w.heap.size w X) : bodyPost Tryz.prog F (FxPost x w) Exit.ret A X := ftok_ret hr ha hb hc hd bx ⟨rfl, h⟩
theorem ffail_any (p e : Int) (w : World) : Calls Tryz.prog 69 #[ι p, ι e] w fun x w' => x = .returned (.tuple #[.agg #[ι 0, ι 0, eS, ι 0], ι p, ι e]) ∧ Below w.heap.size w w' := by
 go_enter Tryz.func69, Tryz.ntmps69
 go_wp2_with fail;refine bodyPost_ret (v := .tuple #[.agg #[ι 0, ι 0, eS, ι 0], ι p, ι e]) (by simp [results, Tryz.results69, go_sem]) rfl ⟨rfl, ?_⟩;exact (Below.refl _ _).alloc (Nat.le_refl _) _
theorem ext_size (s : ByteArray) (i j : Nat) (hs : s.size ≤ 1048576) : (s.extract i j).size ≤ 281474976710656 := by
 rw [ByteArray.size_extract]; omega
theorem ext_subd (s : ByteArray) (i j : Nat) : (s.extract i j).data.toList = sub s.data.toList i j := (Lib.toList_data _).symm.trans (ext_sub s i j)
theorem bs_ext (s : ByteArray) (i j : Nat) : s.extract i j = bsF (sub s.data.toList i j) := by
 have h := ext_sub s i j;rw [Lib.toList_data] at h;unfold bsF;rw [← h]
theorem named_any (k : Nat) (s : ByteArray) (o f : Nat) (hs : s.size ≤ 1048576) (hf : f ≤ s.size) (w : World) : Calls Tryz.prog 44 #[ι k, .string s, ι o, ι f] w (FxPost (namedP s.data.toList k o f) w) := by
 have hsm : s.size ≤ maxLen := by unfold maxLen; omega
 have HE := hI (fun W => fend_any s f hsm hf W);have hl : s.data.toList.length = s.size := by simp
 have hts : span nmdB s.data.toList f ≤ s.size := by rw [← hl]; exact span_le (by omega)
 have hft := span_ge nmdB s.data.toList f;have HX := hI (bs_ext s f (span nmdB s.data.toList f));obtain ⟨W1, hW1⟩ : ∃ X, X = w.alloc (.cells #[ι 0, ι 0, eS, ι 0] 41) := ⟨_, rfl⟩
 have HBX : Hid (Box W1 w.heap.size 41 #[ι 0, ι 0, eS, ι 0]) := hI (by rw [hW1]; exact Box.laid w _ _);have HBL : Hid (Below w.heap.size w W1) := hI (by rw [hW1]; exact (Below.refl _ _).alloc (Nat.le_refl _) _);have HW1 := hI hW1;unfold namedP;rw [← HX.out];clear hW1 hl HX hsm;generalize span nmdB s.data.toList f = t at *
 by_cases h : 32 < t - f
 · rw [if_pos h]
   go_enter Tryz.func44, Tryz.ntmps44
   go_upto_region 1 with fail;rw [← HW1.out];have q : (32 : Int) < (t : Int) - (f : Int) := by omega
   go_wp2_with (first
    | (go_at_call 68; refine (HE.out _).mono ?_; rintro e w' ⟨rfl, rfl⟩)
    | (go_at_call 69; refine (ffail_any _ _ _).mono ?_; rintro e w' ⟨rfl, hb'⟩; have bx := HBX.out.below hb' HBX.out.lt; obtain ⟨t0, t1, t2, t3⟩ := box4 bx; obtain ⟨f0, f1, f2, f3⟩ := free4 bx))
   exact fx_ret Tryz.results44 rfl rfl rfl rfl (put4 bx _ _ _ _) (below_four (Nat.le_refl _) (HBL.out.trans (hb'.mono HBL.out.size)) _ _ _ _)
 · rw [if_neg h];have HC := hI (fun W => clone_lib (s.extract f t) W (ext_size s f t hs))
   go_enter Tryz.func44, Tryz.ntmps44
   go_upto_region 1 with fail;rw [← HW1.out];have q : ¬ (32 : Int) < (t : Int) - (f : Int) := by omega
   go_wp2_with (first
    | (go_at_call 68; refine (HE.out _).mono ?_; rintro e w' ⟨rfl, rfl⟩)
    | (go_at_call 70; refine (HC.out _).mono ?_; rintro e w' ⟨rfl, hb'⟩; have bx := HBX.out.below hb' HBX.out.lt; obtain ⟨t0, t1, t2, t3⟩ := box4 bx; obtain ⟨f0, f1, f2, f3⟩ := free4 bx))
   exact fx_ret Tryz.results44 rfl rfl rfl rfl (put4 bx _ _ _ _) (below_four (Nat.le_refl _) (HBL.out.trans (hb'.mono HBL.out.size)) _ _ _ _)
theorem fword_any (s : ByteArray) (a : Nat) (hs : s.size ≤ 1048576) (ha : a ≤ s.size) (w : World) : Calls Tryz.prog 43 #[.string s, ι a] w (FxPost (wordFP s.data.toList a) w) := by
 have hsm : s.size ≤ maxLen := by unfold maxLen; omega
 have HE := hI (fun W => fend_any s a hsm ha W);have hl : s.data.toList.length = s.size := by simp
 have hts : span nmdB s.data.toList a ≤ s.size := by rw [← hl]; exact span_le (by omega)
 have hft := span_ge nmdB s.data.toList a;have HN := hI (fun k W => fx_open (named_any k s a a hs ha W));have hk := fun W => kw_any (s.extract a (span nmdB s.data.toList a)) W
 rw [ext_subd] at hk;unfold wordFP wordK;obtain ⟨W1, hW1⟩ : ∃ X, X = w.alloc (.cells #[ι 0, ι 0, eS, ι 0] 41) := ⟨_, rfl⟩
 have HBX : Hid (Box W1 w.heap.size 41 #[ι 0, ι 0, eS, ι 0]) := hI (by rw [hW1]; exact Box.laid w _ _);have HBL : Hid (Below w.heap.size w W1) := hI (by rw [hW1]; exact (Below.refl _ _).alloc (Nat.le_refl _) _);have HW1 := hI hW1;clear hW1 hl hsm;generalize kwB (sub s.data.toList a (span nmdB s.data.toList a)) = b at *
 have HK := hI hk;clear hk;generalize span nmdB s.data.toList a = t at *
 cases b with
 | true =>
  rw [if_pos rfl];have HM := hI (fun W => HN.out 2 W);generalize namedP s.data.toList 2 a a = x at HM ⊢;clear HN
  go_enter Tryz.func43, Tryz.ntmps43
  go_upto_region 1 with fail;rw [← HW1.out]
  go_wp2_with (first
   | (go_at_call 68; refine (HE.out _).mono ?_; rintro e w' ⟨rfl, rfl⟩)
   | (go_at_call 67; refine (HK.out _).mono ?_; rintro e w' ⟨rfl, rfl⟩)
   | (go_at_call 44; refine (HM.out _).mono ?_; rintro e w' ⟨rfl, hb'⟩; have bx := HBX.out.below hb' HBX.out.lt; obtain ⟨t0, t1, t2, t3⟩ := box4 bx; obtain ⟨f0, f1, f2, f3⟩ := free4 bx))
  exact fx_ret Tryz.results43 rfl rfl rfl rfl (put4 bx _ _ _ _) (below_four (Nat.le_refl _) (HBL.out.trans (hb'.mono HBL.out.size)) _ _ _ _)
 | false =>
  rw [if_neg Bool.false_ne_true];have HM := hI (fun W => HN.out 1 W);generalize namedP s.data.toList 1 a a = x at HM ⊢;clear HN
  go_enter Tryz.func43, Tryz.ntmps43
  go_upto_region 1 with fail;rw [← HW1.out]
  go_wp2_with (first
   | (go_at_call 68; refine (HE.out _).mono ?_; rintro e w' ⟨rfl, rfl⟩)
   | (go_at_call 67; refine (HK.out _).mono ?_; rintro e w' ⟨rfl, rfl⟩)
   | (go_at_call 44; refine (HM.out _).mono ?_; rintro e w' ⟨rfl, hb'⟩; have bx := HBX.out.below hb' HBX.out.lt; obtain ⟨t0, t1, t2, t3⟩ := box4 bx; obtain ⟨f0, f1, f2, f3⟩ := free4 bx))
  exact fx_ret Tryz.results43 rfl rfl rfl rfl (put4 bx _ _ _ _) (below_four (Nat.le_refl _) (HBL.out.trans (hb'.mono HBL.out.size)) _ _ _ _)
theorem frac_any (s : ByteArray) (t : Nat) (hs : s.size ≤ 1048576) (ht : t ≤ s.size) (w : World) : Calls Tryz.prog 71 #[.string s, ι t] w fun e w' => e = .returned (.bool (fracB s.data.toList t)) ∧ w = w' := by
 have HL := hI (show s.data.toList.length = s.size by simp);unfold fracB
 by_cases h : t + 1 < s.size
 · obtain ⟨b, hb⟩ : ∃ b, s[t] = b := ⟨_, rfl⟩
   obtain ⟨c, hc⟩ : ∃ c, s[t + 1] = c := ⟨_, rfl⟩
   rw [bytq (at_list (by omega) hb), atF_at (at_list h hc)];have HD := hI (fun W => fdig_any c W);generalize digB c = d at HD ⊢
   by_cases h46 : b.toNat = 46
   · have q : ((b.toNat : Int) == 46) = true := by rw [beq_iff_eq]; omega
     rw [decide_eq_true h46, Bool.true_and];clear h46
     go_enter Tryz.func71, Tryz.ntmps71
     go_wp2_with (go_at_call 45; refine (HD.out _).mono ?_; rintro e w' ⟨rfl, rfl⟩)
     all_goals go_ret
     all_goals exact ⟨rfl, rfl⟩
   · have q : ((b.toNat : Int) == 46) = false := bF.2 (fun h => h46 (by omega));rw [decide_eq_false h46, Bool.false_and];clear h46
     go_enter Tryz.func71, Tryz.ntmps71
     go_wp2_with (go_at_call 45; refine (HD.out _).mono ?_; rintro e w' ⟨rfl, rfl⟩)
     all_goals go_ret
     all_goals exact ⟨rfl, rfl⟩
 · rw [atF_end (show s.data.toList.length ≤ t + 1 by rw [HL.out]; omega), Bool.and_false]
   go_enter Tryz.func71, Tryz.ntmps71
   go_wp2_with fail
   all_goals go_ret
   all_goals exact ⟨rfl, rfl⟩
