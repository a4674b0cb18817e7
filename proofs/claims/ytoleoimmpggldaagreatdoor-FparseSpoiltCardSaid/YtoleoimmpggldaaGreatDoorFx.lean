import Derived.Test.YtoleoimmpggldaaGreatDoorQA
set_option linter.unusedVariables false
set_option linter.unusedSectionVars false
set_option linter.unusedSimpArgs false
namespace Go.Proofs.YtoleoimmpggldaaGreatDoor
open Go.RowKit
structure Fk where
 k : Nat
 o : Nat
 s : ByteArray
 i : Int
deriving DecidableEq
def Fk.cs (t : Fk) : List Value := [.int .i64 t.k, .int .i64 t.o, .string t.s, .int .i64 t.i]
structure Fx where
 t : Fk
 p : Nat
 e : Nat
deriving DecidableEq
def zeroK : Fk := ⟨0, 0, ⟨#[]⟩, 0⟩
def okF (k o : Nat) (s : ByteArray) (i : Int) (p : Nat) : Fx := ⟨⟨k, o, s, i⟩, p, 0⟩
def noF (p e : Nat) : Fx := ⟨zeroK, p, e⟩
def Fx.val (x : Fx) : Value := .tuple #[.agg x.t.cs.toArray, .int .i64 x.p, .int .i64 x.e]
def Fx.rval (x : Fx) : Value := .tuple #[.agg x.t.cs.toArray, .int .i64 ((if x.e = 0 then x.p else 0 : Nat) : Int), .int .i64 ((if x.e = 0 then 0 else x.p : Nat) : Int), .int .i64 x.e]
def bsF (l : List UInt8) : ByteArray := ⟨l.toArray⟩
def nameB (b : UInt8) : Bool := decide ((97 ≤ b.toNat ∧ b.toNat ≤ 122) ∨ (65 ≤ b.toNat ∧ b.toNat ≤ 90) ∨ b.toNat = 95)
def nmdB (b : UInt8) : Bool := nameB b || digB b
def nolfB (b : UInt8) : Bool := decide (¬ b.toNat = 10)
def atF (p : UInt8 → Bool) (l : List UInt8) (j : Nat) : Bool := match l[j]? with
 | some b => p b
 | none => false
def kwB (x : List UInt8) : Bool := x == [97, 110, 100] || x == [97, 115] || x == [98, 114, 101, 97, 107] || x == [99, 97, 116, 99, 104] || x == [100, 101, 102] || x == [101, 108, 105, 102] || x == [101, 108, 115, 101] || x == [101, 110, 100] || x == [102, 97, 108, 115, 101] || x == [102, 111, 114, 101, 97, 99, 104] || x == [105, 102] || x == [108, 97, 98, 101, 108] || x == [110, 117, 108, 108] || x == [111, 114] || x == [114, 101, 100, 117, 99, 101] || x == [116, 104, 101, 110] || x == [116, 114, 117, 101] || x == [116, 114, 121]
def signsL : List (List UInt8) := [[124, 61], [43, 61], [45, 61], [42, 61], [47, 61], [37, 61], [47, 47], [61, 61], [33, 61], [60, 61], [62, 61], [46, 46], [46], [124], [44], [59], [58], [40], [41], [91], [93], [123], [125], [43], [45], [42], [47], [37], [60], [62], [61], [63]]
def namedP (l : List UInt8) (k o f : Nat) : Fx := if 32 < span nmdB l f - f then noF o 2 else okF k o (bsF (sub l f (span nmdB l f))) 0 (span nmdB l f)
def wordK (l : List UInt8) (a : Nat) : Nat := if kwB (sub l a (span nmdB l a)) = true then 2 else 1
def wordFP (l : List UInt8) (a : Nat) : Fx := namedP l (wordK l a) a a
def fracB (l : List UInt8) (t : Nat) : Bool := decide (byt l t = 46) && atF digB l (t + 1)
def numFP (l : List UInt8) (a : Nat) : Fx :=
 if byt l a = 48 ∧ a + 1 < span digB l a then noF a 4
 else if (atF nameB l (span digB l a) || fracB l (span digB l a)) = true then noF a 7
 else match fitP false (natF 0 (sub l a (span digB l a))) with
  | none => noF a 7
  | some v => okF 5 a ⟨#[]⟩ v (span digB l a)
def strFP (l : List UInt8) (a : Nat) : Fx := if (lexP l a).e = 0 then okF 6 a (lexP l a).s 0 (lexP l a).p else noF (lexP l a).p (lexP l a).e
def signFP (l : List UInt8) (a : Nat) : Fx := match signsL.find? (fun t => t.isPrefixOf (l.drop a)) with
 | some t => okF 7 a (bsF t) 0 (a + t.length)
 | none => noF a 4
def tokP (l : List UInt8) (a : Nat) : Fx :=
 if atF nameB l a = true then wordFP l a
 else if byt l a = 36 ∧ atF nameB l (a + 1) = true then namedP l 3 a (a + 1)
 else if byt l a = 46 ∧ atF nameB l (a + 1) = true then namedP l 4 a (a + 1)
 else if atF digB l a = true then numFP l a
 else if byt l a = 34 then strFP l a
 else signFP l a
def eat : Bool → List UInt8 → List UInt8
 | _, [] => []
 | true, b :: r => if b.toNat = 10 then eat false r else eat true r
 | false, b :: r => if blankB b = true then eat false r else if b.toNat = 35 then eat true r else b :: r
theorem eat_len : ∀ (c : Bool) (l : List UInt8), (eat c l).length ≤ l.length
 | c, [] => by cases c <;> exact Nat.le_refl _
 | true, b :: r => by
  rw [eat]
  split
  · exact Nat.le_succ_of_le (eat_len false r)
  · exact Nat.le_succ_of_le (eat_len true r)
 | false, b :: r => by
  rw [eat]
  split
  · exact Nat.le_succ_of_le (eat_len false r)
  · split
    · exact Nat.le_succ_of_le (eat_len true r)
    · exact Nat.le_refl _
def gapP (l : List UInt8) (k : Nat) : Nat := l.length - (eat false (l.drop k)).length
theorem gap_le (l : List UInt8) (k : Nat) : gapP l k ≤ l.length := Nat.sub_le _ _
theorem gap_ge {l : List UInt8} {k : Nat} (h : k ≤ l.length) : k ≤ gapP l k := by
 have h2 := eat_len false (l.drop k);rw [List.length_drop] at h2;unfold gapP; omega
theorem gap_end {l : List UInt8} {k : Nat} (h : l.length ≤ k) : gapP l k = l.length := by
 unfold gapP; rw [List.drop_eq_nil_of_le h]; rfl
theorem eat_blanks : ∀ l : List UInt8, eat false l = eat false (l.dropWhile blankB)
 | [] => rfl
 | b :: r => by
  rw [List.dropWhile_cons]
  split
  · rename_i h
    rw [eat, if_pos h];exact eat_blanks r
  · rfl
theorem eat_line : ∀ l : List UInt8, eat true l = eat false (l.dropWhile nolfB)
 | [] => rfl
 | b :: r => by
  rw [List.dropWhile_cons, eat]
  by_cases h : b.toNat = 10
  · rw [if_pos h, if_neg (by unfold nolfB; simp [h]), eat, if_pos (by unfold blankB; simp [h])]
  · rw [if_neg h, if_pos (by unfold nolfB; simp [h])];exact eat_line r
theorem drop_while (p : UInt8 → Bool) (l : List UInt8) (k : Nat) : (l.drop k).dropWhile p = l.drop (span p l k) := by
 unfold span;rw [← List.drop_drop];generalize l.drop k = x
 induction x with
 | nil => rfl
 | cons b r ih =>
  rw [List.dropWhile_cons, List.takeWhile_cons]
  split
  · rw [ih]; rfl
  · rfl
theorem gap_blanks (l : List UInt8) (k : Nat) : gapP l k = gapP l (span blankB l k) := by
 unfold gapP; rw [eat_blanks, drop_while]
theorem gap_line {l : List UInt8} {k : Nat} {b : UInt8} (h : l[k]? = some b) (hb : b.toNat = 35) : gapP l k = gapP l (span nolfB l k) := by
 obtain ⟨hk, he⟩ := List.getElem?_eq_some_iff.1 h;have h1 : eat false (l.drop k) = eat true (l.drop k) := by
  rw [List.drop_eq_getElem_cons hk, he, eat, eat, if_neg (by unfold blankB; simp [hb]), if_pos hb, if_neg (by omega)]
 unfold gapP; rw [h1, eat_line, drop_while]
theorem gap_stop {l : List UInt8} {k : Nat} {b : UInt8} (h : l[k]? = some b) (hb : ¬ b.toNat = 35) (hn : blankB b = false) : gapP l k = k := by
 obtain ⟨hk, he⟩ := List.getElem?_eq_some_iff.1 h;unfold gapP;rw [List.drop_eq_getElem_cons hk, he, eat, if_neg (by simp [hn]), if_neg hb, List.length_cons, List.length_drop];omega
theorem atF_at {p : UInt8 → Bool} {l : List UInt8} {j : Nat} {b : UInt8} (h : l[j]? = some b) : atF p l j = p b := by unfold atF; rw [h]
theorem atF_end {p : UInt8 → Bool} {l : List UInt8} {j : Nat} (h : l.length ≤ j) : atF p l j = false := by unfold atF; rw [List.getElem?_eq_none h]
theorem atF_lt {p : UInt8 → Bool} {l : List UInt8} {j : Nat} (h : atF p l j = true) : ∃ b, l[j]? = some b ∧ p b = true := by
 unfold atF at h
 cases hq : l[j]? with
 | none => rw [hq] at h; cases h
 | some b => rw [hq] at h; exact ⟨b, rfl, h⟩
structure Fr where
 ts : Option (List Fk)
 p : Nat
 e : Nat
def lexF (l : List UInt8) : Nat → Nat → List Fk → Fr
 | 0, a, ts => ⟨none, 0, 0⟩
 | n + 1, a, ts => if a < l.length then (if ts.length = 2048 then ⟨none, a, 2⟩ else if (tokP l a).e = 0 then lexF l n (gapP l (tokP l a).p) (ts ++ [(tokP l a).t]) else ⟨none, (tokP l a).p, (tokP l a).e⟩) else ⟨some (ts ++ [⟨0, l.length, ⟨#[]⟩, 0⟩]), 0, 0⟩
def lexFP (l : List UInt8) : Fr := if 8192 < l.length then ⟨none, 0, 2⟩ else lexF l (l.length + 1) (gapP l 0) []
theorem namedP_ok {l : List UInt8} {k o f : Nat} (hf : f ≤ l.length) (h : (namedP l k o f).e = 0) : (namedP l k o f) = okF k o (bsF (sub l f (span nmdB l f))) 0 (span nmdB l f) ∧ span nmdB l f ≤ l.length ∧ span nmdB l f - f ≤ 32 := by
 unfold namedP at h ⊢
 split at h
 · cases h
 · rename_i h1
   rw [if_neg h1];exact ⟨rfl, span_le hf, by omega⟩
theorem name_step {l : List UInt8} {j : Nat} (h : atF nameB l j = true) : j < l.length ∧ j + 1 ≤ span nmdB l j := by
 obtain ⟨b, h1, h2⟩ := atF_lt h;obtain ⟨h3, h4⟩ := List.getElem?_eq_some_iff.1 h1;rw [span_in h3 (by rw [h4]; unfold nmdB; rw [h2]; rfl)];exact ⟨h3, span_ge _ _ _⟩
theorem dig_step {l : List UInt8} {j : Nat} (h : atF digB l j = true) : j < l.length ∧ j + 1 ≤ span digB l j := by
 obtain ⟨b, h1, h2⟩ := atF_lt h;obtain ⟨h3, h4⟩ := List.getElem?_eq_some_iff.1 h1;rw [span_in h3 (by rw [h4]; exact h2)];exact ⟨h3, span_ge _ _ _⟩
theorem signs_short : ∀ t ∈ signsL, t.length = 1 ∨ t.length = 2 := by decide
theorem signFP_ok {l : List UInt8} {a : Nat} (h : (signFP l a).e = 0) : ∃ t, signsL.find? (fun t => t.isPrefixOf (l.drop a)) = some t ∧ signFP l a = okF 7 a (bsF t) 0 (a + t.length) ∧ (t.length = 1 ∨ t.length = 2) ∧ a + t.length ≤ l.length := by
 unfold signFP at h ⊢
 cases hq : signsL.find? (fun t => t.isPrefixOf (l.drop a)) with
 | none => rw [hq] at h; cases h
 | some t =>
  have h1 := signs_short t (List.mem_of_find?_eq_some hq);have h2 := List.find?_some hq;have h3 := (List.isPrefixOf_iff_prefix.1 h2).length_le;rw [List.length_drop] at h3;exact ⟨t, rfl, rfl, h1, by omega⟩
theorem tok_ok {l : List UInt8} {a : Nat} (ha : a < l.length) (h : (tokP l a).e = 0) : a < (tokP l a).p ∧ (tokP l a).p ≤ l.length := by
 unfold tokP at h ⊢
 split at h
 · rename_i h1
   rw [if_pos h1];obtain ⟨h2, h3, -⟩ := namedP_ok (Nat.le_of_lt ha) h;unfold wordFP;rw [h2];exact ⟨(name_step h1).2, h3⟩
 · rename_i h1
   rw [if_neg h1]
   split at h
   · rename_i h2
     rw [if_pos h2];obtain ⟨h3, h4, -⟩ := namedP_ok (by omega) h;rw [h3];exact ⟨by have := (name_step h2.2).2; show a < span nmdB l (a + 1); omega, h4⟩
   · rename_i h2
     rw [if_neg h2]
     split at h
     · rename_i h3
       rw [if_pos h3];obtain ⟨h4, h5, -⟩ := namedP_ok (by omega) h;rw [h4];exact ⟨by have := (name_step h3.2).2; show a < span nmdB l (a + 1); omega, h5⟩
     · rename_i h3
       rw [if_neg h3]
       split at h
       · rename_i h4
         rw [if_pos h4];unfold numFP at h ⊢
         split at h
         · cases h
         · rename_i h5
           rw [if_neg h5]
           split at h
           · cases h
           · rename_i h6
             rw [if_neg h6]
             split at h
             · cases h
             · exact ⟨(dig_step h4).2, span_le (Nat.le_of_lt ha)⟩
       · rename_i h4
         rw [if_neg h4]
         split at h
         · rename_i h5
           rw [if_pos h5];unfold strFP at h ⊢
           split at h
           · rename_i h6
             rw [if_pos h6];obtain ⟨g1, g2, -⟩ := lexP_ok (Nat.le_of_lt ha) h6;obtain ⟨g3, g4, g5, g6⟩ := g2;have g7 : a < (lexP l a).t := by
              rcases g6 with ⟨-, g8, -⟩ | ⟨-, g8⟩
              · have hbl : span blankB l a = a := span_no ha (by
                 rw [byt_at ha] at h5;unfold blankB; simp; omega)
                have hf : (lexP l a).f = a := by
                 have hx : lexP l (a : Int) = lexN l a := by
                  unfold lexP;rw [if_neg (by omega), Int.toNat_natCast, hbl]
                 rw [hx] at h6 ⊢;exact (lexN_ok (Nat.le_of_lt ha) h6).1
                omega
              · omega
             exact ⟨by show a < (lexP l a).p; omega, by show (lexP l a).p ≤ l.length; omega⟩
           · rename_i h6
             exact absurd h h6
         · rename_i h5
           rw [if_neg h5];obtain ⟨t, g1, g2, g3, g4⟩ := signFP_ok h;rw [g2];exact ⟨by show a < a + t.length; omega, g4⟩
def FAt (l : List UInt8) (a : Nat) (ts : List Fk) : Prop := a ≤ l.length ∧ ts.length ≤ 2048 ∧ ts.length ≤ a ∧ ∃ n, l.length - a < n ∧ lexFP l = lexF l n a ts
theorem FAt.start {l : List UInt8} (h : ¬ 8192 < l.length) : FAt l (gapP l 0) [] := by
 refine ⟨gap_le _ _, Nat.zero_le _, Nat.zero_le _, l.length + 1, by omega, ?_⟩;unfold lexFP; rw [if_neg h]
theorem FAt.done {l : List UInt8} {a : Nat} {ts : List Fk} (h : FAt l a ts) (ha : ¬ a < l.length) : lexFP l = ⟨some (ts ++ [⟨0, l.length, ⟨#[]⟩, 0⟩]), 0, 0⟩ := by
 obtain ⟨-, -, -, n, h2, h3⟩ := h;obtain ⟨n, rfl⟩ : ∃ m, n = m + 1 := ⟨n - 1, by omega⟩
 rw [h3, lexF, if_neg ha]
theorem FAt.full {l : List UInt8} {a : Nat} {ts : List Fk} (h : FAt l a ts) (ha : a < l.length) (hl : ts.length = 2048) : lexFP l = ⟨none, a, 2⟩ := by
 obtain ⟨-, -, -, n, h2, h3⟩ := h;obtain ⟨n, rfl⟩ : ∃ m, n = m + 1 := ⟨n - 1, by omega⟩
 rw [h3, lexF, if_pos ha, if_pos hl]
theorem FAt.bad {l : List UInt8} {a : Nat} {ts : List Fk} (h : FAt l a ts) (ha : a < l.length) (hl : ¬ ts.length = 2048) (he : ¬ (tokP l a).e = 0) : lexFP l = ⟨none, (tokP l a).p, (tokP l a).e⟩ := by
 obtain ⟨-, -, -, n, h2, h3⟩ := h;obtain ⟨n, rfl⟩ : ∃ m, n = m + 1 := ⟨n - 1, by omega⟩
 rw [h3, lexF, if_pos ha, if_neg hl, if_neg he]
theorem FAt.next {l : List UInt8} {a : Nat} {ts : List Fk} (h : FAt l a ts) (ha : a < l.length) (hl : ¬ ts.length = 2048) (he : (tokP l a).e = 0) : FAt l (gapP l (tokP l a).p) (ts ++ [(tokP l a).t]) ∧ a < gapP l (tokP l a).p := by
 obtain ⟨-, h5, h6, n, h2, h3⟩ := h;obtain ⟨n, rfl⟩ : ∃ m, n = m + 1 := ⟨n - 1, by omega⟩
 obtain ⟨g1, g2⟩ := tok_ok ha he;have g3 := gap_ge g2;refine ⟨⟨gap_le _ _, by simp; omega, by simp; omega, n, by omega, ?_⟩, by omega⟩;rw [h3, lexF, if_pos ha, if_neg hl, if_pos he]
