/- TextCase, plain: what is left of a valid string when ASCII bytes at its ends are cut. Blanks and Skip (cut from stage 3). -/
import Derived.Test.YtjafmdngbphacaaGreatDoorC44
import Derived.Test.YtjafmdngbphacaaGreatDoorC08
import Derived.Test.YtjafmdngbphacaaGreatDoorRows
import Derived.Test.YtjafmdngbphacaaGreatDoorC07
import Derived.WalkKit
import Derived.Lib.Hide
import Derived.WalkSpells
import Derived.WalkLawsBesides
import Derived.Deep.RegionHeld3
import Derived.Deep.Light
set_option linter.unusedVariables false
set_option linter.unusedSimpArgs false
namespace Go.Proofs.YtjafmdngbphacaaGreatDoor
open Go.RowKit
theorem tl_cut {b : UInt8} (hb : b.toNat < 128) : ∀ (n acc r : Nat) (l : List UInt8), tl n acc (l ++ [b]) = some r → tl n acc l = some r
  | 0, acc, r, l, h => by simpa [tl] using h
  | n + 1, acc, r, [], h => by
    rw [List.nil_append, tl, if_neg (by omega)] at h
    cases h
  | n + 1, acc, r, a :: t, h => by
    rw [List.cons_append, tl] at h
    rw [tl]
    split at h
    · rename_i ha
      rw [if_pos ha]
      exact tl_cut hb n _ r t h
    · cases h
theorem fin_cut {n least acc : Nat} {b : UInt8} {t : List UInt8} {q : Nat × Nat} (hb : b.toNat < 128) (h : fin n least (tl n acc (t ++ [b])) = some q) : fin n least (tl n acc t) = some q := by
  cases hq : tl n acc (t ++ [b]) with
  | none => rw [hq] at h; simp [fin] at h
  | some r => rw [hq] at h; rw [tl_cut hb n acc r t hq]; exact h
theorem dec_cut {b : UInt8} (hb : b.toNat < 128) {l : List UInt8} (hl : l ≠ []) {q : Nat × Nat} (h : dec (l ++ [b]) = some q) : dec l = some q := by
  cases l with
  | nil => exact absurd rfl hl
  | cons a t =>
    rw [List.cons_append, dec_cons] at h
    rw [dec_cons]
    split at h
    · rename_i c; rw [if_pos c]; exact h
    rename_i c0; rw [if_neg c0]
    split at h
    · cases h
    rename_i c1; rw [if_neg c1]
    split at h
    · rename_i c; rw [if_pos c]; exact fin_cut hb h
    rename_i c2; rw [if_neg c2]
    split at h
    · rename_i c; rw [if_pos c]; exact fin_cut hb h
    rename_i c3; rw [if_neg c3]
    split at h
    · rename_i c; rw [if_pos c]; exact fin_cut hb h
    · cases h
theorem runes_cut {b : UInt8} (hb : b.toNat < 128) : ∀ (n : Nat) (l : List UInt8), l.length ≤ n → (runes (l ++ [b])).isSome = true → (runes l).isSome = true := by
  intro n
  induction n with
  | zero =>
    intro l hl h
    have : l = [] := List.eq_nil_of_length_eq_zero (by omega)
    subst this
    rfl
  | succ n ih =>
    intro l hl h
    by_cases hne : l = []
    · subst hne; rfl
    · cases hd : dec (l ++ [b]) with
      | none => rw [runes_none (by simp) hd] at h; cases h
      | some rn =>
        obtain ⟨r, k⟩ := rn
        have hd2 := dec_cut hb hne hd
        obtain ⟨_, h1, _, h4⟩ := dec_some_cp hd2
        rw [runes_some hd, List.drop_append_of_le_length h4] at h
        rw [runes_some hd2]
        have h5 : (runes (l.drop k ++ [b])).isSome = true := by
          cases hq : runes (l.drop k ++ [b]) with
          | none => rw [hq] at h; cases h
          | some _ => rfl
        have h6 := ih (l.drop k) (by rw [List.length_drop]; omega) h5
        cases hq : runes (l.drop k) with
        | none => rw [hq] at h6; cases h6
        | some _ => rfl
theorem runes_tail {b : UInt8} {t : List UInt8} (hb : b.toNat < 128) (h : (runes (b :: t)).isSome = true) : (runes t).isSome = true := by
  have hd : dec (b :: t) = some (b.toNat, 1) := by rw [dec_cons, if_pos hb]
  rw [runes_some hd] at h
  cases hq : runes t with
  | none => rw [show (b :: t).drop 1 = t from rfl, hq] at h; cases h
  | some _ => rfl
/-- Cut at the end, byte by byte. -/
theorem runes_take1 {l : List UInt8} {k : Nat} {b : UInt8} (hk : l[k]? = some b) (hb : b.toNat < 128) (h : (runes (l.take (k + 1))).isSome = true) : (runes (l.take k)).isSome = true := by
  rw [List.take_add_one, hk] at h
  exact runes_cut hb _ _ (Nat.le_refl _) h
/-- Cut at the beginning. -/
theorem runes_dropN : ∀ (k : Nat) (l : List UInt8), (∀ j b, j < k → l[j]? = some b → b.toNat < 128) → (runes l).isSome = true → (runes (l.drop k)).isSome = true
  | 0, l, _, h => by simpa using h
  | k + 1, [], _, h => by simpa using h
  | k + 1, b :: t, hb, h => by
    rw [List.drop_succ_cons]
    exact runes_dropN k t (fun j c hj hc => hb (j + 1) c (by omega) (by simpa using hc)) (runes_tail (hb 0 b (by omega) rfl) h)
end Go.Proofs.YtjafmdngbphacaaGreatDoor
namespace Go.Proofs.YtjafmdngbphacaaGreatDoor
open Go.RowKit
/-- The offset of the first byte from k on that is not of a kind. -/
def span (p : UInt8 → Bool) (l : List UInt8) (k : Nat) : Nat := k + ((l.drop k).takeWhile p).length
theorem span_in {p : UInt8 → Bool} {l : List UInt8} {k : Nat} (h : k < l.length) (hp : p l[k] = true) : span p l k = span p l (k + 1) := by
  unfold span
  rw [List.drop_eq_getElem_cons h, List.takeWhile_cons, if_pos hp]
  simp; omega
theorem span_no {p : UInt8 → Bool} {l : List UInt8} {k : Nat} (h : k < l.length) (hp : p l[k] = false) : span p l k = k := by
  unfold span
  rw [List.drop_eq_getElem_cons h, List.takeWhile_cons, if_neg (by simp [hp])]
  simp
theorem span_end {p : UInt8 → Bool} {l : List UInt8} {k : Nat} (h : l.length ≤ k) : span p l k = k := by
  unfold span
  rw [List.drop_eq_nil_of_le h]
  simp
theorem span_spec (p : UInt8 → Bool) (l : List UInt8) : ∀ (n k : Nat), l.length - k = n → k ≤ l.length → span p l k ≤ l.length ∧ (∀ i (h : i < l.length), k ≤ i → i < span p l k → p l[i] = true) ∧ (∀ h : span p l k < l.length, p l[span p l k] = false)
  | 0, k, hn, hk => by
    have h : l.length ≤ k := by omega
    rw [span_end h]
    exact ⟨hk, fun i h1 h2 h3 => by omega, fun h1 => by omega⟩
  | n + 1, k, hn, hk => by
    have h : k < l.length := by omega
    cases hp : p l[k] with
    | false =>
      rw [span_no h hp]
      exact ⟨hk, fun i h1 h2 h3 => by omega, fun _ => hp⟩
    | true =>
      rw [span_in h hp]
      obtain ⟨h1, h2, h3⟩ := span_spec p l n (k + 1) (by omega) (by omega)
      refine ⟨h1, fun i g1 g2 g3 => ?_, h3⟩
      rcases Nat.eq_or_lt_of_le g2 with rfl | g2
      · exact hp
      · exact h2 i g1 g2 g3
theorem span_le {p : UInt8 → Bool} {l : List UInt8} {k : Nat} (h : k ≤ l.length) : span p l k ≤ l.length := (span_spec p l _ k rfl h).1
theorem span_all {p : UInt8 → Bool} {l : List UInt8} {k i : Nat} (h : i < l.length) (h1 : k ≤ i) (h2 : i < span p l k) : p l[i] = true := (span_spec p l _ k rfl (by omega)).2.1 i h h1 h2
def blankB (b : UInt8) : Bool := decide (b.toNat = 32 ∨ b.toNat = 9 ∨ b.toNat = 10 ∨ b.toNat = 13)
end Go.Proofs.YtjafmdngbphacaaGreatDoor
namespace Go.Proofs.YtjafmdngbphacaaGreatDoor
open Go.RowKit
theorem blank_any (b : UInt8) (w : World) : Calls Tryz.prog 242 #[.int .u8 b.toNat] w fun e w' => e = .returned (.bool (blankB b)) ∧ w = w' := by
  have hb := UInt8.toNat_lt b
  unfold blankB
  generalize b.toNat = n at *
  go_enter Tryz.func242, Tryz.ntmps242
  go_wp2
  all_goals go_ret
  all_goals exact ⟨ret_bool (by (try simp only [beq_iff_eq, beq_eq_false_iff_ne, decide_eq_true_eq, decide_eq_false_iff_not, ne_eq] at *); rw [Bool.eq_iff_iff]; first | (simp; omega) | (simp; done) | omega), rfl⟩
end Go.Proofs.YtjafmdngbphacaaGreatDoor
namespace Go.Proofs.YtjafmdngbphacaaGreatDoor
open Go.RowKit
theorem at_list {s : ByteArray} {k : Nat} {b : UInt8} (h : k < s.size) (hb : s[k] = b) : s.data.toList[k]? = some b := by
  have h2 : k < s.data.toList.length := by simpa using h
  rw [List.getElem?_eq_getElem h2, ← hb]; rfl
theorem span_inq {p : UInt8 → Bool} {l : List UInt8} {k : Nat} {b : UInt8} (h : l[k]? = some b) (hp : p b = true) : span p l k = span p l (k + 1) := by
  obtain ⟨h1, rfl⟩ := List.getElem?_eq_some_iff.1 h
  exact span_in h1 hp
theorem span_noq {p : UInt8 → Bool} {l : List UInt8} {k : Nat} {b : UInt8} (h : l[k]? = some b) (hp : p b = false) : span p l k = k := by
  obtain ⟨h1, rfl⟩ := List.getElem?_eq_some_iff.1 h
  exact span_no h1 hp
set_option maxHeartbeats 1000000 in
theorem skip_any (s : ByteArray) (k : Nat) (hs : s.size ≤ maxLen) (hk : k ≤ s.size) (w : World) : Calls Tryz.prog 241 #[.string s, .int .i64 k] w fun e w' => e = .returned (.int .i64 (span blankB s.data.toList k : Nat)) ∧ w = w' := by
  unfold maxLen at hs
  have hl : s.data.toList.length = s.size := by simp
  have HL := Lib.hid hl
  clear hl
  have hq1 : decide ((k : Int) < 0) = false := by simp
  have hq2 : decide ((s.size : Int) < (k : Int)) = false := by simp; omega
  have hq3 : decide (s.size < k) = false := by simp; omega
  go_enter Tryz.func241, Tryz.ntmps241
  go_wp2
  go_loop [1] (fun t => ∃ j : Nat, j ≤ s.size ∧ t = .int .i64 j ∧ span blankB s.data.toList k = span blankB s.data.toList j) (fun t => s.size - (intOf t).toNat)
  case atStart => exact ⟨k, hk, rfl, rfl⟩
  case round =>
    obtain ⟨j, hj, rfl, hsp⟩ := hrel
    have HS := Lib.hid hsp
    clear hsp
    by_cases hlt : j < s.size
    · obtain ⟨b, hb⟩ : ∃ b, s[j] = b := ⟨_, rfl⟩
      have H3 := Lib.hid (at_list hlt hb)
      cases hc : blankB b with
      | true =>
        have HN := Lib.hid (span_inq H3.out hc)
        go_wp2_with (go_at_call 242; refine (blank_any _ _).mono ?_; rw [hc]; rintro e w' ⟨rfl, rfl⟩)
        go_round
        case rel => exact ⟨j + 1, by omega, by go_num, HS.out.trans HN.out⟩
        case measure => simp [intOf]; omega
      | false =>
        have HN := Lib.hid (span_noq H3.out hc)
        go_wp2_with (go_at_call 242; refine (blank_any _ _).mono ?_; rw [hc]; rintro e w' ⟨rfl, rfl⟩)
        go_ret
        exact ⟨ret_int (by rw [HS.out, HN.out]), rfl⟩
    · have HN := Lib.hid (span_end (p := blankB) (l := s.data.toList) (k := j) (by rw [HL.out]; omega))
      have hje : j = s.size := by omega
      go_wp2
      all_goals go_ret
      all_goals exact ⟨ret_int (by rw [HS.out, HN.out]; (try omega)), rfl⟩
end Go.Proofs.YtjafmdngbphacaaGreatDoor
