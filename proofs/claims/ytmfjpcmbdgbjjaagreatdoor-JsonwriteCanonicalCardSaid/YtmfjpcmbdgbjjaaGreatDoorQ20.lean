/- The decimal text of a number, and what the first token of it is: plain. Nothing of the program is named here. The canonical text of a value: plain. Nothing of the program is named here. The length of a decimal text: plain. The canonical text determines the value: plain. Nothing of the program is named here. -/
import Derived.Test.YtmfjpcmbdgbjjaaGreatDoorQ03
import Derived.Test.YtmfjpcmbdgbjjaaGreatDoorQ11
import Derived.Test.YtmfjpcmbdgbjjaaGreatDoorQ19
import Derived.Test.YtmfjpcmbdgbjjaaGreatDoorQ13
set_option linter.unusedVariables false
set_option linter.unusedSimpArgs false
namespace Go.Proofs.YtmfjpcmbdgbjjaaGreatDoor
/-- The digits of a number; none of 0. -/
def digF : Nat → Nat → List UInt8
  | 0, _ => []
  | f + 1, v => if v = 0 then [] else digF f (v / 10) ++ [UInt8.ofNat (48 + v % 10)]
def digN (v : Nat) : List UInt8 := digF v v
theorem digF_any : ∀ (f g v : Nat), v ≤ f → v ≤ g → digF f v = digF g v
  | 0, g, v, h1, h2 => by
    have : v = 0 := by omega
    subst this
    cases g <;> simp [digF]
  | f + 1, 0, v, h1, h2 => by
    have : v = 0 := by omega
    subst this
    simp [digF]
  | f + 1, g + 1, v, h1, h2 => by
    unfold digF
    by_cases h : v = 0
    · rw [if_pos h, if_pos h]
    · rw [if_neg h, if_neg h, digF_any f g (v / 10) (by omega) (by omega)]
theorem digN_zero : digN 0 = [] := rfl
theorem digN_pos {v : Nat} (h : v ≠ 0) : digN v = digN (v / 10) ++ [UInt8.ofNat (48 + v % 10)] := by
  obtain ⟨f, rfl⟩ : ∃ f, v = f + 1 := ⟨v - 1, by omega⟩
  have h1 : digN (f + 1) = digF f ((f + 1) / 10) ++ [UInt8.ofNat (48 + (f + 1) % 10)] := by
    show digF (f + 1) (f + 1) = _
    rw [digF, if_neg h]
  rw [h1, digF_any f ((f + 1) / 10) _ (by omega) (Nat.le_refl _)]
  rfl
theorem dig_byte {d : Nat} (h : d < 10) : (UInt8.ofNat (48 + d)).toNat = 48 + d := toNat_ofNat (by omega)
theorem digN_all : ∀ (v : Nat), (∀ b ∈ digN v, digB b = true) ∧ natF 0 (digN v) = v ∧ (v ≠ 0 → ∃ b t, digN v = b :: t ∧ b.toNat ≠ 48) := by
  intro v
  induction v using Nat.strongRecOn with
  | _ v ih =>
    by_cases h : v = 0
    · subst h
      exact ⟨by simp [digN_zero], rfl, fun h => absurd rfl h⟩
    · have hlt : v / 10 < v := by omega
      obtain ⟨h1, h2, h3⟩ := ih (v / 10) hlt
      have hd := dig_byte (d := v % 10) (by omega)
      rw [digN_pos h]
      refine ⟨fun b hb => ?_, ?_, fun _ => ?_⟩
      · rcases List.mem_append.1 hb with hb | hb
        · exact h1 b hb
        · have hb := List.mem_singleton.1 hb
          subst hb
          unfold digB
          rw [hd]; simp; omega
      · rw [natF_app, h2, natF_cons, hd]
        show v / 10 * 10 + (48 + v % 10 - 48) = v
        omega
      · by_cases h10 : v / 10 = 0
        · rw [h10, digN_zero]
          exact ⟨_, _, rfl, by rw [hd]; omega⟩
        · obtain ⟨b, t, hb, hne⟩ := h3 h10
          exact ⟨b, t ++ [UInt8.ofNat (48 + v % 10)], by rw [hb]; rfl, hne⟩
/-- The digits of a number that is not negative. -/
def magL (v : Nat) : List UInt8 := if v = 0 then [48] else digN v
theorem magL_spec (v : Nat) : (∀ b ∈ magL v, digB b = true) ∧ natF 0 (magL v) = v ∧ 1 ≤ (magL v).length ∧ (byt (magL v) 0 = 48 → (magL v).length = 1) := by
  unfold magL
  by_cases h : v = 0
  · rw [if_pos h]
    subst h
    exact ⟨by decide, rfl, by decide, fun _ => rfl⟩
  · rw [if_neg h]
    obtain ⟨h1, h2, h3⟩ := digN_all v
    obtain ⟨b, t, hb, hne⟩ := h3 h
    refine ⟨h1, h2, by rw [hb]; simp, fun h4 => ?_⟩
    rw [hb] at h4
    exact absurd h4 hne
def numL (n : Int) : List UInt8 := if n < 0 then 45 :: magL n.natAbs else magL n.natAbs
theorem span_whole {p : UInt8 → Bool} : ∀ (l r : List UInt8), (∀ b ∈ l, p b = true) → (∀ b, r.head? = some b → p b = false) → ((l ++ r).takeWhile p) = l
  | [], r, _, h => by
    cases r with
    | nil => rfl
    | cons b t => rw [List.nil_append, List.takeWhile_cons, if_neg (by rw [h b rfl]; exact Bool.false_ne_true)]
  | b :: l, r, h1, h2 => by
    rw [List.cons_append, List.takeWhile_cons, if_pos (h1 b (by simp)), span_whole l r (fun c hc => h1 c (by simp [hc])) h2]
theorem span_app {p : UInt8 → Bool} (a l r : List UInt8) (h1 : ∀ b ∈ l, p b = true) (h2 : ∀ b, r.head? = some b → p b = false) : span p (a ++ l ++ r) a.length = a.length + l.length := by
  unfold span
  rw [List.append_assoc, List.drop_left, span_whole l r h1 h2]
theorem sub_app (a l r : List UInt8) : sub (a ++ l ++ r) a.length (a.length + l.length) = l := by
  unfold sub
  rw [List.append_assoc, List.drop_left, Nat.add_sub_cancel_left, List.take_left]
theorem byt_app (a l r : List UInt8) : byt (a ++ l ++ r) (a.length + l.length) = byt r 0 := by
  unfold byt
  rw [← List.length_append, List.getElem?_append_right (Nat.le_refl _), Nat.sub_self]
theorem byt_mid {a l r : List UInt8} (h : 1 ≤ l.length) : byt (a ++ l ++ r) a.length = byt l 0 := by
  unfold byt
  rw [List.append_assoc, List.getElem?_append_right (Nat.le_refl _), Nat.sub_self, List.getElem?_append_left (by omega)]
/-- A number and what follows it. -/
theorem numP_text (n : Int) (hn : -9223372036854775808 ≤ n ∧ n ≤ 9223372036854775807) (r : List UInt8) (hr : ∀ b, r.head? = some b → digB b = false) :
    lexP (numL n ++ r) 0 = if moreB r 0 = true then noX 0 7 else okX 3 0 (numL n).length 0 n ⟨#[]⟩ := by
  obtain ⟨h1, h2, h3, h4⟩ := magL_spec n.natAbs
  have key : ∀ (a : List UInt8), (a = [] ∧ 0 ≤ n) ∨ (a = [45] ∧ n < 0) → lexP (a ++ magL n.natAbs ++ r) 0 = if moreB r 0 = true then noX 0 7 else okX 3 0 (a.length + (magL n.natAbs).length) 0 n ⟨#[]⟩ := by
    intro a ha
    generalize magL n.natAbs = m at h1 h2 h3 h4
    obtain ⟨c, t, rfl⟩ : ∃ c t, m = c :: t := by
      cases m with
      | nil => simp at h3
      | cons c t => exact ⟨c, t, rfl⟩
    have hc : digB c = true := h1 c (by simp)
    have hcd : 48 ≤ c.toNat ∧ c.toNat ≤ 57 := by unfold digB at hc; simpa using hc
    obtain ⟨x, hx0, hx⟩ : ∃ x, (a ++ c :: t ++ r)[0]? = some x ∧ (x.toNat = 45 ∨ digB x = true) := by
      rcases ha with ⟨rfl, _⟩ | ⟨rfl, _⟩
      · exact ⟨c, rfl, .inr hc⟩
      · exact ⟨45, rfl, .inl rfl⟩
    have hxr : x.toNat = 45 ∨ (48 ≤ x.toNat ∧ x.toNat ≤ 57) := by
      rcases hx with h | h
      · exact .inl h
      · unfold digB at h; exact .inr (by simpa using h)
    have hbl : blankB x = false := by unfold blankB; rw [decide_eq_false_iff_not]; omega
    have hsg : signB x = false := by unfold signB; rw [decide_eq_false_iff_not]; omega
    have hlt : letB x = false := by unfold letB; rw [decide_eq_false_iff_not]; omega
    have hsp : span blankB (a ++ c :: t ++ r) 0 = 0 := by
      obtain ⟨g, hg⟩ := List.getElem?_eq_some_iff.1 hx0
      exact span_no g (by rw [hg]; exact hbl)
    have hlen : 0 < (a ++ c :: t ++ r).length := by simp; omega
    have hx1 : (a ++ c :: t ++ r)[0]?.getD 0 = x := by rw [hx0]; rfl
    have hbx : byt (a ++ c :: t ++ r) 0 = x.toNat := by unfold byt; rw [hx1]
    have hf : firstP (a ++ c :: t ++ r) 0 = a.length := by
      unfold firstP
      rw [hbx]
      rcases ha with ⟨rfl, _⟩ | ⟨rfl, _⟩
      · have : x = c := by simpa using hx0.symm
        rw [if_neg (by rw [this]; omega)]; rfl
      · have : x = 45 := by simpa using hx0.symm
        rw [if_pos (by rw [this]; rfl)]; rfl
    have hspan := span_app a (c :: t) r h1 hr
    unfold lexP
    rw [if_neg (by omega)]
    show lexN _ (span blankB _ 0) = _
    rw [hsp]
    unfold lexN
    rw [if_neg (by omega), hx1, if_neg (by rw [hsg]; exact Bool.false_ne_true), if_neg (by rw [hlt]; exact Bool.false_ne_true), if_pos (by rw [hbx]; exact hx)]
    unfold numP
    rw [hf, hspan, if_neg (by simp), byt_mid (by simp), sub_app, hbx]
    have hmore : moreB (a ++ c :: t ++ r) (a.length + (c :: t).length) = moreB r 0 := by unfold moreB; rw [byt_app]
    rw [hmore]
    have hz : ¬ (byt (c :: t) 0 = 48 ∧ a.length + 1 < a.length + (c :: t).length) := fun h => by have := h4 h.1; omega
    rw [if_neg hz]
    have hfit : fitP (decide (x.toNat = 45)) (natF 0 (c :: t)) = some n := by
      rw [h2]
      rcases ha with ⟨rfl, h0⟩ | ⟨rfl, h0⟩
      · have : x = c := by simpa using hx0.symm
        rw [decide_eq_false (by rw [this]; omega)]
        unfold fitP
        simp only []
        rw [if_pos (by omega)]
        congr 1; omega
      · have : x = 45 := by simpa using hx0.symm
        rw [decide_eq_true (by rw [this]; rfl)]
        unfold fitP
        simp only []
        rw [if_pos (by omega)]
        congr 1; omega
    rw [hfit]
  unfold numL
  by_cases hneg : n < 0
  · rw [if_pos hneg]
    have h := key [45] (.inr ⟨rfl, hneg⟩)
    rw [show [45] ++ magL n.natAbs ++ r = 45 :: magL n.natAbs ++ r from rfl] at h
    rw [h]
    show _ = if moreB r 0 = true then noX 0 7 else okX 3 0 ((magL n.natAbs).length + 1) 0 n ⟨#[]⟩
    have e : ([45] : List UInt8).length + (magL n.natAbs).length = (magL n.natAbs).length + 1 := by simp; omega
    rw [e]
  · rw [if_neg hneg]
    have h := key [] (.inl ⟨rfl, by omega⟩)
    rw [List.nil_append] at h
    rw [h]
    simp
end Go.Proofs.YtmfjpcmbdgbjjaaGreatDoor
namespace Go.Proofs.YtmfjpcmbdgbjjaaGreatDoor
def qt (l : List UInt8) : List UInt8 := 34 :: (qbs l ++ [34])
def commas : List (List UInt8) → List UInt8
  | [] => []
  | x :: r => x ++ r.flatMap (44 :: ·)
theorem commas_snoc {l : List (List UInt8)} (x : List UInt8) (h : l ≠ []) : commas (l ++ [x]) = commas l ++ (44 :: x) := by
  cases l with
  | nil => exact absurd rfl h
  | cons y r => simp [commas]
def mem (k t : List UInt8) : List UInt8 := qt k ++ 58 :: t
mutual
def wr : V → List UInt8
  | .mk k n s ks es =>
    if k = 1 then [102, 97, 108, 115, 101] else if k = 2 then [116, 114, 117, 101] else if k = 3 then numL n else if k = 4 then qt s.data.toList
    else if k = 5 then 91 :: (commas (wrM es) ++ [93]) else if k = 6 then 123 :: (commas (List.zipWith (fun x t => mem x.data.toList t) ks (wrM es)) ++ [125]) else [110, 117, 108, 108]
def wrM : List V → List (List UInt8)
  | [] => []
  | e :: es => wr e :: wrM es
end
theorem wrM_eq (es : List V) : wrM es = es.map wr := by
  induction es with
  | nil => rw [wrM]; rfl
  | cons e es ih => rw [wrM, ih]; rfl
theorem wrM_len (es : List V) : (wrM es).length = es.length := by rw [wrM_eq, List.length_map]
def mems (ks : List ByteArray) (es : List V) : List (List UInt8) := List.zipWith (fun x t => mem x.data.toList t) ks (wrM es)
theorem wr_null {k n : Int} {s : ByteArray} {ks : List ByteArray} {es : List V} (h1 : k ≠ 1) (h2 : k ≠ 2) (h3 : k ≠ 3) (h4 : k ≠ 4) (h5 : k ≠ 5) (h6 : k ≠ 6) : wr (.mk k n s ks es) = [110, 117, 108, 108] := by
  rw [wr, if_neg h1, if_neg h2, if_neg h3, if_neg h4, if_neg h5, if_neg h6]
theorem wr_arr (n : Int) (s : ByteArray) (ks : List ByteArray) (es : List V) : wr (.mk 5 n s ks es) = 91 :: (commas (wrM es) ++ [93]) := by
  rw [wr, if_neg (by decide), if_neg (by decide), if_neg (by decide), if_neg (by decide), if_pos rfl]
theorem wr_obj (n : Int) (s : ByteArray) (ks : List ByteArray) (es : List V) : wr (.mk 6 n s ks es) = 123 :: (commas (mems ks es) ++ [125]) := by
  rw [wr, if_neg (by decide), if_neg (by decide), if_neg (by decide), if_neg (by decide), if_neg (by decide), if_pos rfl]
  rfl
theorem wr_str (n : Int) (s : ByteArray) (ks : List ByteArray) (es : List V) : wr (.mk 4 n s ks es) = qt s.data.toList := by
  rw [wr, if_neg (by decide), if_neg (by decide), if_neg (by decide), if_pos rfl]
theorem wr_num (n : Int) (s : ByteArray) (ks : List ByteArray) (es : List V) : wr (.mk 3 n s ks es) = numL n := by
  rw [wr, if_neg (by decide), if_neg (by decide), if_pos rfl]
theorem wr_true (n : Int) (s : ByteArray) (ks : List ByteArray) (es : List V) : wr (.mk 2 n s ks es) = [116, 114, 117, 101] := by
  rw [wr, if_neg (by decide), if_pos rfl]
theorem wr_false (n : Int) (s : ByteArray) (ks : List ByteArray) (es : List V) : wr (.mk 1 n s ks es) = [102, 97, 108, 115, 101] := by
  rw [wr, if_pos rfl]
/-- What is written behind i elements, and the next piece. -/
theorem piece {l : List (List UInt8)} {i : Nat} {x : List UInt8} (hx : l[i]? = some x) : commas (l.take (i + 1)) = commas (l.take i) ++ ((if i = 0 then [] else [44]) ++ x) := by
  rw [List.take_add_one, hx]
  by_cases h : i = 0
  · subst h
    simp [commas]
  · have hne : l.take i ≠ [] := by
      intro he
      have h1 : (l.take i).length = 0 := by rw [he]; rfl
      rw [List.length_take] at h1
      have h2 : i < l.length := (List.getElem?_eq_some_iff.1 hx).1
      omega
    rw [if_neg h, Option.toList_some, commas_snoc x hne]
    rfl
theorem wrM_at {es : List V} {i : Nat} {e : V} (h : es[i]? = some e) : (wrM es)[i]? = some (wr e) := by rw [wrM_eq, List.getElem?_map, h]; rfl
theorem mems_at {ks : List ByteArray} {es : List V} {i : Nat} {x : ByteArray} {e : V} (hk : ks[i]? = some x) (h : es[i]? = some e) : (mems ks es)[i]? = some (mem x.data.toList (wr e)) := by
  unfold mems
  rw [List.getElem?_zipWith, hk, wrM_at h]
theorem mems_len {ks : List ByteArray} {es : List V} (h : ks.length = es.length) : (mems ks es).length = es.length := by
  unfold mems
  rw [List.length_zipWith, wrM_len, h, Nat.min_self]
/-- A beginning is no longer than the whole. -/
theorem commas_take_le : ∀ (l : List (List UInt8)) (i : Nat), (commas (l.take i)).length ≤ (commas l).length := by
  intro l i
  cases l with
  | nil => simp
  | cons x r =>
    cases i with
    | zero => simp [commas]
    | succ i =>
      rw [List.take_succ_cons, commas, commas, List.length_append, List.length_append]
      have h : ((r.take i).flatMap (44 :: ·)).length ≤ (r.flatMap (44 :: ·)).length := by
        conv => rhs; rw [← List.take_append_drop i r, List.flatMap_append, List.length_append]
        omega
      omega
theorem qt_len (l : List UInt8) : l.length + 2 ≤ (qt l).length ∧ (qt l).length ≤ 6 * l.length + 2 := by
  have := qbs_len l
  unfold qt
  rw [List.length_cons, List.length_append, List.length_singleton]
  omega
end Go.Proofs.YtmfjpcmbdgbjjaaGreatDoor
namespace Go.Proofs.YtmfjpcmbdgbjjaaGreatDoor
open Go.RowKit
theorem digN_len : ∀ (k v : Nat), v < 10 ^ k → (digN v).length ≤ k
  | 0, v, h => by
    have : v = 0 := by simpa using h
    subst this
    exact Nat.le_refl _
  | k + 1, v, h => by
    by_cases h0 : v = 0
    · subst h0; exact Nat.zero_le _
    · rw [digN_pos h0, List.length_append]
      have := digN_len k (v / 10) (by rw [Nat.pow_succ] at h; exact Nat.div_lt_of_lt_mul (by rw [Nat.mul_comm]; exact h))
      simp; omega
theorem numL_len {n : Int} (hn : -9223372036854775808 ≤ n ∧ n ≤ 9223372036854775807) : 1 ≤ (numL n).length ∧ (numL n).length ≤ 21 := by
  have h := digN_len 20 n.natAbs (by simp; omega)
  obtain ⟨-, -, h3, -⟩ := magL_spec n.natAbs
  have h4 : (magL n.natAbs).length ≤ 20 := by
    unfold magL
    split
    · simp
    · exact h
  unfold numL
  split
  · simp; omega
  · omega
end Go.Proofs.YtmfjpcmbdgbjjaaGreatDoor
namespace Go.Proofs.YtmfjpcmbdgbjjaaGreatDoor
/-- What may stand behind a value. -/
def Dl (r : List UInt8) : Prop := ∀ b, r.head? = some b → b.toNat = 44 ∨ b.toNat = 93 ∨ b.toNat = 125
theorem Dl.nil : Dl [] := fun b h => by cases h
theorem Dl.cons {b : UInt8} {t : List UInt8} (h : b.toNat = 44 ∨ b.toNat = 93 ∨ b.toNat = 125) : Dl (b :: t) := fun c hc => by
  simp only [List.head?_cons, Option.some.injEq] at hc
  rw [← hc]; exact h
theorem Dl.dig {r : List UInt8} (h : Dl r) : ∀ b, r.head? = some b → digB b = false := fun b hb => by
  have := h b hb
  unfold digB
  simp; omega
theorem magL_head (v : Nat) : ∃ b t, magL v = b :: t ∧ 48 ≤ b.toNat ∧ b.toNat ≤ 57 := by
  obtain ⟨a1, a2, a3, a4⟩ := magL_spec v
  cases h : magL v with
  | nil => rw [h] at a3; simp at a3
  | cons b t =>
    have := a1 b (by rw [h]; simp)
    unfold digB at this
    simp at this
    exact ⟨b, t, rfl, this⟩
theorem numL_head (n : Int) : ∃ b t, numL n = b :: t ∧ (b.toNat = 45 ∨ 48 ≤ b.toNat ∧ b.toNat ≤ 57) := by
  unfold numL
  split
  · exact ⟨45, _, rfl, .inl rfl⟩
  · obtain ⟨b, t, h, h2⟩ := magL_head n.natAbs
    exact ⟨b, t, h, .inr h2⟩
theorem wr_head (v : V) : ∃ b t, wr v = b :: t ∧ b.toNat ≠ 93 ∧ b.toNat ≠ 125 := by
  obtain ⟨k, n, s, ks, es⟩ := v
  rw [wr]
  (repeat' split) <;> first
    | exact ⟨_, _, rfl, by decide, by decide⟩
    | (obtain ⟨b, t, h, h2⟩ := numL_head n; exact ⟨b, t, h, by omega, by omega⟩)
theorem good_parts {k n : Int} {s : ByteArray} {ks : List ByteArray} {es : List V} (h : good (.mk k n s ks es) = true) : fits k n s ks.length es.length = true ∧ goodL es = true := by
  rw [good] at h
  simp only [Bool.and_eq_true] at h
  exact ⟨h.1, h.2.2.2.2.2⟩
theorem goodL_memW {e : V} {es : List V} (h : goodL es = true) (he : e ∈ es) : good e = true := by
  induction es with
  | nil => cases he
  | cons x es ih =>
    rw [goodL, Bool.and_eq_true] at h
    rcases List.mem_cons.1 he with rfl | he
    · exact h.1
    · exact ih h.2 he
theorem str_nil {s : ByteArray} (h : s.size = 0) : s = ⟨#[]⟩ := by
  cases s with
  | mk d => congr 1; exact Array.eq_empty_of_size_eq_zero h
/-- What a valid value is, kind by kind. -/
theorem fits_kind {k n : Int} {s : ByteArray} {nk ne : Nat} (h : fits k n s nk ne = true) :
    ((k = 0 ∨ k = 1 ∨ k = 2) ∧ n = 0 ∧ s.size = 0 ∧ nk = 0 ∧ ne = 0) ∨ (k = 3 ∧ s.size = 0 ∧ nk = 0 ∧ ne = 0) ∨ (k = 4 ∧ n = 0 ∧ nk = 0 ∧ ne = 0) ∨ (k = 5 ∧ n = 0 ∧ s.size = 0 ∧ nk = 0) ∨ (k = 6 ∧ n = 0 ∧ s.size = 0 ∧ nk = ne) := by
  unfold fits at h
  generalize s.size = z at h ⊢
  (repeat' split at h) <;> simp at h <;> omega
theorem nil_of {α : Type} {l : List α} (h : l.length = 0) : l = [] := List.eq_nil_of_length_eq_zero h
theorem zip_fst {α β : Type} : ∀ (l : List α) (m : List β), l.length = m.length → (l.zip m).map Prod.fst = l ∧ (l.zip m).map Prod.snd = m
  | [], [], _ => ⟨rfl, rfl⟩
  | [], b :: m, h => by simp at h
  | a :: l, [], h => by simp at h
  | a :: l, b :: m, h => by
    obtain ⟨h1, h2⟩ := zip_fst l m (by simpa using h)
    simp [h1, h2]
theorem mems_map (ks : List ByteArray) (es : List V) : mems ks es = (ks.zip es).map (fun x => mem x.1.data.toList (wr x.2)) := by
  unfold mems
  rw [wrM_eq]
  induction ks generalizing es with
  | nil => rfl
  | cons k ks ih =>
    cases es with
    | nil => rfl
    | cons e es => simp [ih]
theorem wr_ne (v : V) : wr v ≠ [] := by
  obtain ⟨b, t, h, _⟩ := wr_head v
  rw [h]; simp
end Go.Proofs.YtmfjpcmbdgbjjaaGreatDoor
