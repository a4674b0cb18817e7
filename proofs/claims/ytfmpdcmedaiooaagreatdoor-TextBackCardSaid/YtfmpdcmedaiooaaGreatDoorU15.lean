/- The quoted text of a string: what the first token of it and of its beginnings is. Nothing of the program is named here. The decimal text of a number, and what the first token of it is: plain. Nothing of the program is named here. The canonical text of a value: plain. Nothing of the program is named here. The length of a decimal text: plain. The canonical text determines the value: plain. Nothing of the program is named here. The parser of JSON texts as functions on the list of bytes: what each method does, as the program's text says it. Nothing of the program is named here. -/
import Derived.Test.YtfmpdcmedaiooaaGreatDoorU02
import Derived.Test.YtfmpdcmedaiooaaGreatDoorU03
import Derived.Test.YtfmpdcmedaiooaaGreatDoorU09
import Derived.Test.YtfmpdcmedaiooaaGreatDoorU10
set_option linter.unusedVariables false
set_option linter.unusedSimpArgs false
namespace Go.Proofs.YtfmpdcmedaiooaaGreatDoor
open Go.RowKit
def hx (n : Nat) : UInt8 := if n < 10 then UInt8.ofNat (48 + n) else UInt8.ofNat (87 + n)
/-- What is written of a byte. -/
def qb (c : UInt8) : List UInt8 :=
  if c.toNat = 34 ∨ c.toNat = 92 then [92, c] else if c.toNat = 8 then [92, 98] else if c.toNat = 9 then [92, 116] else if c.toNat = 10 then [92, 110]
  else if c.toNat = 12 then [92, 102] else if c.toNat = 13 then [92, 114] else if c.toNat < 32 then [92, 117, 48, 48, hx (c.toNat / 16), hx (c.toNat % 16)] else [c]
def qbs (l : List UInt8) : List UInt8 := l.flatMap qb
theorem qbs_nil : qbs [] = [] := rfl
theorem qbs_cons (c : UInt8) (l : List UInt8) : qbs (c :: l) = qb c ++ qbs l := by simp [qbs]
theorem qbs_append (a b : List UInt8) : qbs (a ++ b) = qbs a ++ qbs b := by simp [qbs]
theorem qb_len (c : UInt8) : 1 ≤ (qb c).length ∧ (qb c).length ≤ 6 := by unfold qb; (repeat' split) <;> simp
theorem qbs_len (l : List UInt8) : l.length ≤ (qbs l).length ∧ (qbs l).length ≤ 6 * l.length := by
  induction l with
  | nil => exact ⟨Nat.le_refl _, Nat.le_refl _⟩
  | cons c l ih =>
    have := qb_len c
    rw [qbs_cons, List.length_append, List.length_cons]
    omega
theorem qb_high {c : UInt8} (h : 128 ≤ c.toNat) : qb c = [c] := by
  unfold qb
  rw [if_neg (by omega), if_neg (by omega), if_neg (by omega), if_neg (by omega), if_neg (by omega), if_neg (by omega), if_neg (by omega)]
theorem qbs_high : ∀ {l : List UInt8}, (∀ c ∈ l, 128 ≤ c.toNat) → qbs l = l
  | [], h => rfl
  | c :: l, h => by
    rw [qbs_cons, qb_high (h c (by simp)), qbs_high (fun x hx => h x (by simp [hx]))]
    rfl
theorem enc_low {r : Nat} (h : r < 128) : enc r = [UInt8.ofNat r] := by unfold enc; rw [if_pos h]
theorem enc_high {r : Nat} (h : 128 ≤ r) (h2 : r ≤ 1114111) : ∀ c ∈ enc r, 128 ≤ c.toNat := by
  unfold enc
  intro c hc
  (repeat' split at hc) <;> simp only [List.mem_cons, List.not_mem_nil, or_false] at hc
  · omega
  · rcases hc with rfl | rfl <;> (rw [toNat_ofNat (by omega)]; omega)
  · rcases hc with rfl | rfl | rfl <;> (rw [toNat_ofNat (by omega)]; omega)
  · rcases hc with rfl | rfl | rfl | rfl <;> (rw [toNat_ofNat (by omega)]; omega)
set_option maxRecDepth 10000 in
theorem el_low (r : Nat) (h : r < 128) (t : List UInt8) : elP (qb (UInt8.ofNat r) ++ t) = .add r (qb (UInt8.ofNat r)).length := by
  by_cases h1 : r < 32
  · (repeat (rcases Nat.lt_succ_iff_lt_or_eq.mp h1 with h1 | rfl; rotate_left; rfl))
    omega
  · by_cases h2 : r = 34
    · subst h2; rfl
    · by_cases h3 : r = 92
      · subst h3; rfl
      · have e1 : (UInt8.ofNat r).toNat = r := toNat_ofNat (by omega)
        have e2 : qb (UInt8.ofNat r) = [UInt8.ofNat r] := by
          unfold qb
          rw [e1, if_neg (by omega), if_neg (by omega), if_neg (by omega), if_neg (by omega), if_neg (by omega), if_neg (by omega), if_neg (by omega)]
        rw [e2]
        show elP (UInt8.ofNat r :: t) = _
        rw [elP, e1, if_neg h2, if_neg h3, if_neg h1, dec_cons, e1, if_pos h]
        rfl
theorem el_high {r : Nat} (h : 128 ≤ r) (hc : cp (r : Int) = true) (t : List UInt8) : elP (enc r ++ t) = .add r (enc r).length := by
  have h2 := (cp_range hc).1
  have h3 := enc_high h h2
  have h4 := dec_enc hc t
  cases hE : enc r with
  | nil => have := (enc_len r).1; rw [hE] at this; simp at this
  | cons b u =>
    rw [hE] at h3 h4
    have h5 := h3 b (by simp)
    rw [List.cons_append] at h4 ⊢
    rw [elP, if_neg (by omega), if_neg (by omega), if_neg (by omega), h4]
theorem el_add {r : Nat} (hc : cp (r : Int) = true) (t : List UInt8) : elP (qbs (enc r) ++ t) = .add r (qbs (enc r)).length := by
  by_cases h : r < 128
  · have e : qbs (enc r) = qb (UInt8.ofNat r) := by rw [enc_low h, qbs_cons, qbs_nil, List.append_nil]
    rw [e]
    exact el_low r h t
  · rw [qbs_high (enc_high (by omega) (cp_range hc).1)]
    exact el_high (by omega) hc t
theorem low_encs : ∀ (l : List UInt8), (∀ c ∈ l, c.toNat < 128) → ∃ ys : List Nat, encs ys = l ∧ ∀ r ∈ ys, cp (r : Int) = true
  | [], h => ⟨[], rfl, fun r hr => by cases hr⟩
  | c :: l, h => by
    obtain ⟨ys, h1, h2⟩ := low_encs l (fun x hx => h x (by simp [hx]))
    have hc := h c (by simp)
    refine ⟨c.toNat :: ys, ?_, ?_⟩
    · rw [encs_cons, h1, enc_low hc]
      simp
    · intro r hr
      rcases List.mem_cons.1 hr with rfl | hr
      · unfold cp; simp; omega
      · exact h2 r hr
theorem qb_low {r : Nat} (h : r < 128) : ∀ c ∈ qb (UInt8.ofNat r), c.toNat < 128 := by
  have h1 : ∀ r : Fin 128, ∀ c ∈ qb (UInt8.ofNat r.val), c.toNat < 128 := by decide +kernel
  exact h1 ⟨r, h⟩
theorem text_encs : ∀ (xs : List Nat), (∀ r ∈ xs, cp (r : Int) = true) → ∃ ys : List Nat, encs ys = qbs (encs xs) ∧ ∀ r ∈ ys, cp (r : Int) = true
  | [], h => ⟨[], rfl, fun r hr => by cases hr⟩
  | r :: xs, h => by
    obtain ⟨ys, h1, h2⟩ := text_encs xs (fun x hx => h x (by simp [hx]))
    have hc := h r (by simp)
    obtain ⟨zs, h3, h4⟩ : ∃ zs : List Nat, encs zs = qbs (enc r) ∧ ∀ r ∈ zs, cp (r : Int) = true := by
      by_cases hr : r < 128
      · have e : qbs (enc r) = qb (UInt8.ofNat r) := by rw [enc_low hr, qbs_cons, qbs_nil, List.append_nil]
        rw [e]
        exact low_encs _ (qb_low hr)
      · rw [qbs_high (enc_high (by omega) (cp_range hc).1)]
        exact ⟨[r], by simp [encs], fun x hx => by rw [List.mem_singleton.1 hx]; exact hc⟩
    refine ⟨zs ++ ys, ?_, fun x hx => ?_⟩
    · rw [encs_append, encs_cons, qbs_append, h1, h3]
    · rcases List.mem_append.1 hx with hx | hx
      · exact h4 x hx
      · exact h2 x hx
/-- A scan over whole elements. -/
theorem scan_over (t : List UInt8) : ∀ (xs ds : List Nat), (∀ r ∈ xs, cp (r : Int) = true) → ∀ (l : List UInt8), l = 34 :: (qbs (encs ds) ++ (qbs (encs xs) ++ t)) → StrAt l 0 (1 + (qbs (encs ds)).length) (encs ds) → StrAt l 0 (1 + (qbs (encs (ds ++ xs))).length) (encs (ds ++ xs))
  | [], ds, h, l, hl, hA => by rw [List.append_nil]; exact hA
  | r :: xs, ds, h, l, hl, hA => by
    have hd : l.drop (1 + (qbs (encs ds)).length) = qbs (enc r) ++ (qbs (encs xs) ++ t) := by
      rw [hl, Nat.add_comm, List.drop_succ_cons, List.drop_left, encs_cons, qbs_append, List.append_assoc]
    have hn := hA.next (by rw [hd]; exact el_add (h r (by simp)) _)
    have e1 : ds ++ r :: xs = (ds ++ [r]) ++ xs := by simp
    have e2 : encs (ds ++ [r]) = encs ds ++ enc r := encs_snoc ds r
    rw [e1]
    refine scan_over t xs (ds ++ [r]) (fun x hx => h x (by simp [hx])) l ?_ ?_
    · rw [hl, e2, encs_cons, qbs_append, qbs_append]; simp
    · rw [e2, qbs_append, List.length_append, ← Nat.add_assoc]; exact hn
theorem lex_str {l : List UInt8} : lexP (34 :: l) 0 = strP (34 :: l) 0 := by
  unfold lexP
  rw [if_neg (by simp; omega)]
  have hs : span blankB (34 :: l) (0 : Int).toNat = 0 := span_no (k := 0) (by simp) rfl
  rw [hs]
  unfold lexN
  have e1 : (34 :: l)[0]?.getD 0 = (34 : UInt8) := by simp
  have e2 : byt (34 :: l) 0 = 34 := by unfold byt; rw [e1]; rfl
  rw [e1, e2, if_neg (by simp), if_neg (by decide), if_neg (by decide), if_neg (by decide), if_pos rfl]
end Go.Proofs.YtfmpdcmedaiooaaGreatDoor
namespace Go.Proofs.YtfmpdcmedaiooaaGreatDoor
/-- The digits of a number; none of 0. -/
def digF : Nat → Nat → List UInt8
  | 0, _ => []
  | f + 1, v => if v = 0 then [] else digF f (v / 10) ++ [UInt8.ofNat (48 + v % 10)]
def digN (v : Nat) : List UInt8 := digF v v
theorem digF_any : ∀ (f g v : Nat), v ≤ f → v ≤ g → digF f v = digF g v
  | 0, g, v, h1, h2 => by
    have : v = 0 := by omega
    subst this
    cases g <;> simp [digF]
  | f + 1, 0, v, h1, h2 => by
    have : v = 0 := by omega
    subst this
    simp [digF]
  | f + 1, g + 1, v, h1, h2 => by
    unfold digF
    by_cases h : v = 0
    · rw [if_pos h, if_pos h]
    · rw [if_neg h, if_neg h, digF_any f g (v / 10) (by omega) (by omega)]
theorem digN_zero : digN 0 = [] := rfl
theorem digN_pos {v : Nat} (h : v ≠ 0) : digN v = digN (v / 10) ++ [UInt8.ofNat (48 + v % 10)] := by
  obtain ⟨f, rfl⟩ : ∃ f, v = f + 1 := ⟨v - 1, by omega⟩
  have h1 : digN (f + 1) = digF f ((f + 1) / 10) ++ [UInt8.ofNat (48 + (f + 1) % 10)] := by
    show digF (f + 1) (f + 1) = _
    rw [digF, if_neg h]
  rw [h1, digF_any f ((f + 1) / 10) _ (by omega) (Nat.le_refl _)]
  rfl
theorem dig_byte {d : Nat} (h : d < 10) : (UInt8.ofNat (48 + d)).toNat = 48 + d := toNat_ofNat (by omega)
theorem digN_all : ∀ (v : Nat), (∀ b ∈ digN v, digB b = true) ∧ natF 0 (digN v) = v ∧ (v ≠ 0 → ∃ b t, digN v = b :: t ∧ b.toNat ≠ 48) := by
  intro v
  induction v using Nat.strongRecOn with
  | _ v ih =>
    by_cases h : v = 0
    · subst h
      exact ⟨by simp [digN_zero], rfl, fun h => absurd rfl h⟩
    · have hlt : v / 10 < v := by omega
      obtain ⟨h1, h2, h3⟩ := ih (v / 10) hlt
      have hd := dig_byte (d := v % 10) (by omega)
      rw [digN_pos h]
      refine ⟨fun b hb => ?_, ?_, fun _ => ?_⟩
      · rcases List.mem_append.1 hb with hb | hb
        · exact h1 b hb
        · have hb := List.mem_singleton.1 hb
          subst hb
          unfold digB
          rw [hd]; simp; omega
      · rw [natF_app, h2, natF_cons, hd]
        show v / 10 * 10 + (48 + v % 10 - 48) = v
        omega
      · by_cases h10 : v / 10 = 0
        · rw [h10, digN_zero]
          exact ⟨_, _, rfl, by rw [hd]; omega⟩
        · obtain ⟨b, t, hb, hne⟩ := h3 h10
          exact ⟨b, t ++ [UInt8.ofNat (48 + v % 10)], by rw [hb]; rfl, hne⟩
/-- The digits of a number that is not negative. -/
def magL (v : Nat) : List UInt8 := if v = 0 then [48] else digN v
theorem magL_spec (v : Nat) : (∀ b ∈ magL v, digB b = true) ∧ natF 0 (magL v) = v ∧ 1 ≤ (magL v).length ∧ (byt (magL v) 0 = 48 → (magL v).length = 1) := by
  unfold magL
  by_cases h : v = 0
  · rw [if_pos h]
    subst h
    exact ⟨by decide, rfl, by decide, fun _ => rfl⟩
  · rw [if_neg h]
    obtain ⟨h1, h2, h3⟩ := digN_all v
    obtain ⟨b, t, hb, hne⟩ := h3 h
    refine ⟨h1, h2, by rw [hb]; simp, fun h4 => ?_⟩
    rw [hb] at h4
    exact absurd h4 hne
def numL (n : Int) : List UInt8 := if n < 0 then 45 :: magL n.natAbs else magL n.natAbs
theorem span_whole {p : UInt8 → Bool} : ∀ (l r : List UInt8), (∀ b ∈ l, p b = true) → (∀ b, r.head? = some b → p b = false) → ((l ++ r).takeWhile p) = l
  | [], r, _, h => by
    cases r with
    | nil => rfl
    | cons b t => rw [List.nil_append, List.takeWhile_cons, if_neg (by rw [h b rfl]; exact Bool.false_ne_true)]
  | b :: l, r, h1, h2 => by
    rw [List.cons_append, List.takeWhile_cons, if_pos (h1 b (by simp)), span_whole l r (fun c hc => h1 c (by simp [hc])) h2]
theorem span_app {p : UInt8 → Bool} (a l r : List UInt8) (h1 : ∀ b ∈ l, p b = true) (h2 : ∀ b, r.head? = some b → p b = false) : span p (a ++ l ++ r) a.length = a.length + l.length := by
  unfold span
  rw [List.append_assoc, List.drop_left, span_whole l r h1 h2]
theorem sub_app (a l r : List UInt8) : sub (a ++ l ++ r) a.length (a.length + l.length) = l := by
  unfold sub
  rw [List.append_assoc, List.drop_left, Nat.add_sub_cancel_left, List.take_left]
theorem byt_app (a l r : List UInt8) : byt (a ++ l ++ r) (a.length + l.length) = byt r 0 := by
  unfold byt
  rw [← List.length_append, List.getElem?_append_right (Nat.le_refl _), Nat.sub_self]
theorem byt_mid {a l r : List UInt8} (h : 1 ≤ l.length) : byt (a ++ l ++ r) a.length = byt l 0 := by
  unfold byt
  rw [List.append_assoc, List.getElem?_append_right (Nat.le_refl _), Nat.sub_self, List.getElem?_append_left (by omega)]
/-- A number and what follows it. -/
theorem numP_text (n : Int) (hn : -9223372036854775808 ≤ n ∧ n ≤ 9223372036854775807) (r : List UInt8) (hr : ∀ b, r.head? = some b → digB b = false) :
    lexP (numL n ++ r) 0 = if moreB r 0 = true then noX 0 7 else okX 3 0 (numL n).length 0 n ⟨#[]⟩ := by
  obtain ⟨h1, h2, h3, h4⟩ := magL_spec n.natAbs
  have key : ∀ (a : List UInt8), (a = [] ∧ 0 ≤ n) ∨ (a = [45] ∧ n < 0) → lexP (a ++ magL n.natAbs ++ r) 0 = if moreB r 0 = true then noX 0 7 else okX 3 0 (a.length + (magL n.natAbs).length) 0 n ⟨#[]⟩ := by
    intro a ha
    generalize magL n.natAbs = m at h1 h2 h3 h4
    obtain ⟨c, t, rfl⟩ : ∃ c t, m = c :: t := by
      cases m with
      | nil => simp at h3
      | cons c t => exact ⟨c, t, rfl⟩
    have hc : digB c = true := h1 c (by simp)
    have hcd : 48 ≤ c.toNat ∧ c.toNat ≤ 57 := by unfold digB at hc; simpa using hc
    obtain ⟨x, hx0, hx⟩ : ∃ x, (a ++ c :: t ++ r)[0]? = some x ∧ (x.toNat = 45 ∨ digB x = true) := by
      rcases ha with ⟨rfl, _⟩ | ⟨rfl, _⟩
      · exact ⟨c, rfl, .inr hc⟩
      · exact ⟨45, rfl, .inl rfl⟩
    have hxr : x.toNat = 45 ∨ (48 ≤ x.toNat ∧ x.toNat ≤ 57) := by
      rcases hx with h | h
      · exact .inl h
      · unfold digB at h; exact .inr (by simpa using h)
    have hbl : blankB x = false := by unfold blankB; rw [decide_eq_false_iff_not]; omega
    have hsg : signB x = false := by unfold signB; rw [decide_eq_false_iff_not]; omega
    have hlt : letB x = false := by unfold letB; rw [decide_eq_false_iff_not]; omega
    have hsp : span blankB (a ++ c :: t ++ r) 0 = 0 := by
      obtain ⟨g, hg⟩ := List.getElem?_eq_some_iff.1 hx0
      exact span_no g (by rw [hg]; exact hbl)
    have hlen : 0 < (a ++ c :: t ++ r).length := by simp; omega
    have hx1 : (a ++ c :: t ++ r)[0]?.getD 0 = x := by rw [hx0]; rfl
    have hbx : byt (a ++ c :: t ++ r) 0 = x.toNat := by unfold byt; rw [hx1]
    have hf : firstP (a ++ c :: t ++ r) 0 = a.length := by
      unfold firstP
      rw [hbx]
      rcases ha with ⟨rfl, _⟩ | ⟨rfl, _⟩
      · have : x = c := by simpa using hx0.symm
        rw [if_neg (by rw [this]; omega)]; rfl
      · have : x = 45 := by simpa using hx0.symm
        rw [if_pos (by rw [this]; rfl)]; rfl
    have hspan := span_app a (c :: t) r h1 hr
    unfold lexP
    rw [if_neg (by omega)]
    show lexN _ (span blankB _ 0) = _
    rw [hsp]
    unfold lexN
    rw [if_neg (by omega), hx1, if_neg (by rw [hsg]; exact Bool.false_ne_true), if_neg (by rw [hlt]; exact Bool.false_ne_true), if_pos (by rw [hbx]; exact hx)]
    unfold numP
    rw [hf, hspan, if_neg (by simp), byt_mid (by simp), sub_app, hbx]
    have hmore : moreB (a ++ c :: t ++ r) (a.length + (c :: t).length) = moreB r 0 := by unfold moreB; rw [byt_app]
    rw [hmore]
    have hz : ¬ (byt (c :: t) 0 = 48 ∧ a.length + 1 < a.length + (c :: t).length) := fun h => by have := h4 h.1; omega
    rw [if_neg hz]
    have hfit : fitP (decide (x.toNat = 45)) (natF 0 (c :: t)) = some n := by
      rw [h2]
      rcases ha with ⟨rfl, h0⟩ | ⟨rfl, h0⟩
      · have : x = c := by simpa using hx0.symm
        rw [decide_eq_false (by rw [this]; omega)]
        unfold fitP
        simp only []
        rw [if_pos (by omega)]
        congr 1; omega
      · have : x = 45 := by simpa using hx0.symm
        rw [decide_eq_true (by rw [this]; rfl)]
        unfold fitP
        simp only []
        rw [if_pos (by omega)]
        congr 1; omega
    rw [hfit]
  unfold numL
  by_cases hneg : n < 0
  · rw [if_pos hneg]
    have h := key [45] (.inr ⟨rfl, hneg⟩)
    rw [show [45] ++ magL n.natAbs ++ r = 45 :: magL n.natAbs ++ r from rfl] at h
    rw [h]
    show _ = if moreB r 0 = true then noX 0 7 else okX 3 0 ((magL n.natAbs).length + 1) 0 n ⟨#[]⟩
    have e : ([45] : List UInt8).length + (magL n.natAbs).length = (magL n.natAbs).length + 1 := by simp; omega
    rw [e]
  · rw [if_neg hneg]
    have h := key [] (.inl ⟨rfl, by omega⟩)
    rw [List.nil_append] at h
    rw [h]
    simp
end Go.Proofs.YtfmpdcmedaiooaaGreatDoor
namespace Go.Proofs.YtfmpdcmedaiooaaGreatDoor
def qt (l : List UInt8) : List UInt8 := 34 :: (qbs l ++ [34])
def commas : List (List UInt8) → List UInt8
  | [] => []
  | x :: r => x ++ r.flatMap (44 :: ·)
theorem commas_snoc {l : List (List UInt8)} (x : List UInt8) (h : l ≠ []) : commas (l ++ [x]) = commas l ++ (44 :: x) := by
  cases l with
  | nil => exact absurd rfl h
  | cons y r => simp [commas]
def mem (k t : List UInt8) : List UInt8 := qt k ++ 58 :: t
mutual
def wr : V → List UInt8
  | .mk k n s ks es =>
    if k = 1 then [102, 97, 108, 115, 101] else if k = 2 then [116, 114, 117, 101] else if k = 3 then numL n else if k = 4 then qt s.data.toList
    else if k = 5 then 91 :: (commas (wrM es) ++ [93]) else if k = 6 then 123 :: (commas (List.zipWith (fun x t => mem x.data.toList t) ks (wrM es)) ++ [125]) else [110, 117, 108, 108]
def wrM : List V → List (List UInt8)
  | [] => []
  | e :: es => wr e :: wrM es
end
theorem wrM_eq (es : List V) : wrM es = es.map wr := by
  induction es with
  | nil => rw [wrM]; rfl
  | cons e es ih => rw [wrM, ih]; rfl
theorem wrM_len (es : List V) : (wrM es).length = es.length := by rw [wrM_eq, List.length_map]
def mems (ks : List ByteArray) (es : List V) : List (List UInt8) := List.zipWith (fun x t => mem x.data.toList t) ks (wrM es)
theorem wr_null {k n : Int} {s : ByteArray} {ks : List ByteArray} {es : List V} (h1 : k ≠ 1) (h2 : k ≠ 2) (h3 : k ≠ 3) (h4 : k ≠ 4) (h5 : k ≠ 5) (h6 : k ≠ 6) : wr (.mk k n s ks es) = [110, 117, 108, 108] := by
  rw [wr, if_neg h1, if_neg h2, if_neg h3, if_neg h4, if_neg h5, if_neg h6]
theorem wr_arr (n : Int) (s : ByteArray) (ks : List ByteArray) (es : List V) : wr (.mk 5 n s ks es) = 91 :: (commas (wrM es) ++ [93]) := by
  rw [wr, if_neg (by decide), if_neg (by decide), if_neg (by decide), if_neg (by decide), if_pos rfl]
theorem wr_obj (n : Int) (s : ByteArray) (ks : List ByteArray) (es : List V) : wr (.mk 6 n s ks es) = 123 :: (commas (mems ks es) ++ [125]) := by
  rw [wr, if_neg (by decide), if_neg (by decide), if_neg (by decide), if_neg (by decide), if_neg (by decide), if_pos rfl]
  rfl
theorem wr_str (n : Int) (s : ByteArray) (ks : List ByteArray) (es : List V) : wr (.mk 4 n s ks es) = qt s.data.toList := by
  rw [wr, if_neg (by decide), if_neg (by decide), if_neg (by decide), if_pos rfl]
theorem wr_num (n : Int) (s : ByteArray) (ks : List ByteArray) (es : List V) : wr (.mk 3 n s ks es) = numL n := by
  rw [wr, if_neg (by decide), if_neg (by decide), if_pos rfl]
theorem wr_true (n : Int) (s : ByteArray) (ks : List ByteArray) (es : List V) : wr (.mk 2 n s ks es) = [116, 114, 117, 101] := by
  rw [wr, if_neg (by decide), if_pos rfl]
theorem wr_false (n : Int) (s : ByteArray) (ks : List ByteArray) (es : List V) : wr (.mk 1 n s ks es) = [102, 97, 108, 115, 101] := by
  rw [wr, if_pos rfl]
/-- What is written behind i elements, and the next piece. -/
theorem piece {l : List (List UInt8)} {i : Nat} {x : List UInt8} (hx : l[i]? = some x) : commas (l.take (i + 1)) = commas (l.take i) ++ ((if i = 0 then [] else [44]) ++ x) := by
  rw [List.take_add_one, hx]
  by_cases h : i = 0
  · subst h
    simp [commas]
  · have hne : l.take i ≠ [] := by
      intro he
      have h1 : (l.take i).length = 0 := by rw [he]; rfl
      rw [List.length_take] at h1
      have h2 : i < l.length := (List.getElem?_eq_some_iff.1 hx).1
      omega
    rw [if_neg h, Option.toList_some, commas_snoc x hne]
    rfl
theorem wrM_at {es : List V} {i : Nat} {e : V} (h : es[i]? = some e) : (wrM es)[i]? = some (wr e) := by rw [wrM_eq, List.getElem?_map, h]; rfl
theorem mems_at {ks : List ByteArray} {es : List V} {i : Nat} {x : ByteArray} {e : V} (hk : ks[i]? = some x) (h : es[i]? = some e) : (mems ks es)[i]? = some (mem x.data.toList (wr e)) := by
  unfold mems
  rw [List.getElem?_zipWith, hk, wrM_at h]
theorem mems_len {ks : List ByteArray} {es : List V} (h : ks.length = es.length) : (mems ks es).length = es.length := by
  unfold mems
  rw [List.length_zipWith, wrM_len, h, Nat.min_self]
/-- A beginning is no longer than the whole. -/
theorem commas_take_le : ∀ (l : List (List UInt8)) (i : Nat), (commas (l.take i)).length ≤ (commas l).length := by
  intro l i
  cases l with
  | nil => simp
  | cons x r =>
    cases i with
    | zero => simp [commas]
    | succ i =>
      rw [List.take_succ_cons, commas, commas, List.length_append, List.length_append]
      have h : ((r.take i).flatMap (44 :: ·)).length ≤ (r.flatMap (44 :: ·)).length := by
        conv => rhs; rw [← List.take_append_drop i r, List.flatMap_append, List.length_append]
        omega
      omega
theorem qt_len (l : List UInt8) : l.length + 2 ≤ (qt l).length ∧ (qt l).length ≤ 6 * l.length + 2 := by
  have := qbs_len l
  unfold qt
  rw [List.length_cons, List.length_append, List.length_singleton]
  omega
end Go.Proofs.YtfmpdcmedaiooaaGreatDoor
namespace Go.Proofs.YtfmpdcmedaiooaaGreatDoor
open Go.RowKit
theorem digN_len : ∀ (k v : Nat), v < 10 ^ k → (digN v).length ≤ k
  | 0, v, h => by
    have : v = 0 := by simpa using h
    subst this
    exact Nat.le_refl _
  | k + 1, v, h => by
    by_cases h0 : v = 0
    · subst h0; exact Nat.zero_le _
    · rw [digN_pos h0, List.length_append]
      have := digN_len k (v / 10) (by rw [Nat.pow_succ] at h; exact Nat.div_lt_of_lt_mul (by rw [Nat.mul_comm]; exact h))
      simp; omega
theorem numL_len {n : Int} (hn : -9223372036854775808 ≤ n ∧ n ≤ 9223372036854775807) : 1 ≤ (numL n).length ∧ (numL n).length ≤ 21 := by
  have h := digN_len 20 n.natAbs (by simp; omega)
  obtain ⟨-, -, h3, -⟩ := magL_spec n.natAbs
  have h4 : (magL n.natAbs).length ≤ 20 := by
    unfold magL
    split
    · simp
    · exact h
  unfold numL
  split
  · simp; omega
  · omega
end Go.Proofs.YtfmpdcmedaiooaaGreatDoor
namespace Go.Proofs.YtfmpdcmedaiooaaGreatDoor
/-- What may stand behind a value. -/
def Dl (r : List UInt8) : Prop := ∀ b, r.head? = some b → b.toNat = 44 ∨ b.toNat = 93 ∨ b.toNat = 125
theorem Dl.nil : Dl [] := fun b h => by cases h
theorem Dl.cons {b : UInt8} {t : List UInt8} (h : b.toNat = 44 ∨ b.toNat = 93 ∨ b.toNat = 125) : Dl (b :: t) := fun c hc => by
  simp only [List.head?_cons, Option.some.injEq] at hc
  rw [← hc]; exact h
theorem Dl.dig {r : List UInt8} (h : Dl r) : ∀ b, r.head? = some b → digB b = false := fun b hb => by
  have := h b hb
  unfold digB
  simp; omega
theorem magL_head (v : Nat) : ∃ b t, magL v = b :: t ∧ 48 ≤ b.toNat ∧ b.toNat ≤ 57 := by
  obtain ⟨a1, a2, a3, a4⟩ := magL_spec v
  cases h : magL v with
  | nil => rw [h] at a3; simp at a3
  | cons b t =>
    have := a1 b (by rw [h]; simp)
    unfold digB at this
    simp at this
    exact ⟨b, t, rfl, this⟩
theorem numL_head (n : Int) : ∃ b t, numL n = b :: t ∧ (b.toNat = 45 ∨ 48 ≤ b.toNat ∧ b.toNat ≤ 57) := by
  unfold numL
  split
  · exact ⟨45, _, rfl, .inl rfl⟩
  · obtain ⟨b, t, h, h2⟩ := magL_head n.natAbs
    exact ⟨b, t, h, .inr h2⟩
theorem wr_head (v : V) : ∃ b t, wr v = b :: t ∧ b.toNat ≠ 93 ∧ b.toNat ≠ 125 := by
  obtain ⟨k, n, s, ks, es⟩ := v
  rw [wr]
  (repeat' split) <;> first
    | exact ⟨_, _, rfl, by decide, by decide⟩
    | (obtain ⟨b, t, h, h2⟩ := numL_head n; exact ⟨b, t, h, by omega, by omega⟩)
theorem good_parts {k n : Int} {s : ByteArray} {ks : List ByteArray} {es : List V} (h : good (.mk k n s ks es) = true) : fits k n s ks.length es.length = true ∧ goodL es = true := by
  rw [good] at h
  simp only [Bool.and_eq_true] at h
  exact ⟨h.1, h.2.2.2.2.2⟩
theorem goodL_memW {e : V} {es : List V} (h : goodL es = true) (he : e ∈ es) : good e = true := by
  induction es with
  | nil => cases he
  | cons x es ih =>
    rw [goodL, Bool.and_eq_true] at h
    rcases List.mem_cons.1 he with rfl | he
    · exact h.1
    · exact ih h.2 he
theorem str_nil {s : ByteArray} (h : s.size = 0) : s = ⟨#[]⟩ := by
  cases s with
  | mk d => congr 1; exact Array.eq_empty_of_size_eq_zero h
/-- What a valid value is, kind by kind. -/
theorem fits_kind {k n : Int} {s : ByteArray} {nk ne : Nat} (h : fits k n s nk ne = true) :
    ((k = 0 ∨ k = 1 ∨ k = 2) ∧ n = 0 ∧ s.size = 0 ∧ nk = 0 ∧ ne = 0) ∨ (k = 3 ∧ s.size = 0 ∧ nk = 0 ∧ ne = 0) ∨ (k = 4 ∧ n = 0 ∧ nk = 0 ∧ ne = 0) ∨ (k = 5 ∧ n = 0 ∧ s.size = 0 ∧ nk = 0) ∨ (k = 6 ∧ n = 0 ∧ s.size = 0 ∧ nk = ne) := by
  unfold fits at h
  generalize s.size = z at h ⊢
  (repeat' split at h) <;> simp at h <;> omega
theorem nil_of {α : Type} {l : List α} (h : l.length = 0) : l = [] := List.eq_nil_of_length_eq_zero h
theorem zip_fst {α β : Type} : ∀ (l : List α) (m : List β), l.length = m.length → (l.zip m).map Prod.fst = l ∧ (l.zip m).map Prod.snd = m
  | [], [], _ => ⟨rfl, rfl⟩
  | [], b :: m, h => by simp at h
  | a :: l, [], h => by simp at h
  | a :: l, b :: m, h => by
    obtain ⟨h1, h2⟩ := zip_fst l m (by simpa using h)
    simp [h1, h2]
theorem mems_map (ks : List ByteArray) (es : List V) : mems ks es = (ks.zip es).map (fun x => mem x.1.data.toList (wr x.2)) := by
  unfold mems
  rw [wrM_eq]
  induction ks generalizing es with
  | nil => rfl
  | cons k ks ih =>
    cases es with
    | nil => rfl
    | cons e es => simp [ih]
theorem wr_ne (v : V) : wr v ≠ [] := by
  obtain ⟨b, t, h, _⟩ := wr_head v
  rw [h]; simp
end Go.Proofs.YtfmpdcmedaiooaaGreatDoor
namespace Go.Proofs.YtfmpdcmedaiooaaGreatDoor
open Go.RowKit
/-- The state: the offset, the error, the open arrays and objects, the values and the bytes so far. -/
structure JS where
  at_ : Nat
  err : Nat
  op : Nat
  nd : Nat
  sz : Nat
abbrev JM := JS → Option (V × JS)
def jbnd (x : Option (V × JS)) (f : V → JS → Option (V × JS)) : Option (V × JS) := match x with
  | none => none
  | some (a, σ) => f a σ
theorem jbnd_some {x : Option (V × JS)} {f : V → JS → Option (V × JS)} {r : V × JS} (h : jbnd x f = some r) : ∃ a σ, x = some (a, σ) ∧ f a σ = some r := by
  cases x with
  | none => exact absurd h (by simp [jbnd])
  | some p => exact ⟨p.1, p.2, rfl, h⟩
theorem jbnd_of {x : Option (V × JS)} {f : V → JS → Option (V × JS)} {a : V} {σ : JS} (h : x = some (a, σ)) : jbnd x f = f a σ := by rw [h]; rfl
def jz : V := .mk 0 0 ⟨#[]⟩ [] []
def zeroT : Lx := noX 0 0
def jfail (a e : Nat) (σ : JS) : JS := if σ.err = 0 then { σ with at_ := a, err := e } else σ
def isSg (t : Lx) (b : Nat) : Bool := decide (t.k = 1) && decide (t.b = b)
abbrev JP := List (ByteArray × V)
/-- The pairs of keys and values, each key once, in the order of the keys. -/
def jput : JP → ByteArray → V → JP
  | [], k, x => [(k, x)]
  | (y, v) :: r, k, x => if scmp y k < 0 then (y, v) :: jput r k x else (k, x) :: (if y = k then r else (y, v) :: r)
def jputs : JP → List ByteArray → List V → JP
  | ps, k :: ks, x :: xs => jputs (jput ps k x) ks xs
  | ps, _, _ => ps
def jobjV (ps : JP) : V := .mk 6 0 ⟨#[]⟩ (ps.map Prod.fst) (ps.map Prod.snd)
section
variable (l : List UInt8)
def jread (σ : JS) : Lx × JS := if σ.err = 0 then (if (lexP l σ.at_).e = 0 then (lexP l σ.at_, { σ with at_ := (lexP l σ.at_).p }) else (zeroT, { σ with at_ := (lexP l σ.at_).p, err := (lexP l σ.at_).e })) else (zeroT, σ)
def jnext (σ : JS) : Lx × JS := ((jread l σ).1, if (jread l σ).1.k = 0 then jfail l.length 5 (jread l σ).2 else (jread l σ).2)
def jend (σ : JS) : JS := if (jread l σ).1.k = 0 then (jread l σ).2 else jfail (jread l σ).1.f 4 (jread l σ).2
def jkey (t : Lx) (before : Nat) (σ : JS) : JS :=
  if t.k = 4 then (if before = 1024 then jfail t.f 2 σ else if 65536 < σ.sz + t.s.size then jfail t.f 2 { σ with sz := σ.sz + t.s.size } else { σ with sz := σ.sz + t.s.size })
  else jfail t.f 4 σ
def jcolon (σ : JS) : JS := if isSg (jnext l σ).1 58 = true then (jnext l σ).2 else jfail (jnext l σ).1.f 4 (jnext l σ).2
def jgoB (σ : JS) : Bool := isSg (jnext l σ).1 44
def jgoS (c : Nat) (σ : JS) : JS := if isSg (jnext l σ).1 44 = true then (jnext l σ).2 else if isSg (jnext l σ).1 c = true then (jnext l σ).2 else jfail (jnext l σ).1.f 4 (jnext l σ).2
def jnest (m : JM) : JM := fun σ => jbnd (m { σ with op := σ.op + 1 }) fun v σ1 => some (v, { σ1 with op := σ1.op - 1 })
def jbuild (arr obj : JM) (t : Lx) : JM := fun σ =>
  if t.k = 3 then some (.mk 3 t.i ⟨#[]⟩ [] [], σ)
  else if t.k = 4 then some (.mk 4 0 t.s [] [], σ)
  else if t.b = 91 then jnest arr σ
  else if t.b = 123 then jnest obj σ
  else if t.b = 110 then some (jz, σ)
  else some (.mk (if t.b = 116 then 2 else 1) 0 ⟨#[]⟩ [] [], σ)
def opensB (t : Lx) : Bool := isSg t 91 || isSg t 123
def jel (arr obj : JM) (t : Lx) (before : Nat) : JM := fun σ =>
  if t.k = 0 ∨ (t.k = 1 ∧ opensB t = false) then some (jz, jfail t.f 4 σ)
  else if opensB t = true ∧ σ.op = 32 then some (jz, jfail t.f 8 σ)
  else if σ.nd = 4096 ∨ before = 1024 then some (jz, jfail t.f 2 σ)
  else if 65536 < σ.sz + t.s.size then some (jz, jfail t.f 2 { σ with sz := σ.sz + t.s.size })
  else jbuild arr obj t { σ with nd := σ.nd + 1, sz := σ.sz + t.s.size }
def jarrL (el : Lx → Nat → JM) : Nat → List V → Lx → JM
  | 0, _, _ => fun _ => none
  | m + 1, es, t => fun σ => jbnd (el t es.length σ) fun v σ1 =>
    if jgoB l σ1 = true then jarrL el m (es ++ [v]) (jnext l (jgoS l 93 σ1)).1 (jnext l (jgoS l 93 σ1)).2 else some (.mk 5 0 ⟨#[]⟩ [] (es ++ [v]), jgoS l 93 σ1)
def jarr (el : Lx → Nat → JM) (n : Nat) : JM := fun σ => if isSg (jnext l σ).1 93 = true then some (.mk 5 0 ⟨#[]⟩ [] [], (jnext l σ).2) else jarrL l el n [] (jnext l σ).1 (jnext l σ).2
/-- Behind a key. -/
def jmid (t : Lx) (before : Nat) (σ : JS) : Lx × JS := jnext l (jcolon l (jkey t before σ))
def jobjL (el : Lx → Nat → JM) : Nat → List ByteArray → List V → Lx → JM
  | 0, _, _, _ => fun _ => none
  | m + 1, ks, es, t => fun σ => jbnd (el (jmid l t ks.length σ).1 0 (jmid l t ks.length σ).2) fun v σ1 =>
    if jgoB l σ1 = true then jobjL el m (ks ++ [t.s]) (es ++ [v]) (jnext l (jgoS l 125 σ1)).1 (jnext l (jgoS l 125 σ1)).2
    else some (if (jgoS l 125 σ1).err = 0 then jobjV (jputs [] (ks ++ [t.s]) (es ++ [v])) else jz, jgoS l 125 σ1)
def jobj (el : Lx → Nat → JM) (n : Nat) : JM := fun σ => if isSg (jnext l σ).1 125 = true then some (.mk 6 0 ⟨#[]⟩ [] [], (jnext l σ).2) else jobjL l el n [] [] (jnext l σ).1 (jnext l σ).2
/-- An element, n levels and rounds at most. -/
def jelN : Nat → Lx → Nat → JM
  | 0, _, _ => fun _ => none
  | n + 1, t, before => jel (jarr l (jelN n) n) (jobj l (jelN n) n) t before
def js0 : JS := ⟨0, 0, 0, 0, 0⟩
/-- Parse. -/
def jparse : Option (V × JS) := jbnd (jelN l (l.length + 2) (jnext l js0).1 0 (jnext l js0).2) fun v σ => some (v, jend l σ)
end
/-! ### It ends -/
section
variable {l : List UInt8}
def JS.left (l : List UInt8) (σ : JS) : Nat := if σ.err = 0 then l.length + 1 - σ.at_ else 0
theorem jfail_err {a e : Nat} {σ : JS} (he : e ≠ 0) : (jfail a e σ).err ≠ 0 := by
  unfold jfail
  by_cases h : σ.err = 0
  · rw [if_pos h]; exact he
  · rw [if_neg h]; exact h
end
end Go.Proofs.YtfmpdcmedaiooaaGreatDoor
