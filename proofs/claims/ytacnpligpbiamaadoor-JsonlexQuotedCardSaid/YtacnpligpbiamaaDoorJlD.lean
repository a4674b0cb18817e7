/- The decimal text of a number, and what the first token of it is: plain. Nothing of the program is named here. -/
import Derived.Test.YtacnpligpbiamaaDoorJlCov
set_option linter.unusedVariables false
set_option linter.unusedSimpArgs false
namespace Go.Proofs.YtacnpligpbiamaaDoor
/-- The digits of a number; none of 0. -/
def digF : Nat → Nat → List UInt8
  | 0, _ => []
  | f + 1, v => if v = 0 then [] else digF f (v / 10) ++ [UInt8.ofNat (48 + v % 10)]
def digN (v : Nat) : List UInt8 := digF v v
theorem digF_any : ∀ (f g v : Nat), v ≤ f → v ≤ g → digF f v = digF g v
  | 0, g, v, h1, h2 => by
    have : v = 0 := by omega
    subst this
    cases g <;> simp [digF]
  | f + 1, 0, v, h1, h2 => by
    have : v = 0 := by omega
    subst this
    simp [digF]
  | f + 1, g + 1, v, h1, h2 => by
    unfold digF
    by_cases h : v = 0
    · rw [if_pos h, if_pos h]
    · rw [if_neg h, if_neg h, digF_any f g (v / 10) (by omega) (by omega)]
theorem digN_zero : digN 0 = [] := rfl
theorem digN_pos {v : Nat} (h : v ≠ 0) : digN v = digN (v / 10) ++ [UInt8.ofNat (48 + v % 10)] := by
  obtain ⟨f, rfl⟩ : ∃ f, v = f + 1 := ⟨v - 1, by omega⟩
  have h1 : digN (f + 1) = digF f ((f + 1) / 10) ++ [UInt8.ofNat (48 + (f + 1) % 10)] := by
    show digF (f + 1) (f + 1) = _
    rw [digF, if_neg h]
  rw [h1, digF_any f ((f + 1) / 10) _ (by omega) (Nat.le_refl _)]
  rfl
theorem dig_byte {d : Nat} (h : d < 10) : (UInt8.ofNat (48 + d)).toNat = 48 + d := toNat_ofNat (by omega)
theorem digN_all : ∀ (v : Nat), (∀ b ∈ digN v, digB b = true) ∧ natF 0 (digN v) = v ∧ (v ≠ 0 → ∃ b t, digN v = b :: t ∧ b.toNat ≠ 48) := by
  intro v
  induction v using Nat.strongRecOn with
  | _ v ih =>
    by_cases h : v = 0
    · subst h
      exact ⟨by simp [digN_zero], rfl, fun h => absurd rfl h⟩
    · have hlt : v / 10 < v := by omega
      obtain ⟨h1, h2, h3⟩ := ih (v / 10) hlt
      have hd := dig_byte (d := v % 10) (by omega)
      rw [digN_pos h]
      refine ⟨fun b hb => ?_, ?_, fun _ => ?_⟩
      · rcases List.mem_append.1 hb with hb | hb
        · exact h1 b hb
        · have hb := List.mem_singleton.1 hb
          subst hb
          unfold digB
          rw [hd]; simp; omega
      · rw [natF_app, h2, natF_cons, hd]
        show v / 10 * 10 + (48 + v % 10 - 48) = v
        omega
      · by_cases h10 : v / 10 = 0
        · rw [h10, digN_zero]
          exact ⟨_, _, rfl, by rw [hd]; omega⟩
        · obtain ⟨b, t, hb, hne⟩ := h3 h10
          exact ⟨b, t ++ [UInt8.ofNat (48 + v % 10)], by rw [hb]; rfl, hne⟩
/-- The digits of a number that is not negative. -/
def magL (v : Nat) : List UInt8 := if v = 0 then [48] else digN v
theorem magL_spec (v : Nat) : (∀ b ∈ magL v, digB b = true) ∧ natF 0 (magL v) = v ∧ 1 ≤ (magL v).length ∧ (byt (magL v) 0 = 48 → (magL v).length = 1) := by
  unfold magL
  by_cases h : v = 0
  · rw [if_pos h]
    subst h
    exact ⟨by decide, rfl, by decide, fun _ => rfl⟩
  · rw [if_neg h]
    obtain ⟨h1, h2, h3⟩ := digN_all v
    obtain ⟨b, t, hb, hne⟩ := h3 h
    refine ⟨h1, h2, by rw [hb]; simp, fun h4 => ?_⟩
    rw [hb] at h4
    exact absurd h4 hne
def numL (n : Int) : List UInt8 := if n < 0 then 45 :: magL n.natAbs else magL n.natAbs
theorem span_whole {p : UInt8 → Bool} : ∀ (l r : List UInt8), (∀ b ∈ l, p b = true) → (∀ b, r.head? = some b → p b = false) → ((l ++ r).takeWhile p) = l
  | [], r, _, h => by
    cases r with
    | nil => rfl
    | cons b t => rw [List.nil_append, List.takeWhile_cons, if_neg (by rw [h b rfl]; exact Bool.false_ne_true)]
  | b :: l, r, h1, h2 => by
    rw [List.cons_append, List.takeWhile_cons, if_pos (h1 b (by simp)), span_whole l r (fun c hc => h1 c (by simp [hc])) h2]
theorem span_app {p : UInt8 → Bool} (a l r : List UInt8) (h1 : ∀ b ∈ l, p b = true) (h2 : ∀ b, r.head? = some b → p b = false) : span p (a ++ l ++ r) a.length = a.length + l.length := by
  unfold span
  rw [List.append_assoc, List.drop_left, span_whole l r h1 h2]
theorem sub_app (a l r : List UInt8) : sub (a ++ l ++ r) a.length (a.length + l.length) = l := by
  unfold sub
  rw [List.append_assoc, List.drop_left, Nat.add_sub_cancel_left, List.take_left]
theorem byt_app (a l r : List UInt8) : byt (a ++ l ++ r) (a.length + l.length) = byt r 0 := by
  unfold byt
  rw [← List.length_append, List.getElem?_append_right (Nat.le_refl _), Nat.sub_self]
theorem byt_mid {a l r : List UInt8} (h : 1 ≤ l.length) : byt (a ++ l ++ r) a.length = byt l 0 := by
  unfold byt
  rw [List.append_assoc, List.getElem?_append_right (Nat.le_refl _), Nat.sub_self, List.getElem?_append_left (by omega)]
/-- A number and what follows it. -/
theorem numP_text (n : Int) (hn : -9223372036854775808 ≤ n ∧ n ≤ 9223372036854775807) (r : List UInt8) (hr : ∀ b, r.head? = some b → digB b = false) :
    lexP (numL n ++ r) 0 = if moreB r 0 = true then noX 0 7 else okX 3 0 (numL n).length 0 n ⟨#[]⟩ := by
  obtain ⟨h1, h2, h3, h4⟩ := magL_spec n.natAbs
  have key : ∀ (a : List UInt8), (a = [] ∧ 0 ≤ n) ∨ (a = [45] ∧ n < 0) → lexP (a ++ magL n.natAbs ++ r) 0 = if moreB r 0 = true then noX 0 7 else okX 3 0 (a.length + (magL n.natAbs).length) 0 n ⟨#[]⟩ := by
    intro a ha
    generalize magL n.natAbs = m at h1 h2 h3 h4
    obtain ⟨c, t, rfl⟩ : ∃ c t, m = c :: t := by
      cases m with
      | nil => simp at h3
      | cons c t => exact ⟨c, t, rfl⟩
    have hc : digB c = true := h1 c (by simp)
    have hcd : 48 ≤ c.toNat ∧ c.toNat ≤ 57 := by unfold digB at hc; simpa using hc
    obtain ⟨x, hx0, hx⟩ : ∃ x, (a ++ c :: t ++ r)[0]? = some x ∧ (x.toNat = 45 ∨ digB x = true) := by
      rcases ha with ⟨rfl, _⟩ | ⟨rfl, _⟩
      · exact ⟨c, rfl, .inr hc⟩
      · exact ⟨45, rfl, .inl rfl⟩
    have hxr : x.toNat = 45 ∨ (48 ≤ x.toNat ∧ x.toNat ≤ 57) := by
      rcases hx with h | h
      · exact .inl h
      · unfold digB at h; exact .inr (by simpa using h)
    have hbl : blankB x = false := by unfold blankB; rw [decide_eq_false_iff_not]; omega
    have hsg : signB x = false := by unfold signB; rw [decide_eq_false_iff_not]; omega
    have hlt : letB x = false := by unfold letB; rw [decide_eq_false_iff_not]; omega
    have hsp : span blankB (a ++ c :: t ++ r) 0 = 0 := by
      obtain ⟨g, hg⟩ := List.getElem?_eq_some_iff.1 hx0
      exact span_no g (by rw [hg]; exact hbl)
    have hlen : 0 < (a ++ c :: t ++ r).length := by simp; omega
    have hx1 : (a ++ c :: t ++ r)[0]?.getD 0 = x := by rw [hx0]; rfl
    have hbx : byt (a ++ c :: t ++ r) 0 = x.toNat := by unfold byt; rw [hx1]
    have hf : firstP (a ++ c :: t ++ r) 0 = a.length := by
      unfold firstP
      rw [hbx]
      rcases ha with ⟨rfl, _⟩ | ⟨rfl, _⟩
      · have : x = c := by simpa using hx0.symm
        rw [if_neg (by rw [this]; omega)]; rfl
      · have : x = 45 := by simpa using hx0.symm
        rw [if_pos (by rw [this]; rfl)]; rfl
    have hspan := span_app a (c :: t) r h1 hr
    unfold lexP
    rw [if_neg (by omega)]
    show lexN _ (span blankB _ 0) = _
    rw [hsp]
    unfold lexN
    rw [if_neg (by omega), hx1, if_neg (by rw [hsg]; exact Bool.false_ne_true), if_neg (by rw [hlt]; exact Bool.false_ne_true), if_pos (by rw [hbx]; exact hx)]
    unfold numP
    rw [hf, hspan, if_neg (by simp), byt_mid (by simp), sub_app, hbx]
    have hmore : moreB (a ++ c :: t ++ r) (a.length + (c :: t).length) = moreB r 0 := by unfold moreB; rw [byt_app]
    rw [hmore]
    have hz : ¬ (byt (c :: t) 0 = 48 ∧ a.length + 1 < a.length + (c :: t).length) := fun h => by have := h4 h.1; omega
    rw [if_neg hz]
    have hfit : fitP (decide (x.toNat = 45)) (natF 0 (c :: t)) = some n := by
      rw [h2]
      rcases ha with ⟨rfl, h0⟩ | ⟨rfl, h0⟩
      · have : x = c := by simpa using hx0.symm
        rw [decide_eq_false (by rw [this]; omega)]
        unfold fitP
        simp only []
        rw [if_pos (by omega)]
        congr 1; omega
      · have : x = 45 := by simpa using hx0.symm
        rw [decide_eq_true (by rw [this]; rfl)]
        unfold fitP
        simp only []
        rw [if_pos (by omega)]
        congr 1; omega
    rw [hfit]
  unfold numL
  by_cases hneg : n < 0
  · rw [if_pos hneg]
    have h := key [45] (.inr ⟨rfl, hneg⟩)
    rw [show [45] ++ magL n.natAbs ++ r = 45 :: magL n.natAbs ++ r from rfl] at h
    rw [h]
    show _ = if moreB r 0 = true then noX 0 7 else okX 3 0 ((magL n.natAbs).length + 1) 0 n ⟨#[]⟩
    have e : ([45] : List UInt8).length + (magL n.natAbs).length = (magL n.natAbs).length + 1 := by simp; omega
    rw [e]
  · rw [if_neg hneg]
    have h := key [] (.inl ⟨rfl, by omega⟩)
    rw [List.nil_append] at h
    rw [h]
    simp
/-- A zero before a number. -/
theorem numP_zero (n : Int) : lexP (48 :: numL n) 0 = if n < 0 then okX 3 0 1 0 0 ⟨#[]⟩ else noX 1 4 := by
  by_cases hneg : n < 0
  · rw [if_pos hneg]
    have h := numP_text 0 (by omega) (numL n) (by
      intro b hb
      unfold numL at hb
      rw [if_pos hneg] at hb
      simp at hb
      subst hb
      rfl)
    have hm : moreB (numL n) 0 = false := by
      unfold numL
      rw [if_pos hneg]
      rfl
    rw [if_neg (by rw [hm]; exact Bool.false_ne_true)] at h
    exact h
  · rw [if_neg hneg]
    obtain ⟨h1, h2, h3, h4⟩ := magL_spec n.natAbs
    have e : numL n = magL n.natAbs := if_neg hneg
    rw [e]
    generalize magL n.natAbs = m at h1 h3
    have hall : ∀ b ∈ (48 :: m : List UInt8), digB b = true := fun b hb => by
      rcases List.mem_cons.1 hb with rfl | hb
      · rfl
      · exact h1 b hb
    have hsp := span_app ([] : List UInt8) (48 :: m) [] hall (fun b hb => by cases hb)
    simp only [List.nil_append, List.append_nil, List.length_nil, Nat.zero_add] at hsp
    have hb0 : span blankB (48 :: m) 0 = 0 := span_no (by simp) rfl
    unfold lexP
    rw [if_neg (by simp; omega)]
    show lexN _ (span blankB _ 0) = _
    rw [hb0]
    unfold lexN
    rw [if_neg (by simp)]
    show (if signB 48 = true then _ else if letB 48 = true then _ else if byt (48 :: m) 0 = 45 ∨ digB 48 = true then _ else _) = _
    rw [if_neg (by decide), if_neg (by decide), if_pos (.inr rfl)]
    unfold numP
    have hf : firstP (48 :: m) 0 = 0 := if_neg (by show ¬ ((48 : UInt8).toNat = 45); decide)
    rw [hf, hsp, if_neg (by simp), if_pos ⟨rfl, by simp; omega⟩]
end Go.Proofs.YtacnpligpbiamaaDoor
