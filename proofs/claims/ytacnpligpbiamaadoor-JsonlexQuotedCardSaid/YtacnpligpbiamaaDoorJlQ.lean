/- The quoted text of a string: what the first token of it and of its beginnings is. Nothing of the program is named here. -/
import Derived.Test.YtacnpligpbiamaaDoorJlP
set_option linter.unusedVariables false
set_option linter.unusedSimpArgs false
namespace Go.Proofs.YtacnpligpbiamaaDoor
open Go.RowKit
def hx (n : Nat) : UInt8 := if n < 10 then UInt8.ofNat (48 + n) else UInt8.ofNat (87 + n)
/-- What is written of a byte. -/
def qb (c : UInt8) : List UInt8 :=
  if c.toNat = 34 ∨ c.toNat = 92 then [92, c] else if c.toNat = 8 then [92, 98] else if c.toNat = 9 then [92, 116] else if c.toNat = 10 then [92, 110]
  else if c.toNat = 12 then [92, 102] else if c.toNat = 13 then [92, 114] else if c.toNat < 32 then [92, 117, 48, 48, hx (c.toNat / 16), hx (c.toNat % 16)] else [c]
def qbs (l : List UInt8) : List UInt8 := l.flatMap qb
theorem qbs_nil : qbs [] = [] := rfl
theorem qbs_cons (c : UInt8) (l : List UInt8) : qbs (c :: l) = qb c ++ qbs l := by simp [qbs]
theorem qbs_append (a b : List UInt8) : qbs (a ++ b) = qbs a ++ qbs b := by simp [qbs]
theorem qb_len (c : UInt8) : 1 ≤ (qb c).length ∧ (qb c).length ≤ 6 := by unfold qb; (repeat' split) <;> simp
theorem qbs_len (l : List UInt8) : l.length ≤ (qbs l).length ∧ (qbs l).length ≤ 6 * l.length := by
  induction l with
  | nil => exact ⟨Nat.le_refl _, Nat.le_refl _⟩
  | cons c l ih =>
    have := qb_len c
    rw [qbs_cons, List.length_append, List.length_cons]
    omega
theorem qb_high {c : UInt8} (h : 128 ≤ c.toNat) : qb c = [c] := by
  unfold qb
  rw [if_neg (by omega), if_neg (by omega), if_neg (by omega), if_neg (by omega), if_neg (by omega), if_neg (by omega), if_neg (by omega)]
theorem qbs_high : ∀ {l : List UInt8}, (∀ c ∈ l, 128 ≤ c.toNat) → qbs l = l
  | [], h => rfl
  | c :: l, h => by
    rw [qbs_cons, qb_high (h c (by simp)), qbs_high (fun x hx => h x (by simp [hx]))]
    rfl
theorem enc_low {r : Nat} (h : r < 128) : enc r = [UInt8.ofNat r] := by unfold enc; rw [if_pos h]
theorem enc_high {r : Nat} (h : 128 ≤ r) (h2 : r ≤ 1114111) : ∀ c ∈ enc r, 128 ≤ c.toNat := by
  unfold enc
  intro c hc
  (repeat' split at hc) <;> simp only [List.mem_cons, List.not_mem_nil, or_false] at hc
  · omega
  · rcases hc with rfl | rfl <;> (rw [toNat_ofNat (by omega)]; omega)
  · rcases hc with rfl | rfl | rfl <;> (rw [toNat_ofNat (by omega)]; omega)
  · rcases hc with rfl | rfl | rfl | rfl <;> (rw [toNat_ofNat (by omega)]; omega)
set_option maxRecDepth 10000 in
theorem el_low (r : Nat) (h : r < 128) (t : List UInt8) : elP (qb (UInt8.ofNat r) ++ t) = .add r (qb (UInt8.ofNat r)).length := by
  by_cases h1 : r < 32
  · (repeat (rcases Nat.lt_succ_iff_lt_or_eq.mp h1 with h1 | rfl; rotate_left; rfl))
    omega
  · by_cases h2 : r = 34
    · subst h2; rfl
    · by_cases h3 : r = 92
      · subst h3; rfl
      · have e1 : (UInt8.ofNat r).toNat = r := toNat_ofNat (by omega)
        have e2 : qb (UInt8.ofNat r) = [UInt8.ofNat r] := by
          unfold qb
          rw [e1, if_neg (by omega), if_neg (by omega), if_neg (by omega), if_neg (by omega), if_neg (by omega), if_neg (by omega), if_neg (by omega)]
        rw [e2]
        show elP (UInt8.ofNat r :: t) = _
        rw [elP, e1, if_neg h2, if_neg h3, if_neg h1, dec_cons, e1, if_pos h]
        rfl
theorem el_high {r : Nat} (h : 128 ≤ r) (hc : cp (r : Int) = true) (t : List UInt8) : elP (enc r ++ t) = .add r (enc r).length := by
  have h2 := (cp_range hc).1
  have h3 := enc_high h h2
  have h4 := dec_enc hc t
  cases hE : enc r with
  | nil => have := (enc_len r).1; rw [hE] at this; simp at this
  | cons b u =>
    rw [hE] at h3 h4
    have h5 := h3 b (by simp)
    rw [List.cons_append] at h4 ⊢
    rw [elP, if_neg (by omega), if_neg (by omega), if_neg (by omega), h4]
theorem el_add {r : Nat} (hc : cp (r : Int) = true) (t : List UInt8) : elP (qbs (enc r) ++ t) = .add r (qbs (enc r)).length := by
  by_cases h : r < 128
  · have e : qbs (enc r) = qb (UInt8.ofNat r) := by rw [enc_low h, qbs_cons, qbs_nil, List.append_nil]
    rw [e]
    exact el_low r h t
  · rw [qbs_high (enc_high (by omega) (cp_range hc).1)]
    exact el_high (by omega) hc t
/-- A proper beginning of an element. -/
theorem el_low_cut (r : Nat) (h : r < 128) (j : Nat) (hj : j < (qb (UInt8.ofNat r)).length) : elP ((qb (UInt8.ofNat r)).take j) = .trunc := by
  have h1 : ∀ r : Fin 128, ∀ j : Fin 6, j.val < (qb (UInt8.ofNat r.val)).length → (match elP ((qb (UInt8.ofNat r.val)).take j.val) with | .trunc => true | _ => false) = true := by decide +kernel
  have h2 := h1 ⟨r, h⟩ ⟨j, by have := (qb_len (UInt8.ofNat r)).2; omega⟩ hj
  simp only [] at h2
  cases hE : elP ((qb (UInt8.ofNat r)).take j) with
  | trunc => rfl
  | quote => rw [hE] at h2; cases h2
  | add a b => rw [hE] at h2; cases h2
  | stop a => rw [hE] at h2; cases h2
theorem el_cut {r : Nat} (hc : cp (r : Int) = true) (j : Nat) (hj : j < (qbs (enc r)).length) :
    elP ((qbs (enc r)).take j) = .trunc ∨ (elP ((qbs (enc r)).take j) = .stop 6 ∧ runes ((qbs (enc r)).take j) = none) := by
  by_cases h : r < 128
  · have e : qbs (enc r) = qb (UInt8.ofNat r) := by rw [enc_low h, qbs_cons, qbs_nil, List.append_nil]
    rw [e] at hj ⊢
    exact .inl (el_low_cut r h j hj)
  · have h3 := enc_high (by omega) (cp_range hc).1
    rw [qbs_high h3] at hj ⊢
    cases j with
    | zero => exact .inl rfl
    | succ j =>
      have h4 : dec (enc r) = some (r, (enc r).length) := by have := dec_enc hc []; rwa [List.append_nil] at this
      have h5 := dec_short h4 hj
      cases hE : enc r with
      | nil => rw [hE] at hj; simp at hj
      | cons b u =>
        rw [hE] at h3 h5
        have h6 := h3 b (by simp)
        rw [List.take_succ_cons] at h5 ⊢
        refine .inr ⟨?_, runes_none (by simp) h5⟩
        rw [elP, if_neg (by omega), if_neg (by omega), if_neg (by omega), h5]
/-- The text is itself valid. -/
theorem runes_pre : ∀ (ys : List Nat), (∀ r ∈ ys, cp (r : Int) = true) → ∀ u, runes (encs ys ++ u) = (runes u).map (ys ++ ·)
  | [], h, u => by simp [encs_nil]
  | r :: ys, h, u => by
    rw [encs_cons, List.append_assoc, runes_some (dec_enc (h r (by simp)) _), List.drop_left, runes_pre ys (fun x hx => h x (by simp [hx])) u]
    cases runes u <;> simp
theorem low_encs : ∀ (l : List UInt8), (∀ c ∈ l, c.toNat < 128) → ∃ ys : List Nat, encs ys = l ∧ ∀ r ∈ ys, cp (r : Int) = true
  | [], h => ⟨[], rfl, fun r hr => by cases hr⟩
  | c :: l, h => by
    obtain ⟨ys, h1, h2⟩ := low_encs l (fun x hx => h x (by simp [hx]))
    have hc := h c (by simp)
    refine ⟨c.toNat :: ys, ?_, ?_⟩
    · rw [encs_cons, h1, enc_low hc]
      simp
    · intro r hr
      rcases List.mem_cons.1 hr with rfl | hr
      · unfold cp; simp; omega
      · exact h2 r hr
theorem qb_low {r : Nat} (h : r < 128) : ∀ c ∈ qb (UInt8.ofNat r), c.toNat < 128 := by
  have h1 : ∀ r : Fin 128, ∀ c ∈ qb (UInt8.ofNat r.val), c.toNat < 128 := by decide +kernel
  exact h1 ⟨r, h⟩
theorem text_encs : ∀ (xs : List Nat), (∀ r ∈ xs, cp (r : Int) = true) → ∃ ys : List Nat, encs ys = qbs (encs xs) ∧ ∀ r ∈ ys, cp (r : Int) = true
  | [], h => ⟨[], rfl, fun r hr => by cases hr⟩
  | r :: xs, h => by
    obtain ⟨ys, h1, h2⟩ := text_encs xs (fun x hx => h x (by simp [hx]))
    have hc := h r (by simp)
    obtain ⟨zs, h3, h4⟩ : ∃ zs : List Nat, encs zs = qbs (enc r) ∧ ∀ r ∈ zs, cp (r : Int) = true := by
      by_cases hr : r < 128
      · have e : qbs (enc r) = qb (UInt8.ofNat r) := by rw [enc_low hr, qbs_cons, qbs_nil, List.append_nil]
        rw [e]
        exact low_encs _ (qb_low hr)
      · rw [qbs_high (enc_high (by omega) (cp_range hc).1)]
        exact ⟨[r], by simp [encs], fun x hx => by rw [List.mem_singleton.1 hx]; exact hc⟩
    refine ⟨zs ++ ys, ?_, fun x hx => ?_⟩
    · rw [encs_append, encs_cons, qbs_append, h1, h3]
    · rcases List.mem_append.1 hx with hx | hx
      · exact h4 x hx
      · exact h2 x hx
/-- A scan over whole elements. -/
theorem scan_over (t : List UInt8) : ∀ (xs ds : List Nat), (∀ r ∈ xs, cp (r : Int) = true) → ∀ (l : List UInt8), l = 34 :: (qbs (encs ds) ++ (qbs (encs xs) ++ t)) → StrAt l 0 (1 + (qbs (encs ds)).length) (encs ds) → StrAt l 0 (1 + (qbs (encs (ds ++ xs))).length) (encs (ds ++ xs))
  | [], ds, h, l, hl, hA => by rw [List.append_nil]; exact hA
  | r :: xs, ds, h, l, hl, hA => by
    have hd : l.drop (1 + (qbs (encs ds)).length) = qbs (enc r) ++ (qbs (encs xs) ++ t) := by
      rw [hl, Nat.add_comm, List.drop_succ_cons, List.drop_left, encs_cons, qbs_append, List.append_assoc]
    have hn := hA.next (by rw [hd]; exact el_add (h r (by simp)) _)
    have e1 : ds ++ r :: xs = (ds ++ [r]) ++ xs := by simp
    have e2 : encs (ds ++ [r]) = encs ds ++ enc r := encs_snoc ds r
    rw [e1]
    refine scan_over t xs (ds ++ [r]) (fun x hx => h x (by simp [hx])) l ?_ ?_
    · rw [hl, e2, encs_cons, qbs_append, qbs_append]; simp
    · rw [e2, qbs_append, List.length_append, ← Nat.add_assoc]; exact hn
theorem lex_str {l : List UInt8} : lexP (34 :: l) 0 = strP (34 :: l) 0 := by
  unfold lexP
  rw [if_neg (by simp; omega)]
  have hs : span blankB (34 :: l) (0 : Int).toNat = 0 := span_no (k := 0) (by simp) rfl
  rw [hs]
  unfold lexN
  have e1 : (34 :: l)[0]?.getD 0 = (34 : UInt8) := by simp
  have e2 : byt (34 :: l) 0 = 34 := by unfold byt; rw [e1]; rfl
  rw [e1, e2, if_neg (by simp), if_neg (by decide), if_neg (by decide), if_neg (by decide), if_pos rfl]
theorem quoted_whole {l : List UInt8} {xs : List Nat} (hx : encs xs = l) (hc : ∀ r ∈ xs, cp (r : Int) = true) (hl : l.length ≤ 4096) :
    lexP (34 :: (qbs l ++ [34])) 0 = okX 4 0 (2 + (qbs l).length) 0 0 ⟨l.toArray⟩ := by
  subst hx
  rw [lex_str]
  have h := scan_over [34] xs [] hc (34 :: (qbs (encs xs) ++ [34])) (by simp [encs_nil, qbs_nil]) (StrAt.start (by simp))
  simp only [List.nil_append] at h
  have hd : (34 :: (qbs (encs xs) ++ [34])).drop (1 + (qbs (encs xs)).length) = [34] := by rw [Nat.add_comm, List.drop_succ_cons, List.drop_left]
  rw [h.step, hd]
  have e : elP [34] = .quote := rfl
  rw [e]
  simp only []
  rw [if_pos hl]
  have e2 : 1 + (qbs (encs xs)).length + 1 = 2 + (qbs (encs xs)).length := by omega
  rw [e2]
theorem cutq_at : ∀ (xs : List Nat) (k : Nat), k < (qbs (encs xs)).length → ∃ ds r rs j, xs = ds ++ r :: rs ∧ j < (qbs (enc r)).length ∧ (qbs (encs xs)).take k = qbs (encs ds) ++ (qbs (enc r)).take j
  | [], k, h => by simp [encs_nil, qbs_nil] at h
  | r :: xs, k, h => by
    rw [encs_cons, qbs_append] at h ⊢
    by_cases hk : k < (qbs (enc r)).length
    · exact ⟨[], r, xs, k, rfl, hk, by rw [List.take_append_of_le_length (by omega)]; rfl⟩
    · rw [List.length_append] at h
      obtain ⟨ds, r', rs, j, h1, h2, h3⟩ := cutq_at xs (k - (qbs (enc r)).length) (by omega)
      refine ⟨r :: ds, r', rs, j, by rw [h1]; rfl, h2, ?_⟩
      rw [List.take_append, List.take_of_length_le (by omega), h3, encs_cons, qbs_append, List.append_assoc]
theorem quoted_cut {l : List UInt8} {xs : List Nat} (hx : encs xs = l) (hc : ∀ r ∈ xs, cp (r : Int) = true) (k : Nat) (h1 : 1 ≤ k) (h2 : k ≤ 1 + (qbs l).length) :
    lexP ((34 :: (qbs l ++ [34])).take k) 0 = noX k 5 ∨ (∃ p, lexP ((34 :: (qbs l ++ [34])).take k) 0 = noX p 6) ∧ runes ((34 :: (qbs l ++ [34])).take k) = none := by
  subst hx
  obtain ⟨k, rfl⟩ : ∃ j, k = j + 1 := ⟨k - 1, by omega⟩
  rw [List.take_succ_cons, List.take_append_of_le_length (by omega), lex_str]
  by_cases hk : k = (qbs (encs xs)).length
  · rw [hk, List.take_length]
    have h := scan_over [] xs [] hc (34 :: qbs (encs xs)) (by simp [encs_nil, qbs_nil]) (StrAt.start (by simp))
    simp only [List.nil_append] at h
    have hd : (34 :: qbs (encs xs)).drop (1 + (qbs (encs xs)).length) = [] := by rw [Nat.add_comm, List.drop_succ_cons, List.drop_length]
    rw [h.step, hd]
    exact .inl (by rw [elP]; simp)
  · obtain ⟨ds, r, rs, j, h3, h4, h5⟩ := cutq_at xs k (by omega)
    rw [h5]
    have hcr : cp (r : Int) = true := hc r (by rw [h3]; simp)
    have hcd : ∀ r ∈ ds, cp (r : Int) = true := fun x hx => hc x (by rw [h3]; simp [hx])
    have h := scan_over ((qbs (enc r)).take j) ds [] hcd (34 :: (qbs (encs ds) ++ (qbs (enc r)).take j)) (by simp [encs_nil, qbs_nil]) (StrAt.start (by simp))
    simp only [List.nil_append] at h
    have hd : (34 :: (qbs (encs ds) ++ (qbs (enc r)).take j)).drop (1 + (qbs (encs ds)).length) = (qbs (enc r)).take j := by rw [Nat.add_comm, List.drop_succ_cons, List.drop_left]
    have hlen : (34 :: (qbs (encs ds) ++ (qbs (enc r)).take j)).length = k + 1 := by
      rw [← h5, List.length_cons, List.length_take]; omega
    rw [h.step, hd]
    rcases el_cut hcr j h4 with he | ⟨he, hr⟩
    · rw [he, hlen]; exact .inl rfl
    · rw [he]
      refine .inr ⟨⟨_, rfl⟩, ?_⟩
      obtain ⟨ys, h6, h7⟩ := text_encs ds hcd
      have e : 34 :: (qbs (encs ds) ++ (qbs (enc r)).take j) = encs (34 :: ys) ++ (qbs (enc r)).take j := by rw [encs_cons, h6]; rfl
      have h8 : ∀ r ∈ (34 : Nat) :: ys, cp (r : Int) = true := by
        intro x hx
        rcases List.mem_cons.1 hx with rfl | hx
        · rfl
        · exact h7 x hx
      rw [e, runes_pre (34 :: ys) h8, hr]
      rfl
end Go.Proofs.YtacnpligpbiamaaDoor
