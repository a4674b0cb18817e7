/- Where the tokens of a filter stand, and what a name alone is: plain. Nothing of the program is named here. -/
import Derived.Test.YthgnelkppibpeaaGreatDoorFx
set_option linter.unusedVariables false
set_option linter.unusedSimpArgs false
namespace Go.Proofs.YthgnelkppibpeaaGreatDoor
open Go.RowKit
def leadF (k : Nat) : List UInt8 := if k = 3 then [36] else if k = 4 then [46] else []
/-- A token stands where it says, before the offset q. -/
structure GoodT (l : List UInt8) (t : Fk) (q : Nat) : Prop where
  low : 1 ≤ t.k
  high : t.k ≤ 7
  lt : t.o < q
  le : q ≤ l.length
  text : t.k ≠ 5 → t.k ≠ 6 → leadF t.k ++ t.s.data.toList <+: l.drop t.o ∧ t.s.data.toList ≠ [] ∧ t.o + (leadF t.k).length + t.s.size ≤ q
theorem GoodT.mono {l : List UInt8} {t : Fk} {q r : Nat} (h : GoodT l t q) (hq : q ≤ r) (hr : r ≤ l.length) : GoodT l t r :=
  ⟨h.low, h.high, Nat.lt_of_lt_of_le h.lt hq, hr, fun h5 h6 => ⟨(h.text h5 h6).1, (h.text h5 h6).2.1, Nat.le_trans (h.text h5 h6).2.2 hq⟩⟩
theorem bsF_list (l : List UInt8) : (bsF l).data.toList = l := by unfold bsF; simp
theorem bsF_size (l : List UInt8) : (bsF l).size = l.length := by unfold bsF; simp [ByteArray.size]
theorem sub_prefix (l : List UInt8) (i j : Nat) : sub l i j <+: l.drop i := by unfold sub; exact List.take_prefix _ _
theorem named_good {l : List UInt8} {k o f : Nat} (hk : k = 1 ∨ k = 2 ∨ k = 3 ∨ k = 4) (hf : o + (leadF k).length = f) (hn : atF nameB l f = true) (hlead : leadF k <+: l.drop o) (h : (namedP l k o f).e = 0) : (namedP l k o f).t.o = o ∧ GoodT l (namedP l k o f).t (namedP l k o f).p := by
  obtain ⟨h1, h2⟩ := name_step hn
  obtain ⟨h3, h4, h5⟩ := namedP_ok (Nat.le_of_lt h1) h
  rw [h3]
  have hsl : (sub l f (span nmdB l f)).length = span nmdB l f - f := sub_len h4
  refine ⟨rfl, ⟨by show 1 ≤ k; omega, by show k ≤ 7; omega, by show o < span nmdB l f; omega, h4, fun _ _ => ?_⟩⟩
  show leadF k ++ (bsF (sub l f (span nmdB l f))).data.toList <+: l.drop o ∧ (bsF (sub l f (span nmdB l f))).data.toList ≠ [] ∧ o + (leadF k).length + (bsF (sub l f (span nmdB l f))).size ≤ span nmdB l f
  rw [bsF_list, bsF_size, hsl]
  refine ⟨?_, fun e => ?_, by omega⟩
  · obtain ⟨r, hr⟩ := hlead
    have h6 : l.drop f = r := by
      have : l.drop f = (l.drop o).drop (leadF k).length := by rw [List.drop_drop, hf]
      rw [this, ← hr, List.drop_left]
    rw [← hr, ← h6]
    exact (List.prefix_append_right_inj _).2 (sub_prefix _ _ _)
  · have := congrArg List.length e
    rw [hsl] at this
    simp at this
    omega
theorem tok_good {l : List UInt8} {a : Nat} (ha : a < l.length) (h : (tokP l a).e = 0) : (tokP l a).t.o = a ∧ GoodT l (tokP l a).t (tokP l a).p := by
  have hp := tok_ok ha h
  have hdr : l.drop a = l[a] :: l.drop (a + 1) := List.drop_eq_getElem_cons ha
  unfold tokP at h hp ⊢
  by_cases h1 : atF nameB l a = true
  · rw [if_pos h1] at h hp ⊢
    unfold wordFP at h hp ⊢
    have hw : wordK l a = 1 ∨ wordK l a = 2 := by unfold wordK; split <;> simp
    refine named_good (by omega) ?_ h1 ?_ h
    · rcases hw with h2 | h2 <;> rw [h2] <;> rfl
    · rcases hw with h2 | h2 <;> rw [h2] <;> exact List.nil_prefix
  · rw [if_neg h1] at h hp ⊢
    by_cases h2 : byt l a = 36 ∧ atF nameB l (a + 1) = true
    · rw [if_pos h2] at h hp ⊢
      refine named_good (.inr (.inr (.inl rfl))) rfl h2.2 ?_ h
      rw [hdr]
      have h3 := h2.1
      rw [byt_at ha] at h3
      have h4 : l[a] = 36 := UInt8.toNat_inj.1 h3
      rw [h4]
      exact ⟨_, rfl⟩
    · rw [if_neg h2] at h hp ⊢
      by_cases h3 : byt l a = 46 ∧ atF nameB l (a + 1) = true
      · rw [if_pos h3] at h hp ⊢
        refine named_good (.inr (.inr (.inr rfl))) rfl h3.2 ?_ h
        rw [hdr]
        have h4 := h3.1
        rw [byt_at ha] at h4
        have h5 : l[a] = 46 := UInt8.toNat_inj.1 h4
        rw [h5]
        exact ⟨_, rfl⟩
      · rw [if_neg h3] at h hp ⊢
        by_cases h4 : atF digB l a = true
        · rw [if_pos h4] at h hp ⊢
          unfold numFP at h hp ⊢
          split at h
          · cases h
          · rename_i h5
            rw [if_neg h5] at hp ⊢
            split at h
            · cases h
            · rename_i h6
              rw [if_neg h6] at hp ⊢
              split at h
              · cases h
              · rename_i v hv
                rw [hv] at hp
                exact ⟨rfl, ⟨by show 1 ≤ 5; omega, by show 5 ≤ 7; omega, hp.1, hp.2, fun h7 _ => absurd rfl h7⟩⟩
        · rw [if_neg h4] at h hp ⊢
          by_cases h5 : byt l a = 34
          · rw [if_pos h5] at h hp ⊢
            unfold strFP at h hp ⊢
            split at h
            · rename_i h6
              rw [if_pos h6] at hp ⊢
              exact ⟨rfl, ⟨by show 1 ≤ 6; omega, by show 6 ≤ 7; omega, hp.1, hp.2, fun _ h7 => absurd rfl h7⟩⟩
            · rename_i h6
              exact absurd h h6
          · rw [if_neg h5] at h hp ⊢
            obtain ⟨t, g1, g2, g3, g4⟩ := signFP_ok h
            rw [g2] at hp ⊢
            refine ⟨rfl, ⟨by show 1 ≤ 7; omega, by show 7 ≤ 7; omega, hp.1, hp.2, fun _ _ => ?_⟩⟩
            show [] ++ (bsF t).data.toList <+: l.drop a ∧ (bsF t).data.toList ≠ [] ∧ a + 0 + (bsF t).size ≤ a + t.length
            rw [bsF_list, bsF_size, List.nil_append]
            have g5 := List.find?_some g1
            refine ⟨List.isPrefixOf_iff_prefix.1 g5, fun e => ?_, by omega⟩
            rw [e] at g3
            simp at g3
/-- Where the token with the number i begins; a behind the last one. -/
def posF (ts : List Fk) (a i : Nat) : Nat := match ts[i]? with
  | some t => t.o
  | none => a
theorem posF_in {ts : List Fk} {a i : Nat} {t : Fk} (h : ts[i]? = some t) : posF ts a i = t.o := by unfold posF; rw [h]
theorem posF_out {ts : List Fk} {a i : Nat} (h : ts.length ≤ i) : posF ts a i = a := by unfold posF; rw [List.getElem?_eq_none h]
/-- The tokens stand one behind the other, from the offset f on up to the offset a. -/
def OAt (l : List UInt8) (a : Nat) (ts : List Fk) : Prop := ∀ i t, ts[i]? = some t → GoodT l t (posF ts a (i + 1))
theorem OAt.start (l : List UInt8) (a : Nat) : OAt l a [] := fun i t h => by simp at h
theorem OAt.next {l : List UInt8} {a : Nat} {ts : List Fk} (h : OAt l a ts) (ha : a < l.length) (he : (tokP l a).e = 0) : OAt l (gapP l (tokP l a).p) (ts ++ [(tokP l a).t]) := by
  obtain ⟨g1, g2⟩ := tok_good ha he
  have g3 := tok_ok ha he
  intro i t hi
  rcases Nat.lt_trichotomy i ts.length with h1 | h1 | h1
  · rw [List.getElem?_append_left h1] at hi
    have h2 := h i t hi
    have h3 : posF (ts ++ [(tokP l a).t]) (gapP l (tokP l a).p) (i + 1) = posF ts a (i + 1) := by
      by_cases h4 : i + 1 < ts.length
      · unfold posF; rw [List.getElem?_append_left h4]; rw [List.getElem?_eq_getElem h4]
      · rw [posF_out (by omega : ts.length ≤ i + 1)]
        have h5 : i + 1 = ts.length := by omega
        rw [posF_in (t := (tokP l a).t) (by rw [h5, List.getElem?_append_right (Nat.le_refl _)]; simp)]
        exact g1
    rw [h3]; exact h2
  · subst h1
    rw [List.getElem?_append_right (Nat.le_refl _)] at hi
    simp at hi
    subst hi
    rw [posF_out (by simp)]
    exact g2.mono (gap_ge g3.2) (gap_le _ _)
  · rw [List.getElem?_eq_none (by simp; omega)] at hi; cases hi
def endK (l : List UInt8) : Fk := ⟨0, l.length, ⟨#[]⟩, 0⟩
theorem lexF_good {l : List UInt8} : ∀ (n a : Nat) (ts us : List Fk), a ≤ l.length → OAt l a ts → lexF l n a ts = ⟨some us, 0, 0⟩ → ∃ vs, us = vs ++ [endK l] ∧ OAt l l.length vs ∧ (∀ t, ts[0]? = some t → vs[0]? = some t)
  | 0, a, ts, us, ha, h, he => by rw [lexF] at he; cases he
  | n + 1, a, ts, us, ha, h, he => by
    rw [lexF] at he
    by_cases h1 : a < l.length
    · rw [if_pos h1] at he
      by_cases h2 : ts.length = 2048
      · rw [if_pos h2] at he; cases he
      · rw [if_neg h2] at he
        by_cases h3 : (tokP l a).e = 0
        · rw [if_pos h3] at he
          obtain ⟨vs, e1, e2, e3⟩ := lexF_good n _ _ us (gap_le _ _) (h.next h1 h3) he
          refine ⟨vs, e1, e2, fun t ht => e3 t ?_⟩
          rw [List.getElem?_append_left (List.getElem?_eq_some_iff.1 ht).1]
          exact ht
        · rw [if_neg h3] at he; cases he
    · rw [if_neg h1] at he
      injection he with e1
      injection e1 with e1
      have h2 : a = l.length := by omega
      rw [h2] at h
      exact ⟨ts, e1.symm, h, fun t ht => ht⟩
/-- The tokens of a filter: the end behind tokens that stand one behind the other. -/
theorem lexFP_good {l : List UInt8} {us : List Fk} (h : lexFP l = ⟨some us, 0, 0⟩) : l.length ≤ 8192 ∧ ∃ vs, us = vs ++ [endK l] ∧ OAt l l.length vs := by
  unfold lexFP at h
  by_cases h1 : 8192 < l.length
  · rw [if_pos h1] at h; cases h
  · rw [if_neg h1] at h
    obtain ⟨vs, e1, e2, -⟩ := lexF_good _ _ _ us (gap_le _ _) (OAt.start l _) h
    exact ⟨by omega, vs, e1, e2⟩
theorem lexF_some {l : List UInt8} : ∀ (n a : Nat) (ts : List Fk), l.length - a < n → (lexF l n a ts).e = 0 → ∃ us, lexF l n a ts = ⟨some us, 0, 0⟩
  | 0, a, ts, hn, h => by omega
  | n + 1, a, ts, hn, h => by
    rw [lexF] at h ⊢
    by_cases h1 : a < l.length
    · rw [if_pos h1] at h ⊢
      by_cases h2 : ts.length = 2048
      · rw [if_pos h2] at h; cases h
      · rw [if_neg h2] at h ⊢
        by_cases h3 : (tokP l a).e = 0
        · rw [if_pos h3] at h ⊢
          obtain ⟨g1, g2⟩ := tok_ok h1 h3
          have g3 := gap_ge g2
          exact lexF_some n _ _ (by omega) h
        · rw [if_neg h3] at h
          exact absurd h h3
    · rw [if_neg h1]
      exact ⟨_, rfl⟩
theorem lexFP_some {l : List UInt8} (h : (lexFP l).e = 0) : ∃ us, lexFP l = ⟨some us, 0, 0⟩ := by
  unfold lexFP at h ⊢
  by_cases h1 : 8192 < l.length
  · rw [if_pos h1] at h; cases h
  · rw [if_neg h1] at h ⊢
    exact lexF_some _ _ _ (by omega) h
/-- A name alone, and behind a sign. -/
def nameS (l : List UInt8) : Bool := (atF nameB l 0 && decide (l.length ≤ 32)) && decide (span nmdB l 0 = l.length)
theorem nameS_split {l : List UInt8} (h : nameS l = true) : atF nameB l 0 = true ∧ l.length ≤ 32 ∧ span nmdB l 0 = l.length := by
  unfold nameS at h
  simp only [Bool.and_eq_true, decide_eq_true_eq] at h
  exact ⟨h.1.1, h.1.2, h.2⟩
theorem nameB_not {b : UInt8} (h : nameB b = true) : blankB b = false ∧ ¬ b.toNat = 35 ∧ ¬ b.toNat = 10 := by
  unfold nameB at h
  simp at h
  refine ⟨?_, by omega, by omega⟩
  unfold blankB
  simp
  omega
theorem gap_name {l : List UInt8} {k : Nat} (h : atF nameB l k = true) : gapP l k = k := by
  obtain ⟨b, h1, h2⟩ := atF_lt h
  obtain ⟨h3, h4, -⟩ := nameB_not h2
  exact gap_stop h1 h4 h3
theorem sub_all (l : List UInt8) : sub l 0 l.length = l := by unfold sub; simp
/-- One token is the whole text. -/
theorem lex_one {l : List UInt8} (hl : l.length ≤ 8192) (h0 : 0 < l.length) (hg : gapP l 0 = 0) (he : (tokP l 0).e = 0) (hp : (tokP l 0).p = l.length) : lexFP l = ⟨some [(tokP l 0).t, endK l], 0, 0⟩ := by
  have h1 := FAt.start (l := l) (by omega)
  rw [hg] at h1
  obtain ⟨h2, -⟩ := h1.next h0 (by simp) he
  rw [hp, gap_end (Nat.le_refl _)] at h2
  exact h2.done (by omega)
theorem lex_name {l : List UInt8} (h : nameS l = true) : lexFP l = ⟨some [⟨if kwB l = true then 2 else 1, 0, bsF l, 0⟩, endK l], 0, 0⟩ := by
  obtain ⟨h1, h2, h3⟩ := nameS_split h
  have h4 := (name_step h1).1
  have e : tokP l 0 = okF (if kwB l = true then 2 else 1) 0 (bsF l) 0 l.length := by
    unfold tokP
    rw [if_pos h1]
    unfold wordFP namedP wordK
    rw [h3, sub_all, if_neg (by omega)]
  have h5 := lex_one (l := l) (by omega) h4 (gap_name h1) (by rw [e]; rfl) (by rw [e]; rfl)
  rw [h5, e]; rfl
theorem span_cons (p : UInt8 → Bool) (c : UInt8) (l : List UInt8) (k : Nat) : span p (c :: l) (k + 1) = span p l k + 1 := by
  unfold span
  rw [List.drop_succ_cons]
  omega
theorem sub_cons_all (c : UInt8) (l : List UInt8) : sub (c :: l) 1 (l.length + 1) = l := by unfold sub; simp
theorem lex_field {l : List UInt8} (h : nameS l = true) : lexFP (46 :: l) = ⟨some [⟨4, 0, bsF l, 0⟩, endK (46 :: l)], 0, 0⟩ := by
  obtain ⟨h1, h2, h3⟩ := nameS_split h
  have h6 : atF nameB (46 :: l) 1 = true := h1
  have hsp : span nmdB (46 :: l) 1 = l.length + 1 := by rw [span_cons, h3]
  have e : tokP (46 :: l) 0 = okF 4 0 (bsF l) 0 (l.length + 1) := by
    unfold tokP
    rw [if_neg (by show ¬ nameB 46 = true; decide), if_neg (by rintro ⟨g, -⟩; exact absurd g (by show ¬ (46 : Nat) = 36; decide)), if_pos ⟨rfl, h6⟩]
    unfold namedP
    rw [hsp, sub_cons_all, if_neg (by omega)]
  have h5 := lex_one (l := 46 :: l) (by simp; omega) (by simp) (gap_stop (b := 46) rfl (by decide) (by decide)) (by rw [e]; rfl) (by rw [e]; simp [okF])
  rw [h5, e]; rfl
theorem lex_var {l : List UInt8} (h : nameS l = true) : lexFP (36 :: l) = ⟨some [⟨3, 0, bsF l, 0⟩, endK (36 :: l)], 0, 0⟩ := by
  obtain ⟨h1, h2, h3⟩ := nameS_split h
  have h6 : atF nameB (36 :: l) 1 = true := h1
  have hsp : span nmdB (36 :: l) 1 = l.length + 1 := by rw [span_cons, h3]
  have e : tokP (36 :: l) 0 = okF 3 0 (bsF l) 0 (l.length + 1) := by
    unfold tokP
    rw [if_neg (by show ¬ nameB 36 = true; decide), if_pos ⟨rfl, h6⟩]
    unfold namedP
    rw [hsp, sub_cons_all, if_neg (by omega)]
  have h5 := lex_one (l := 36 :: l) (by simp; omega) (by simp) (gap_stop (b := 36) rfl (by decide) (by decide)) (by rw [e]; rfl) (by rw [e]; simp [okF])
  rw [h5, e]; rfl
end Go.Proofs.YthgnelkppibpeaaGreatDoor
