/- The tokens of a filter with other gaps between them: plain. Nothing of the program is named here. -/
import Derived.Test.YthgnelkppibpeaaGreatDoorFxT
set_option linter.unusedVariables false
set_option linter.unusedSimpArgs false
namespace Go.Proofs.YthgnelkppibpeaaGreatDoor
open Go.RowKit
def gapT (g : Nat) : List UInt8 := if g = 0 then [] else if g = 1 then [32] else if g = 2 then [9, 13] else [35, 32, 120, 32, 124, 32, 121, 10]
def gapL (g : Nat) : List UInt8 := 10 :: gapT g
theorem gapL_len (g : Nat) : (gapL g).length ≤ 10 := by
  unfold gapL gapT
  (repeat' split) <;> simp
/-- No gap stands at the head. -/
def Bare (r : List UInt8) : Prop := ∀ b t, r = b :: t → blankB b = false ∧ ¬ b.toNat = 35
theorem eat_bare {r : List UInt8} (h : Bare r) : eat false r = r := by
  cases r with
  | nil => rfl
  | cons b t =>
    obtain ⟨h1, h2⟩ := h b t rfl
    rw [eat, if_neg (by rw [h1]; exact Bool.false_ne_true), if_neg h2]
theorem eat_gap (g : Nat) {r : List UInt8} (h : Bare r) : eat false (gapT g ++ r) = r := by
  have h0 := eat_bare h
  unfold gapT
  split
  · exact h0
  · split
    · show eat false (32 :: r) = r
      rw [eat, if_pos (by decide)]
      exact h0
    · split
      · show eat false (9 :: 13 :: r) = r
        rw [eat, if_pos (by decide), eat, if_pos (by decide)]
        exact h0
      · show eat false (35 :: 32 :: 120 :: 32 :: 124 :: 32 :: 121 :: 10 :: r) = r
        rw [eat, if_neg (by decide), if_pos (by decide), eat, if_neg (by decide), eat, if_neg (by decide), eat, if_neg (by decide), eat, if_neg (by decide), eat, if_neg (by decide), eat, if_neg (by decide), eat, if_pos (by decide)]
        exact h0
theorem eat_over : ∀ (c : Bool) (x y : List UInt8), eat c x = [] → eat c (x ++ 10 :: y) = eat false y
  | true, [], y, _ => by rw [List.nil_append, eat, if_pos (by decide)]
  | false, [], y, _ => by rw [List.nil_append, eat, if_pos (by decide)]
  | true, b :: x, y, h => by
    rw [eat] at h
    rw [List.cons_append, eat]
    split at h
    · rename_i hb
      rw [if_pos hb]
      exact eat_over false x y h
    · rename_i hb
      rw [if_neg hb]
      exact eat_over true x y h
  | false, b :: x, y, h => by
    rw [eat] at h
    rw [List.cons_append, eat]
    split at h
    · rename_i hb
      rw [if_pos hb]
      exact eat_over false x y h
    · rename_i hb
      rw [if_neg hb]
      split at h
      · rename_i hc
        rw [if_pos hc]
        exact eat_over true x y h
      · cases h
theorem eat_all : ∀ (c : Bool) (x y : List UInt8), eat c (x ++ y) = y → eat c x = []
  | true, [], y, _ => rfl
  | false, [], y, _ => rfl
  | true, b :: x, y, h => by
    rw [List.cons_append, eat] at h
    rw [eat]
    split at h
    · rename_i hb
      rw [if_pos hb]
      exact eat_all false x y h
    · rename_i hb
      rw [if_neg hb]
      exact eat_all true x y h
  | false, b :: x, y, h => by
    rw [List.cons_append, eat] at h
    rw [eat]
    split at h
    · rename_i hb
      rw [if_pos hb]
      exact eat_all false x y h
    · rename_i hb
      rw [if_neg hb]
      split at h
      · rename_i hc
        rw [if_pos hc]
        exact eat_all true x y h
      · have := congrArg List.length h
        simp at this
        omega
/-- A token begins with no gap. -/
theorem tok_head {l : List UInt8} {a : Nat} (ha : a < l.length) (he : (tokP l a).e = 0) : Bare (l.drop a) := by
  intro b t hbt
  have hb : l[a]? = some b := by
    have : (l.drop a)[0]? = some b := by rw [hbt]; rfl
    rw [List.getElem?_drop] at this
    simpa using this
  unfold tokP at he
  rw [atF_at hb, atF_at hb] at he
  have hby : byt l a = b.toNat := by unfold byt; rw [hb]; rfl
  rw [hby] at he
  by_cases c0 : nameB b = true
  · have := nameB_not c0
    exact ⟨this.1, this.2.1⟩
  · rw [if_neg c0] at he
    by_cases c36 : b.toNat = 36
    · exact ⟨by unfold blankB; simp; omega, by omega⟩
    · rw [if_neg (fun g => c36 g.1)] at he
      by_cases c46 : b.toNat = 46
      · exact ⟨by unfold blankB; simp; omega, by omega⟩
      · rw [if_neg (fun g => c46 g.1)] at he
        by_cases cd : digB b = true
        · unfold digB at cd
          simp at cd
          exact ⟨by unfold blankB; simp; omega, by omega⟩
        · rw [if_neg cd] at he
          by_cases c34 : b.toNat = 34
          · exact ⟨by unfold blankB; simp; omega, by omega⟩
          · rw [if_neg c34] at he
            obtain ⟨s, g1, g2, g3, g4⟩ := signFP_ok he
            have g5 := List.find?_some g1
            obtain ⟨r, hr⟩ := List.isPrefixOf_iff_prefix.1 g5
            refine signs_head s (List.mem_of_find?_eq_some g1) b ?_
            cases s with
            | nil => simp at g3
            | cons c s' =>
              rw [hbt] at hr
              injection hr with h1 h2
              rw [h1]
              rfl
/-- The tokens as they are read one behind the other. -/
def TAt (l : List UInt8) (a : Nat) (ts : List Fk) : Prop := ∀ i t, ts[i]? = some t → t.o < l.length ∧ (tokP l t.o).e = 0 ∧ (tokP l t.o).t = t ∧ gapP l (tokP l t.o).p = posF ts a (i + 1)
theorem TAt.start (l : List UInt8) (a : Nat) : TAt l a [] := fun i t h => by simp at h
theorem TAt.next {l : List UInt8} {a : Nat} {ts : List Fk} (h : TAt l a ts) (ha : a < l.length) (he : (tokP l a).e = 0) : TAt l (gapP l (tokP l a).p) (ts ++ [(tokP l a).t]) := by
  obtain ⟨g1, -⟩ := tok_good ha he
  intro i t hi
  rcases Nat.lt_trichotomy i ts.length with h1 | h1 | h1
  · rw [List.getElem?_append_left h1] at hi
    obtain ⟨h2, h3, h4, h5⟩ := h i t hi
    refine ⟨h2, h3, h4, h5.trans ?_⟩
    by_cases h6 : i + 1 < ts.length
    · unfold posF; rw [List.getElem?_append_left h6, List.getElem?_eq_getElem h6]
    · rw [posF_out (by omega : ts.length ≤ i + 1)]
      have h7 : i + 1 = ts.length := by omega
      rw [posF_in (t := (tokP l a).t) (by rw [h7, List.getElem?_append_right (Nat.le_refl _)]; simp)]
      exact g1.symm
  · subst h1
    rw [List.getElem?_append_right (Nat.le_refl _)] at hi
    simp at hi
    subst hi
    rw [g1, posF_out (by simp)]
    exact ⟨ha, he, rfl, rfl⟩
  · rw [List.getElem?_eq_none (by simp; omega)] at hi; cases hi
theorem lexF_toks {l : List UInt8} : ∀ (n a : Nat) (ts us : List Fk), a ≤ l.length → OAt l a ts → TAt l a ts → lexF l n a ts = ⟨some us, 0, 0⟩ → ∃ vs, us = vs ++ [endK l] ∧ OAt l l.length vs ∧ TAt l l.length vs
  | 0, a, ts, us, ha, h, h', he => by rw [lexF] at he; cases he
  | n + 1, a, ts, us, ha, h, h', he => by
    rw [lexF] at he
    by_cases h1 : a < l.length
    · rw [if_pos h1] at he
      by_cases h2 : ts.length = 2048
      · rw [if_pos h2] at he; cases he
      · rw [if_neg h2] at he
        by_cases h3 : (tokP l a).e = 0
        · rw [if_pos h3] at he
          exact lexF_toks n _ _ us (gap_le _ _) (h.next h1 h3) (h'.next h1 h3) he
        · rw [if_neg h3] at he; cases he
    · rw [if_neg h1] at he
      injection he with e1
      injection e1 with e1
      have h2 : a = l.length := by omega
      rw [h2] at h h'
      exact ⟨ts, e1.symm, h, h'⟩
theorem lexFP_toks {l : List UInt8} {us : List Fk} (h : lexFP l = ⟨some us, 0, 0⟩) : ∃ vs, us = vs ++ [endK l] ∧ OAt l l.length vs ∧ TAt l l.length vs := by
  unfold lexFP at h
  by_cases h1 : 8192 < l.length
  · rw [if_pos h1] at h; cases h
  · rw [if_neg h1] at h
    exact lexF_toks _ _ _ us (gap_le _ _) (OAt.start l _) (TAt.start l _) h
/-- The gap that is chosen behind the token with the number i. -/
def gsel (zs : List Int) (i : Nat) : Nat := if zs.length = 0 then 0 else ((zs[i % zs.length]?.getD 0) % 4).toNat
def piece (l : List UInt8) (vs : List Fk) (zs : List Int) (i : Nat) : List UInt8 := sub l (posF vs l.length i) (posF vs l.length (i + 1)) ++ gapL (gsel zs i)
/-- The text up to the piece with the number j. -/
def upto (l : List UInt8) (vs : List Fk) (zs : List Int) : Nat → List UInt8
  | 0 => []
  | j + 1 => upto l vs zs j ++ piece l vs zs j
/-- The text from the piece with the number j on, n pieces. -/
def from_ (l : List UInt8) (vs : List Fk) (zs : List Int) : Nat → Nat → List UInt8
  | 0, j => []
  | n + 1, j => piece l vs zs j ++ from_ l vs zs n (j + 1)
theorem upto_from (l : List UInt8) (vs : List Fk) (zs : List Int) : ∀ n j, upto l vs zs (j + n) = upto l vs zs j ++ from_ l vs zs n j
  | 0, j => by simp [from_]
  | n + 1, j => by
    have h := upto_from l vs zs n (j + 1)
    rw [show j + (n + 1) = j + 1 + n by omega, h, from_, upto, List.append_assoc]
section
variable {l : List UInt8} {vs : List Fk} {zs : List Int}
theorem pos_step (hO : OAt l l.length vs) {j : Nat} (hj : j < vs.length) : posF vs l.length j < posF vs l.length (j + 1) ∧ posF vs l.length (j + 1) ≤ l.length := by
  have h2 := hO j _ (List.getElem?_eq_getElem hj)
  rw [posF_in (List.getElem?_eq_getElem hj)]
  exact ⟨h2.lt, h2.le⟩
theorem piece_len (hO : OAt l l.length vs) {j : Nat} (hj : j < vs.length) : (piece l vs zs j).length = posF vs l.length (j + 1) - posF vs l.length j + (gapL (gsel zs j)).length := by
  unfold piece
  rw [List.length_append, sub_len (pos_step hO hj).2]
theorem upto_len (hO : OAt l l.length vs) : ∀ j, j ≤ vs.length → (upto l vs zs j).length ≤ posF vs l.length j + 10 * j
  | 0, _ => Nat.zero_le _
  | j + 1, hj => by
    have h1 := upto_len hO j (by omega)
    have h2 := pos_step hO (show j < vs.length by omega)
    have h3 := gapL_len (gsel zs j)
    rw [upto, List.length_append, piece_len hO (by omega)]
    omega
theorem from_bare (hT : TAt l l.length vs) : ∀ n j, j + n = vs.length → Bare (from_ l vs zs n j)
  | 0, j, h => fun b t e => by cases e
  | n + 1, j, h => by
    intro b t e
    obtain ⟨x, hx⟩ : ∃ x, vs[j]? = some x := ⟨_, List.getElem?_eq_getElem (by omega)⟩
    obtain ⟨h1, h2, h3, h4⟩ := hT j x hx
    have hp := tok_ok h1 h2
    have hg := gap_ge hp.2
    rw [h4] at hg
    have hpos : posF vs l.length j = x.o := posF_in hx
    rw [from_] at e
    unfold piece at e
    rw [hpos] at e
    have e2 : sub l x.o (posF vs l.length (j + 1)) = l[x.o] :: sub l (x.o + 1) (posF vs l.length (j + 1)) := sub_cons (by omega) h1
    rw [e2] at e
    injection e with e3 e4
    refine tok_head h1 h2 b (l.drop (x.o + 1)) ?_
    rw [List.drop_eq_getElem_cons h1, e3]
/-- Two lists of tokens that differ in the offsets alone. -/
def Alike (us ws : List Fk) : Prop := ws.length = us.length ∧ ∀ (i : Nat) (t : Fk), us[i]? = some t → ∃ t' : Fk, ws[i]? = some t' ∧ t'.k = t.k ∧ t'.s = t.s ∧ t'.i = t.i
theorem Alike.snoc {us ws : List Fk} {t t' : Fk} (h : Alike us ws) (h1 : t'.k = t.k) (h2 : t'.s = t.s) (h3 : t'.i = t.i) : Alike (us ++ [t]) (ws ++ [t']) := by
  refine ⟨by simp [h.1], fun i u hu => ?_⟩
  rcases Nat.lt_trichotomy i us.length with g | g | g
  · rw [List.getElem?_append_left g] at hu
    obtain ⟨u', e1, e2⟩ := h.2 i u hu
    exact ⟨u', by rw [List.getElem?_append_left (by rw [h.1]; exact g)]; exact e1, e2⟩
  · subst g
    rw [List.getElem?_append_right (Nat.le_refl _)] at hu
    simp at hu
    subst hu
    exact ⟨t', by rw [List.getElem?_append_right (by rw [h.1]; exact Nat.le_refl _)]; simp [h.1], h1, h2, h3⟩
  · rw [List.getElem?_eq_none (by simp; omega)] at hu; cases hu
theorem spaces_at (hO : OAt l l.length vs) (hT : TAt l l.length vs) (hn : vs.length ≤ 100) (hl : l.length ≤ 1000) : ∀ j, j ≤ vs.length → ∃ ws, FAt (upto l vs zs vs.length) (upto l vs zs j).length ws ∧ Alike (vs.take j) ws
  | 0, _ => by
    have h1 := FAt.start (l := upto l vs zs vs.length) (by
      have := upto_len (zs := zs) hO vs.length (Nat.le_refl _)
      rw [posF_out (Nat.le_refl _)] at this
      omega)
    have h2 : gapP (upto l vs zs vs.length) 0 = 0 := by
      have h3 := from_bare (zs := zs) hT vs.length 0 (by omega)
      have h4 := upto_from l vs zs vs.length 0
      rw [Nat.zero_add, upto, List.nil_append] at h4
      unfold gapP
      rw [List.drop_zero, h4, eat_bare h3, Nat.sub_self]
    rw [h2] at h1
    exact ⟨[], h1, by simp, fun i t hi => by simp at hi⟩
  | j + 1, hj => by
    obtain ⟨ws, h1, h2⟩ := spaces_at hO hT hn hl j (by omega)
    have hjn : j < vs.length := by omega
    obtain ⟨x, hx⟩ : ∃ x, vs[j]? = some x := ⟨_, List.getElem?_eq_getElem hjn⟩
    obtain ⟨t1, t2, t3, t4⟩ := hT j x hx
    have hpos : posF vs l.length j = x.o := posF_in hx
    obtain ⟨p1, p2⟩ := pos_step hO hjn
    rw [hpos] at p1
    obtain ⟨B, hB⟩ : ∃ B, posF vs l.length (j + 1) = B := ⟨_, rfl⟩
    rw [hB] at p1 p2 t4
    obtain ⟨T, hTT⟩ : ∃ T, upto l vs zs vs.length = T := ⟨_, rfl⟩
    rw [hTT] at h1 ⊢
    obtain ⟨A, hA⟩ : ∃ A, (upto l vs zs j).length = A := ⟨_, rfl⟩
    rw [hA] at h1
    obtain ⟨n, hnn⟩ : ∃ n, j + 1 + n = vs.length := ⟨vs.length - (j + 1), by omega⟩
    have e1 : T = upto l vs zs j ++ (sub l x.o B ++ (10 :: (gapT (gsel zs j) ++ from_ l vs zs n (j + 1)))) := by
      rw [← hTT, ← hnn, upto_from l vs zs n (j + 1), upto]
      unfold piece
      rw [hpos, hB]
      simp [gapL]
    have hsl : (sub l x.o B).length = B - x.o := sub_len p2
    have hat : ∀ k, T[A + k]? = (sub l x.o B ++ (10 :: (gapT (gsel zs j) ++ from_ l vs zs n (j + 1))))[k]? := fun k => by
      rw [e1, List.getElem?_append_right (by omega), hA, Nat.add_sub_cancel_left]
    have hcopy : Copy l T x.o A B := by
      refine ⟨p2, p1, fun k hk => ?_, ?_⟩
      · rw [hat, List.getElem?_append_left (by omega)]
        unfold sub
        rw [List.getElem?_take_of_lt hk, List.getElem?_drop]
      · rw [hat, List.getElem?_append_right (by omega), hsl, Nat.sub_self]
        rfl
    have hpt := tok_ok t1 t2
    have hpb : (tokP l x.o).p ≤ B := by rw [← t4]; exact gap_ge hpt.2
    have htok := hcopy.tok t2 hpb
    have hlen := hcopy.len
    have hwl : ws.length ≤ 100 := by rw [h2.1]; simp; omega
    have hnx := h1.next (by omega) (by omega) (by rw [htok])
    rw [htok] at hnx
    obtain ⟨p, hp⟩ : ∃ p, (tokP l x.o).p = p := ⟨_, rfl⟩
    rw [hp] at hnx hpt hpb t4
    have hgap : gapP T (A + (p - x.o)) = (upto l vs zs (j + 1)).length := by
      have d1 : T.drop (A + (p - x.o)) = sub l p B ++ (10 :: (gapT (gsel zs j) ++ from_ l vs zs n (j + 1))) := by
        rw [← List.drop_drop, e1, ← hA, List.drop_left, List.drop_append_of_le_length (by omega)]
        congr 1
        unfold sub
        rw [List.drop_take, List.drop_drop]
        congr 1
        · omega
        · congr 1
          omega
      have d2 : eat false (sub l p B) = [] := by
        refine eat_all false (sub l p B) (l.drop B) ?_
        have d3 : sub l p B ++ l.drop B = l.drop p := by
          unfold sub
          rw [show l.drop B = (l.drop p).drop (B - p) by rw [List.drop_drop]; congr 1; omega, List.take_append_drop]
        rw [d3, ← gap_drop hpt.2, t4]
      unfold gapP
      rw [d1, eat_over false _ _ d2, eat_gap _ (from_bare hT n (j + 1) hnn)]
      have d4 : T = upto l vs zs (j + 1) ++ from_ l vs zs n (j + 1) := by rw [← hTT, ← hnn, upto_from l vs zs n (j + 1)]
      rw [d4, List.length_append]
      omega
    rw [hgap] at hnx
    refine ⟨_, hnx.1, ?_⟩
    rw [List.take_add_one, hx]
    refine h2.snoc ?_ ?_ ?_
    · show (tokP l x.o).t.k = x.k; rw [t3]
    · show (tokP l x.o).t.s = x.s; rw [t3]
    · show (tokP l x.o).t.i = x.i; rw [t3]
/-- WITH OTHER GAPS THE TOKENS ARE ALIKE. -/
theorem spaces_ok (hO : OAt l l.length vs) (hT : TAt l l.length vs) (hn : vs.length ≤ 100) (hl : l.length ≤ 1000) : ∃ ws, lexFP (upto l vs zs vs.length) = ⟨some ws, 0, 0⟩ ∧ Alike (vs ++ [endK l]) ws := by
  obtain ⟨ws, h1, h2⟩ := spaces_at (zs := zs) hO hT hn hl vs.length (Nat.le_refl _)
  rw [List.take_length] at h2
  exact ⟨_, h1.done (Nat.lt_irrefl _), h2.snoc rfl rfl rfl⟩
end
end Go.Proofs.YthgnelkppibpeaaGreatDoor
