import Derived.Test.YtoleoimmpggldaaGreatDoorFx
set_option linter.unusedVariables false
set_option linter.unusedSectionVars false
set_option linter.unusedSimpArgs false
namespace Go.Proofs.YtoleoimmpggldaaGreatDoor
open Go.RowKit
def leadF (k : Nat) : List UInt8 := if k = 3 then [36] else if k = 4 then [46] else []
structure GoodT (l : List UInt8) (t : Fk) (q : Nat) : Prop where
 low : 1 ≤ t.k
 high : t.k ≤ 7
 lt : t.o < q
 le : q ≤ l.length
 text : t.k ≠ 5 → t.k ≠ 6 → leadF t.k ++ t.s.data.toList <+: l.drop t.o ∧ t.s.data.toList ≠ [] ∧ t.o + (leadF t.k).length + t.s.size ≤ q
theorem GoodT.mono {l : List UInt8} {t : Fk} {q r : Nat} (h : GoodT l t q) (hq : q ≤ r) (hr : r ≤ l.length) : GoodT l t r :=
 ⟨h.low, h.high, Nat.lt_of_lt_of_le h.lt hq, hr, fun h5 h6 => ⟨(h.text h5 h6).1, (h.text h5 h6).2.1, Nat.le_trans (h.text h5 h6).2.2 hq⟩⟩
theorem bsF_list (l : List UInt8) : (bsF l).data.toList = l := by unfold bsF; simp
theorem bsF_size (l : List UInt8) : (bsF l).size = l.length := by unfold bsF; simp [ByteArray.size]
theorem sub_prefix (l : List UInt8) (i j : Nat) : sub l i j <+: l.drop i := by unfold sub; exact List.take_prefix _ _
theorem named_good {l : List UInt8} {k o f : Nat} (hk : k = 1 ∨ k = 2 ∨ k = 3 ∨ k = 4) (hf : o + (leadF k).length = f) (hn : atF nameB l f = true) (hlead : leadF k <+: l.drop o) (h : (namedP l k o f).e = 0) : (namedP l k o f).t.o = o ∧ GoodT l (namedP l k o f).t (namedP l k o f).p := by
 obtain ⟨h1, h2⟩ := name_step hn;obtain ⟨h3, h4, h5⟩ := namedP_ok (Nat.le_of_lt h1) h;rw [h3];have hsl : (sub l f (span nmdB l f)).length = span nmdB l f - f := sub_len h4;refine ⟨rfl, ⟨by show 1 ≤ k; omega, by show k ≤ 7; omega, by show o < span nmdB l f; omega, h4, fun _ _ => ?_⟩⟩
 show leadF k ++ (bsF (sub l f (span nmdB l f))).data.toList <+: l.drop o ∧ (bsF (sub l f (span nmdB l f))).data.toList ≠ [] ∧ o + (leadF k).length + (bsF (sub l f (span nmdB l f))).size ≤ span nmdB l f
 rw [bsF_list, bsF_size, hsl];refine ⟨?_, fun e => ?_, by omega⟩
 · obtain ⟨r, hr⟩ := hlead;have h6 : l.drop f = r := by
    have : l.drop f = (l.drop o).drop (leadF k).length := by rw [List.drop_drop, hf]
    rw [this, ← hr, List.drop_left]
   rw [← hr, ← h6];exact (List.prefix_append_right_inj _).2 (sub_prefix _ _ _)
 · have := congrArg List.length e;rw [hsl] at this;simp at this;omega
theorem tok_good {l : List UInt8} {a : Nat} (ha : a < l.length) (h : (tokP l a).e = 0) : (tokP l a).t.o = a ∧ GoodT l (tokP l a).t (tokP l a).p := by
 have hp := tok_ok ha h;have hdr : l.drop a = l[a] :: l.drop (a + 1) := List.drop_eq_getElem_cons ha;unfold tokP at h hp ⊢
 by_cases h1 : atF nameB l a = true
 · rw [if_pos h1] at h hp ⊢;unfold wordFP at h hp ⊢;have hw : wordK l a = 1 ∨ wordK l a = 2 := by unfold wordK; split <;> simp
   refine named_good (by omega) ?_ h1 ?_ h
   · rcases hw with h2 | h2 <;> rw [h2] <;> rfl
   · rcases hw with h2 | h2 <;> rw [h2] <;> exact List.nil_prefix
 · rw [if_neg h1] at h hp ⊢
   by_cases h2 : byt l a = 36 ∧ atF nameB l (a + 1) = true
   · rw [if_pos h2] at h hp ⊢;refine named_good (.inr (.inr (.inl rfl))) rfl h2.2 ?_ h;rw [hdr];have h3 := h2.1;rw [byt_at ha] at h3;have h4 : l[a] = 36 := UInt8.toNat_inj.1 h3;rw [h4];exact ⟨_, rfl⟩
   · rw [if_neg h2] at h hp ⊢
     by_cases h3 : byt l a = 46 ∧ atF nameB l (a + 1) = true
     · rw [if_pos h3] at h hp ⊢;refine named_good (.inr (.inr (.inr rfl))) rfl h3.2 ?_ h;rw [hdr];have h4 := h3.1;rw [byt_at ha] at h4;have h5 : l[a] = 46 := UInt8.toNat_inj.1 h4;rw [h5];exact ⟨_, rfl⟩
     · rw [if_neg h3] at h hp ⊢
       by_cases h4 : atF digB l a = true
       · rw [if_pos h4] at h hp ⊢;unfold numFP at h hp ⊢
         split at h
         · cases h
         · rename_i h5
           rw [if_neg h5] at hp ⊢
           split at h
           · cases h
           · rename_i h6
             rw [if_neg h6] at hp ⊢
             split at h
             · cases h
             · rename_i v hv
               rw [hv] at hp;exact ⟨rfl, ⟨by show 1 ≤ 5; omega, by show 5 ≤ 7; omega, hp.1, hp.2, fun h7 _ => absurd rfl h7⟩⟩
       · rw [if_neg h4] at h hp ⊢
         by_cases h5 : byt l a = 34
         · rw [if_pos h5] at h hp ⊢;unfold strFP at h hp ⊢
           split at h
           · rename_i h6
             rw [if_pos h6] at hp ⊢;exact ⟨rfl, ⟨by show 1 ≤ 6; omega, by show 6 ≤ 7; omega, hp.1, hp.2, fun _ h7 => absurd rfl h7⟩⟩
           · rename_i h6
             exact absurd h h6
         · rw [if_neg h5] at h hp ⊢;obtain ⟨t, g1, g2, g3, g4⟩ := signFP_ok h;rw [g2] at hp ⊢;refine ⟨rfl, ⟨by show 1 ≤ 7; omega, by show 7 ≤ 7; omega, hp.1, hp.2, fun _ _ => ?_⟩⟩
           show [] ++ (bsF t).data.toList <+: l.drop a ∧ (bsF t).data.toList ≠ [] ∧ a + 0 + (bsF t).size ≤ a + t.length
           rw [bsF_list, bsF_size, List.nil_append];have g5 := List.find?_some g1;refine ⟨List.isPrefixOf_iff_prefix.1 g5, fun e => ?_, by omega⟩;rw [e] at g3;simp at g3
def posF (ts : List Fk) (a i : Nat) : Nat := match ts[i]? with
 | some t => t.o
 | none => a
theorem posF_in {ts : List Fk} {a i : Nat} {t : Fk} (h : ts[i]? = some t) : posF ts a i = t.o := by unfold posF; rw [h]
theorem posF_out {ts : List Fk} {a i : Nat} (h : ts.length ≤ i) : posF ts a i = a := by unfold posF; rw [List.getElem?_eq_none h]
def OAt (l : List UInt8) (a : Nat) (ts : List Fk) : Prop := ∀ i t, ts[i]? = some t → GoodT l t (posF ts a (i + 1))
theorem OAt.start (l : List UInt8) (a : Nat) : OAt l a [] := fun i t h => by simp at h
theorem OAt.next {l : List UInt8} {a : Nat} {ts : List Fk} (h : OAt l a ts) (ha : a < l.length) (he : (tokP l a).e = 0) : OAt l (gapP l (tokP l a).p) (ts ++ [(tokP l a).t]) := by
 obtain ⟨g1, g2⟩ := tok_good ha he;have g3 := tok_ok ha he;intro i t hi;rcases Nat.lt_trichotomy i ts.length with h1 | h1 | h1
 · rw [List.getElem?_append_left h1] at hi;have h2 := h i t hi;have h3 : posF (ts ++ [(tokP l a).t]) (gapP l (tokP l a).p) (i + 1) = posF ts a (i + 1) := by
    by_cases h4 : i + 1 < ts.length
    · unfold posF; rw [List.getElem?_append_left h4]; rw [List.getElem?_eq_getElem h4]
    · rw [posF_out (by omega : ts.length ≤ i + 1)];have h5 : i + 1 = ts.length := by omega
      rw [posF_in (t := (tokP l a).t) (by rw [h5, List.getElem?_append_right (Nat.le_refl _)]; simp)];exact g1
   rw [h3]; exact h2
 · subst h1;rw [List.getElem?_append_right (Nat.le_refl _)] at hi;simp at hi;subst hi;rw [posF_out (by simp)];exact g2.mono (gap_ge g3.2) (gap_le _ _)
 · rw [List.getElem?_eq_none (by simp; omega)] at hi; cases hi
def endK (l : List UInt8) : Fk := ⟨0, l.length, ⟨#[]⟩, 0⟩
theorem lexF_good {l : List UInt8} : ∀ (n a : Nat) (ts us : List Fk), a ≤ l.length → OAt l a ts → lexF l n a ts = ⟨some us, 0, 0⟩ → ∃ vs, us = vs ++ [endK l] ∧ OAt l l.length vs ∧ (∀ t, ts[0]? = some t → vs[0]? = some t)
 | 0, a, ts, us, ha, h, he => by rw [lexF] at he; cases he
 | n + 1, a, ts, us, ha, h, he => by
  rw [lexF] at he
  by_cases h1 : a < l.length
  · rw [if_pos h1] at he
    by_cases h2 : ts.length = 2048
    · rw [if_pos h2] at he; cases he
    · rw [if_neg h2] at he
      by_cases h3 : (tokP l a).e = 0
      · rw [if_pos h3] at he;obtain ⟨vs, e1, e2, e3⟩ := lexF_good n _ _ us (gap_le _ _) (h.next h1 h3) he;refine ⟨vs, e1, e2, fun t ht => e3 t ?_⟩;rw [List.getElem?_append_left (List.getElem?_eq_some_iff.1 ht).1];exact ht
      · rw [if_neg h3] at he; cases he
  · rw [if_neg h1] at he;injection he with e1
    injection e1 with e1
    have h2 : a = l.length := by omega
    rw [h2] at h;exact ⟨ts, e1.symm, h, fun t ht => ht⟩
theorem lexFP_good {l : List UInt8} {us : List Fk} (h : lexFP l = ⟨some us, 0, 0⟩) : l.length ≤ 8192 ∧ ∃ vs, us = vs ++ [endK l] ∧ OAt l l.length vs := by
 unfold lexFP at h
 by_cases h1 : 8192 < l.length
 · rw [if_pos h1] at h; cases h
 · rw [if_neg h1] at h;obtain ⟨vs, e1, e2, -⟩ := lexF_good _ _ _ us (gap_le _ _) (OAt.start l _) h;exact ⟨by omega, vs, e1, e2⟩
theorem lexF_some {l : List UInt8} : ∀ (n a : Nat) (ts : List Fk), l.length - a < n → (lexF l n a ts).e = 0 → ∃ us, lexF l n a ts = ⟨some us, 0, 0⟩
 | 0, a, ts, hn, h => by omega
 | n + 1, a, ts, hn, h => by
  rw [lexF] at h ⊢
  by_cases h1 : a < l.length
  · rw [if_pos h1] at h ⊢
    by_cases h2 : ts.length = 2048
    · rw [if_pos h2] at h; cases h
    · rw [if_neg h2] at h ⊢
      by_cases h3 : (tokP l a).e = 0
      · rw [if_pos h3] at h ⊢;obtain ⟨g1, g2⟩ := tok_ok h1 h3;have g3 := gap_ge g2;exact lexF_some n _ _ (by omega) h
      · rw [if_neg h3] at h;exact absurd h h3
  · rw [if_neg h1];exact ⟨_, rfl⟩
theorem lexFP_some {l : List UInt8} (h : (lexFP l).e = 0) : ∃ us, lexFP l = ⟨some us, 0, 0⟩ := by
 unfold lexFP at h ⊢
 by_cases h1 : 8192 < l.length
 · rw [if_pos h1] at h; cases h
 · rw [if_neg h1] at h ⊢;exact lexF_some _ _ _ (by omega) h
def nameS (l : List UInt8) : Bool := (atF nameB l 0 && decide (l.length ≤ 32)) && decide (span nmdB l 0 = l.length)
end Go.Proofs.YtoleoimmpggldaaGreatDoor
namespace Go.Proofs.YtoleoimmpggldaaGreatDoor
open Go.RowKit
def Agr (n : Nat) (x y : List UInt8) : Prop := ∀ j, j < n → y[j]? = x[j]?
theorem Agr.mono {n m : Nat} {x y : List UInt8} (h : Agr n x y) (hm : m ≤ n) : Agr m x y := fun j hj => h j (by omega)
theorem Agr.cons {n : Nat} {b : UInt8} {x y : List UInt8} (h : Agr (n + 1) (b :: x) y) : ∃ y', y = b :: y' ∧ Agr n x y' := by
 have h0 := h 0 (by omega)
 cases y with
 | nil => simp at h0
 | cons c y' =>
  simp at h0;subst h0;exact ⟨y', rfl, fun j hj => by have := h (j + 1) (by omega); simpa using this⟩
theorem Agr.drop {n k : Nat} {x y : List UInt8} (h : Agr n x y) : Agr (n - k) (x.drop k) (y.drop k) := fun j hj => by
 rw [List.getElem?_drop, List.getElem?_drop];exact h _ (by omega)
theorem Agr.take {n : Nat} {x y : List UInt8} (h : Agr n x y) : y.take n = x.take n := by
 apply List.ext_getElem?;intro j
 by_cases hj : j < n
 · rw [List.getElem?_take_of_lt hj, List.getElem?_take_of_lt hj];exact h j hj
 · rw [List.getElem?_eq_none (by simp; omega), List.getElem?_eq_none (by simp; omega)]
theorem quadA_loc : ∀ {m n : Nat} {x y : List UInt8} {v : Nat}, quadA m n x = .ok v → Agr m x y → quadA m n y = .ok v
 | 0, n, x, y, v, h, ha => by rw [quadA] at h ⊢; exact h
 | m + 1, n, [], y, v, h, ha => by rw [quadA] at h; cases h
 | m + 1, n, b :: r, y, v, h, ha => by
  obtain ⟨y', rfl, hy⟩ := ha.cons;rcases hexP_none_or b with hb | ⟨d, hb, -⟩
  · rw [quadA_none hb] at h; cases h
  · rw [quadA_some hb] at h ⊢;exact quadA_loc h hy
theorem quadR_loc : ∀ {lo hi m n : Nat} {x y : List UInt8} {v : Nat}, quadR lo hi m n x = .ok v → Agr m x y → quadR lo hi m n y = .ok v
 | lo, hi, 0, n, x, y, v, h, ha => by rw [quadR] at h ⊢; exact h
 | lo, hi, m + 1, n, [], y, v, h, ha => by rw [quadR] at h; cases h
 | lo, hi, m + 1, n, b :: r, y, v, h, ha => by
  obtain ⟨y', rfl, hy⟩ := ha.cons;rw [quadR] at h ⊢
  cases hb : hexP b with
  | none => rw [hb] at h; cases h
  | some d =>
   rw [hb] at h;simp only [] at h ⊢
   split at h
   · cases h
   · rename_i hno
     rw [if_neg hno];exact quadR_loc h hy
theorem firstR_loc {x y : List UInt8} {v : Nat} (h : firstR x = .ok v) (ha : Agr 4 x y) : firstR y = .ok v := by
 obtain ⟨h1, h2, h3, h4⟩ := firstR_ok h;have h5 := quadA_loc h1 ha;unfold firstR at h ⊢;rw [h1] at h;rw [h5];exact h
theorem pairP_loc {n : Nat} {x y : List UInt8} {r m : Nat} (h : pairP n x = .ok r m) (ha : Agr 6 x y) : pairP n y = .ok r m := by
 match x, h with
 | [], h => cases h
 | [b], h =>
  rw [pairP] at h
  split at h <;> cases h
 | b :: c :: t, h =>
  obtain ⟨y1, rfl, h1⟩ := ha.cons;obtain ⟨y2, rfl, h2⟩ := h1.cons;rw [pairP] at h ⊢
  split at h
  · rename_i hc
    rw [if_pos hc]
    cases hq : quadR 56320 57343 4 0 t with
    | bad => rw [hq] at h; cases h
    | trunc => rw [hq] at h; cases h
    | ok v =>
     rw [hq] at h;rw [quadR_loc hq h2];exact h
  · cases h
theorem uniP_loc {x y : List UInt8} {r m : Nat} (h : uniP x = .ok r m) (ha : Agr (m - 2) x y) : uniP y = .ok r m := by
 unfold uniP at h ⊢
 cases hq : firstR x with
 | bad => rw [hq] at h; cases h
 | trunc => rw [hq] at h; cases h
 | ok n =>
  rw [hq] at h;simp only [] at h
  split at h
  · rename_i hn
    obtain ⟨h4, h5, -, -⟩ := pairP_ok hn h;subst h4;rw [firstR_loc hq (ha.mono (by omega))];simp only [];rw [if_pos hn];exact pairP_loc h (ha.drop.mono (by omega))
  · rename_i hn
    injection h with h4 h5
    subst h5;rw [firstR_loc hq (ha.mono (by omega))];simp only [];rw [if_neg hn, h4]
theorem escP_loc {x y : List UInt8} {r m : Nat} (h : escP x = .ok r m) (ha : Agr (m - 1) x y) : escP y = .ok r m := by
 have hm := (escP_ok h).1
 match x, h with
 | [], h => cases h
 | c :: t, h =>
  obtain ⟨k, hk⟩ : ∃ k, m - 1 = k + 1 := ⟨m - 2, by omega⟩
  rw [hk] at ha;obtain ⟨y1, rfl, h1⟩ := ha.cons
  by_cases h117 : c.toNat = 117
  · have e : ∀ z, escP (c :: z) = uniP z := fun z => by
     rw [escP, if_neg (by omega), if_neg (by omega), if_neg (by omega), if_neg (by omega), if_neg (by omega), if_neg (by omega), if_pos h117]
    rw [e] at h ⊢;exact uniP_loc h (h1.mono (by omega))
  · have e : escP (c :: y1) = escP (c :: t) := by
     rw [escP, escP];simp only [if_neg h117]
    rw [e];exact h
theorem dec_loc {x y : List UInt8} {r n : Nat} (h : dec x = some (r, n)) (ha : Agr n x y) : dec y = some (r, n) := by
 obtain ⟨h1, h2⟩ := enc_dec h;have h3 := ha.take;rw [h1] at h3;have h4 : y = enc r ++ y.drop n := by rw [← h3, List.take_append_drop]
 rw [h4, dec_enc (dec_some_cp h).1, ← h2]
theorem elP_loc {x y : List UInt8} {r n : Nat} (h : elP x = .add r n) (ha : Agr n x y) : elP y = .add r n := by
 have hn := (elP_add h).1
 match x, h with
 | [], h => cases h
 | b :: t, h =>
  obtain ⟨k, hk⟩ : ∃ k, n = k + 1 := ⟨n - 1, by omega⟩
  have ha2 := ha;rw [hk] at ha2;obtain ⟨y1, rfl, h1⟩ := ha2.cons;rw [elP] at h ⊢
  by_cases b34 : b.toNat = 34
  · rw [if_pos b34] at h; cases h
  · rw [if_neg b34] at h ⊢
    by_cases b92 : b.toNat = 92
    · rw [if_pos b92] at h ⊢
      cases hq : escP t with
      | bad => rw [hq] at h; cases h
      | trunc => rw [hq] at h; cases h
      | ok v m =>
       rw [hq] at h;injection h with e1 e2
       subst e1;have : escP y1 = .ok v m := escP_loc hq (h1.mono (by omega));rw [this];simp only [];rw [e2]
    · rw [if_neg b92] at h ⊢
      by_cases b32 : b.toNat < 32
      · rw [if_pos b32] at h; cases h
      · rw [if_neg b32] at h ⊢
        cases hd : dec (b :: t) with
        | none => rw [hd] at h; cases h
        | some v =>
         obtain ⟨v, m⟩ := v;rw [hd] at h;injection h with e1 e2
         subst e1; subst e2;rw [dec_loc hd ha]
theorem elP_quote {x y : List UInt8} (h : elP x = .quote) (ha : Agr 1 x y) : elP y = .quote := by
 match x, h with
 | [], h => cases h
 | b :: t, h =>
  obtain ⟨y1, rfl, -⟩ := ha.cons;rw [elP] at h ⊢
  by_cases b34 : b.toNat = 34
  · rw [if_pos b34]
  · rw [if_neg b34] at h
    split at h
    · cases hq : escP t with
      | bad => rw [hq] at h; cases h
      | trunc => rw [hq] at h; cases h
      | ok v m => rw [hq] at h; cases h
    · split at h
      · cases h
      · cases hd : dec (b :: t) with
        | none => rw [hd] at h; cases h
        | some v => obtain ⟨v, m⟩ := v; rw [hd] at h; cases h
theorem strF_lt (l : List UInt8) (k : Nat) : ∀ (m i : Nat) (out : List UInt8), k < i → (strF l k m i out).e = 0 → i < (strF l k m i out).p
 | 0, i, out, h1, h => noX_e (by omega) h
 | m + 1, i, out, h1, h => by
  rw [strF] at h ⊢
  cases hq : elP (l.drop i) with
  | quote =>
   rw [hq] at h;simp only [] at h ⊢
   split at h
   · rename_i ho
     rw [if_pos ho];exact Nat.lt_succ_self i
   · exact noX_e (by omega) h
  | trunc => rw [hq] at h; exact noX_e (by omega) h
  | stop e =>
   rw [hq] at h;have := elP_stop hq;exact noX_e (by omega) h
  | add r n =>
   rw [hq] at h;simp only [] at h ⊢;have := (elP_add hq).1;have := strF_lt l k m _ _ (by omega) h;omega
theorem strF_loc {l T : List UInt8} {a A b : Nat} (hl : ∀ j, j < b - a → T[A + j]? = l[a + j]?) : ∀ (m i : Nat) (out : List UInt8) (m' : Nat), a ≤ i → (strF l a m i out).e = 0 → (strF l a m i out).p ≤ b → b - i ≤ m' →
 strF T A m' (A + (i - a)) out = okX 4 A (A + ((strF l a m i out).p - a)) 0 0 (strF l a m i out).s ∧ i < (strF l a m i out).p
 | 0, i, out, m', hai, h, hp, hm => noX_e (by omega) h
 | m + 1, i, out, m', hai, h, hp, hm => by
  rw [strF] at h hp ⊢;have hag : ∀ n, n ≤ b - i → Agr n (l.drop i) (T.drop (A + (i - a))) := fun n hn j hj => by
   rw [List.getElem?_drop, List.getElem?_drop];have := hl (i - a + j) (by omega);rw [show A + (i - a) + j = A + (i - a + j) by omega, this]
   congr 1
   omega
  cases hq : elP (l.drop i) with
  | trunc => rw [hq] at h; exact noX_e (by omega) h
  | stop e =>
   rw [hq] at h;have := elP_stop hq;exact noX_e (by omega) h
  | quote =>
   rw [hq] at h hp;simp only [] at h hp ⊢
   by_cases ho : out.length ≤ 4096
   · rw [if_pos ho] at h hp ⊢;have hpb : i + 1 ≤ b := hp;obtain ⟨m1, rfl⟩ : ∃ k, m' = k + 1 := ⟨m' - 1, by omega⟩
     rw [strF, elP_quote hq (hag 1 (by omega))];simp only [];rw [if_pos ho];refine ⟨?_, Nat.lt_succ_self i⟩
     show okX 4 A (A + (i - a) + 1) 0 0 _ = okX 4 A (A + (i + 1 - a)) 0 0 _
     rw [show A + (i + 1 - a) = A + (i - a) + 1 by omega]
     rfl
   · rw [if_neg ho] at h;exact noX_e (by omega) h
  | add r n =>
   rw [hq] at h hp;simp only [] at h hp ⊢;obtain ⟨g1, -, -, -⟩ := elP_add hq;have key : i + n < (strF l a m (i + n) (out ++ enc r)).p := by
    have := strF_lt l a m (i + n) (out ++ enc r) (by omega) h;exact this
   obtain ⟨m1, rfl⟩ : ∃ k, m' = k + 1 := ⟨m' - 1, by omega⟩
   obtain ⟨e1, e2⟩ := strF_loc hl m (i + n) (out ++ enc r) m1 (by omega) h hp (by omega);rw [strF, elP_loc hq (hag n (by omega))];simp only [];rw [show A + (i - a) + n = A + (i + n - a) by omega];exact ⟨e1, by omega⟩
end Go.Proofs.YtoleoimmpggldaaGreatDoor
namespace Go.Proofs.YtoleoimmpggldaaGreatDoor
open Go.RowKit
structure Copy (l T : List UInt8) (a A b : Nat) : Prop where
 le : b ≤ l.length
 lt : a < b
 same : ∀ j, j < b - a → T[A + j]? = l[a + j]?
 stop : T[A + (b - a)]? = some 10
theorem Copy.len {l T : List UInt8} {a A b : Nat} (h : Copy l T a A b) : A + (b - a) < T.length := (List.getElem?_eq_some_iff.1 h.stop).1
theorem Copy.atf {l T : List UInt8} {a A b : Nat} (h : Copy l T a A b) {p : UInt8 → Bool} {j : Nat} (hj : j < b - a) : atF p T (A + j) = atF p l (a + j) := by unfold atF; rw [h.same j hj]
theorem Copy.byt {l T : List UInt8} {a A b : Nat} (h : Copy l T a A b) {j : Nat} (hj : j < b - a) : byt T (A + j) = byt l (a + j) := by unfold Go.Proofs.YtoleoimmpggldaaGreatDoor.byt; rw [h.same j hj]
theorem Copy.atf_end {l T : List UInt8} {a A b : Nat} (h : Copy l T a A b) {p : UInt8 → Bool} (hp : p 10 = false) : atF p T (A + (b - a)) = false := by unfold atF; rw [h.stop]; exact hp
theorem Copy.span {l T : List UInt8} {a A b : Nat} (h : Copy l T a A b) {p : UInt8 → Bool} (hp : p 10 = false) : ∀ (n j : Nat), b - a - j = n → j ≤ b - a → span p l (a + j) ≤ b → span p T (A + j) = A + (span p l (a + j) - a)
 | 0, j, hn, hj, hs => by
  have hjb : j = b - a := by omega
  subst hjb;have h1 := span_ge p l (a + (b - a));have h2 : Go.Proofs.YtoleoimmpggldaaGreatDoor.span p T (A + (b - a)) = A + (b - a) := by
   obtain ⟨g1, g2⟩ := List.getElem?_eq_some_iff.1 h.stop;exact span_no g1 (by rw [g2]; exact hp)
  have := h.lt;rw [h2];omega
 | n + 1, j, hn, hj, hs => by
  have hjb : j < b - a := by omega
  have hl : a + j < l.length := by have := h.le; omega
  have h1 := h.same j hjb;rw [List.getElem?_eq_getElem hl] at h1;obtain ⟨g1, g2⟩ := List.getElem?_eq_some_iff.1 h1
  cases hc : p l[a + j] with
  | true =>
   rw [span_in hl hc] at hs ⊢;rw [span_in g1 (by rw [g2]; exact hc)];have := Copy.span h hp n (j + 1) (by omega) (by omega) (by rw [show a + (j + 1) = a + j + 1 by omega]; exact hs);rw [show A + (j + 1) = A + j + 1 by omega, show a + (j + 1) = a + j + 1 by omega] at this;exact this
  | false =>
   rw [span_no hl hc, span_no g1 (by rw [g2]; exact hc)];omega
theorem Copy.sub {l T : List UInt8} {a A b : Nat} (h : Copy l T a A b) {i j : Nat} (hj : j ≤ b - a) : sub T (A + i) (A + j) = sub l (a + i) (a + j) := by
 unfold Go.Proofs.YtoleoimmpggldaaGreatDoor.sub;apply List.ext_getElem?;intro k
 by_cases hk : k < j - i
 · rw [List.getElem?_take_of_lt (by omega), List.getElem?_take_of_lt (by omega), List.getElem?_drop, List.getElem?_drop];have := h.same (i + k) (by omega);rw [show A + i + k = A + (i + k) by omega, this]
   congr 1
   omega
 · rw [List.getElem?_eq_none (by simp; omega), List.getElem?_eq_none (by simp; omega)]
def movF (t : Fk) (A : Nat) : Fk := { t with o := A }
theorem Copy.named {l T : List UInt8} {a A b k d : Nat} (h : Copy l T a A b) (hd : d < b - a) (he : (namedP l k a (a + d)).e = 0) (hp : (namedP l k a (a + d)).p ≤ b) : namedP T k A (A + d) = ⟨movF (namedP l k a (a + d)).t A, A + ((namedP l k a (a + d)).p - a), 0⟩ := by
 obtain ⟨h1, h2, h3⟩ := namedP_ok (by have := h.le; omega) he;rw [h1] at hp ⊢;have hs : Go.Proofs.YtoleoimmpggldaaGreatDoor.span nmdB l (a + d) ≤ b := hp;have e1 := h.span (p := nmdB) (by decide) _ d rfl (by omega) hs;have hge := span_ge nmdB l (a + d);unfold namedP;rw [e1, if_neg (by omega)];have e2 : Go.Proofs.YtoleoimmpggldaaGreatDoor.sub T (A + d) (A + (Go.Proofs.YtoleoimmpggldaaGreatDoor.span nmdB l (a + d) - a)) = Go.Proofs.YtoleoimmpggldaaGreatDoor.sub l (a + d) (Go.Proofs.YtoleoimmpggldaaGreatDoor.span nmdB l (a + d)) := by
  rw [h.sub (by omega)]
  congr 1
  omega
 rw [e2]
 rfl
theorem find_loc {α : Type} {p q : α → Bool} : ∀ {L : List α} {t : α}, L.find? p = some t → (∀ x ∈ L, q x = true → p x = true) → q t = true → L.find? q = some t
 | [], t, h, _, _ => by cases h
 | x :: L, t, h, hqp, hq => by
  rw [List.find?_cons] at h ⊢
  cases hp : p x with
  | true =>
   rw [hp] at h;injection h with h
   subst h;rw [hq]
  | false =>
   rw [hp] at h;have : q x = false := by
    cases hx : q x with
    | false => rfl
    | true =>
     have := hqp x (by simp) hx;rw [hp] at this
     cases this
   rw [this];exact find_loc h (fun y hy => hqp y (by simp [hy])) hq
theorem signs_line : ∀ t ∈ signsL, ∀ b ∈ t, b ≠ 10 := by decide
theorem Copy.pre {l T : List UInt8} {a A b : Nat} (h : Copy l T a A b) {t : List UInt8} (ht : t ∈ signsL) (hT : t.isPrefixOf (T.drop A) = true) : t.isPrefixOf (l.drop a) = true := by
 obtain ⟨r, hr⟩ := List.isPrefixOf_iff_prefix.1 hT;have hat : ∀ j (hj : j < t.length), T[A + j]? = some t[j] := fun j hj => by
  have : (T.drop A)[j]? = some t[j] := by rw [← hr, List.getElem?_append_left hj, List.getElem?_eq_getElem hj]
  rw [List.getElem?_drop] at this;exact this
 have hlen : t.length ≤ b - a := by
  rcases Nat.lt_or_ge (b - a) t.length with h1 | h1
  · have h2 := hat _ h1;rw [h.stop] at h2;injection h2 with h2
    exact absurd h2.symm (signs_line t ht _ (List.getElem_mem h1))
  · exact h1
 rw [List.isPrefixOf_iff_prefix, List.prefix_iff_eq_take];apply List.ext_getElem?;intro j
 by_cases hj : j < t.length
 · rw [List.getElem?_take_of_lt hj, List.getElem?_drop, ← h.same j (by omega), hat j hj, List.getElem?_eq_getElem hj]
 · rw [List.getElem?_eq_none (by omega), List.getElem?_eq_none (by simp; omega)]
theorem Copy.pre_back {l T : List UInt8} {a A b : Nat} (h : Copy l T a A b) {t : List UInt8} (hl : t.isPrefixOf (l.drop a) = true) (hb : a + t.length ≤ b) : t.isPrefixOf (T.drop A) = true := by
 obtain ⟨r, hr⟩ := List.isPrefixOf_iff_prefix.1 hl;rw [List.isPrefixOf_iff_prefix, List.prefix_iff_eq_take];apply List.ext_getElem?;intro j
 by_cases hj : j < t.length
 · rw [List.getElem?_take_of_lt hj, List.getElem?_drop, h.same j (by omega), ← List.getElem?_drop, ← hr, List.getElem?_append_left hj]
 · rw [List.getElem?_eq_none (by omega), List.getElem?_eq_none (by simp; omega)]
theorem Copy.tok {l T : List UInt8} {a A b : Nat} (h : Copy l T a A b) (he : (tokP l a).e = 0) (hp : (tokP l a).p ≤ b) : tokP T A = ⟨movF (tokP l a).t A, A + ((tokP l a).p - a), 0⟩ := by
 have hlt := h.lt;have hle := h.le;have hal : a < l.length := by omega
 have a0 : ∀ p : UInt8 → Bool, atF p T A = atF p l a := fun p => by have := h.atf (p := p) (j := 0) (by omega); simpa using this
 have b0 : Go.Proofs.YtoleoimmpggldaaGreatDoor.byt T A = Go.Proofs.YtoleoimmpggldaaGreatDoor.byt l a := by have := h.byt (j := 0) (by omega); simpa using this
 have a1 : atF nameB T (A + 1) = true → atF nameB l (a + 1) = true := fun g => by
  by_cases hb : 1 < b - a
  · rw [← h.atf hb]; exact g
  · have : b - a = 1 := by omega
    have h2 := h.atf_end (p := nameB) (by decide);rw [this] at h2;rw [h2] at g
    cases g
 have a2 : 1 < b - a → atF nameB T (A + 1) = atF nameB l (a + 1) := fun hb => h.atf hb
 unfold tokP at he hp ⊢;rw [a0, b0, a0]
 by_cases c0 : atF nameB l a = true
 · rw [if_pos c0] at he hp ⊢;rw [if_pos c0];unfold wordFP at he hp ⊢;have hn := h.named (k := wordK l a) (d := 0) (by omega) (by simpa using he) (by simpa using hp);simp only [Nat.add_zero] at hn;have hw : wordK T A = wordK l a := by
    obtain ⟨g1, g2, g3⟩ := namedP_ok (Nat.le_of_lt hal) he;rw [g1] at hp;have hs : Go.Proofs.YtoleoimmpggldaaGreatDoor.span nmdB l a ≤ b := hp;have e1 := h.span (p := nmdB) (by decide) _ 0 rfl (by omega) (by simpa using hs);simp only [Nat.add_zero] at e1;have e2 := h.sub (i := 0) (j := Go.Proofs.YtoleoimmpggldaaGreatDoor.span nmdB l a - a) (by omega);simp only [Nat.add_zero] at e2;have hge := span_ge nmdB l a;rw [show a + (Go.Proofs.YtoleoimmpggldaaGreatDoor.span nmdB l a - a) = Go.Proofs.YtoleoimmpggldaaGreatDoor.span nmdB l a by omega] at e2;unfold wordK;rw [e1, e2]
   rw [hw];exact hn
 · rw [if_neg c0] at he hp ⊢;rw [if_neg c0]
   by_cases c36 : Go.Proofs.YtoleoimmpggldaaGreatDoor.byt l a = 36 ∧ atF nameB l (a + 1) = true
   · rw [if_pos c36] at he hp ⊢;obtain ⟨g1, -, -⟩ := namedP_ok (by omega) he;have hs := (name_step c36.2).2;have hb1 : 1 < b - a := by
      have : (namedP l 3 a (a + 1)).p = Go.Proofs.YtoleoimmpggldaaGreatDoor.span nmdB l (a + 1) := by rw [g1]; rfl
      omega
     rw [if_pos ⟨c36.1, by rw [a2 hb1]; exact c36.2⟩];exact h.named hb1 he hp
   · rw [if_neg c36] at he hp ⊢;rw [if_neg (fun g => c36 ⟨g.1, a1 g.2⟩)]
     by_cases c46 : Go.Proofs.YtoleoimmpggldaaGreatDoor.byt l a = 46 ∧ atF nameB l (a + 1) = true
     · rw [if_pos c46] at he hp ⊢;obtain ⟨g1, -, -⟩ := namedP_ok (by omega) he;have hs := (name_step c46.2).2;have hb1 : 1 < b - a := by
        have : (namedP l 4 a (a + 1)).p = Go.Proofs.YtoleoimmpggldaaGreatDoor.span nmdB l (a + 1) := by rw [g1]; rfl
        omega
       rw [if_pos ⟨c46.1, by rw [a2 hb1]; exact c46.2⟩];exact h.named hb1 he hp
     · rw [if_neg c46] at he hp ⊢;rw [if_neg (fun g => c46 ⟨g.1, a1 g.2⟩)]
       by_cases cd : atF digB l a = true
       · rw [if_pos cd] at he hp ⊢;rw [if_pos cd];obtain ⟨t, hts⟩ : ∃ t, Go.Proofs.YtoleoimmpggldaaGreatDoor.span digB l a = t := ⟨_, rfl⟩
         have hst := (dig_step cd).2;unfold numFP at he hp ⊢;rw [hts] at he hp hst ⊢
         by_cases n1 : Go.Proofs.YtoleoimmpggldaaGreatDoor.byt l a = 48 ∧ a + 1 < t
         · rw [if_pos n1] at he; cases he
         · rw [if_neg n1] at he hp ⊢
           by_cases n2 : (atF nameB l t || fracB l t) = true
           · rw [if_pos n2] at he; cases he
           · rw [if_neg n2] at he hp ⊢
             cases ho : fitP false (natF 0 (Go.Proofs.YtoleoimmpggldaaGreatDoor.sub l a t)) with
             | none => rw [ho] at he; cases he
             | some v =>
              rw [ho] at hp;have htb : t ≤ b := hp;have e1 := h.span (p := digB) (by decide) _ 0 rfl (by omega) (by simp only [Nat.add_zero]; rw [hts]; exact htb);simp only [Nat.add_zero] at e1;rw [hts] at e1;have e2 := h.sub (i := 0) (j := t - a) (by omega);simp only [Nat.add_zero] at e2;rw [show a + (t - a) = t by omega] at e2;have n3 : atF nameB l t = false ∧ fracB l t = false := by
               cases x1 : atF nameB l t <;> cases x2 : fracB l t <;> simp_all
              have m3 : (atF nameB T (A + (t - a)) || fracB T (A + (t - a))) = false := by
               by_cases ht2 : t < b
               · have e3 := h.atf (p := nameB) (j := t - a) (by omega);rw [show a + (t - a) = t by omega, n3.1] at e3;have e4 := h.byt (j := t - a) (by omega);rw [show a + (t - a) = t by omega] at e4;rw [e3, Bool.false_or];have n4 := n3.2;unfold fracB at n4 ⊢;rw [e4]
                 by_cases h46 : Go.Proofs.YtoleoimmpggldaaGreatDoor.byt l t = 46
                 · rw [decide_eq_true h46, Bool.true_and] at n4 ⊢
                   by_cases ht3 : t + 1 < b
                   · have e5 := h.atf (p := digB) (j := t + 1 - a) (by omega);rw [show a + (t + 1 - a) = t + 1 by omega, n4] at e5;rw [show A + (t - a) + 1 = A + (t + 1 - a) by omega];exact e5
                   · have e5 := h.atf_end (p := digB) (by decide);rw [show A + (t - a) + 1 = A + (b - a) by omega];exact e5
                 · rw [decide_eq_false h46, Bool.false_and]
               · have ht3 : t = b := by omega
                 subst ht3;rw [h.atf_end (by decide), Bool.false_or];unfold fracB;have : Go.Proofs.YtoleoimmpggldaaGreatDoor.byt T (A + (t - a)) = 10 := by unfold Go.Proofs.YtoleoimmpggldaaGreatDoor.byt; rw [h.stop]; rfl
                 rw [this]
                 rfl
              rw [e1, b0, if_neg (fun g => n1 ⟨g.1, by omega⟩), if_neg (by rw [m3]; exact Bool.false_ne_true), e2, ho]
              rfl
       · rw [if_neg cd] at he hp ⊢;rw [if_neg cd]
         by_cases c34 : Go.Proofs.YtoleoimmpggldaaGreatDoor.byt l a = 34
         · rw [if_pos c34] at he hp ⊢;rw [if_pos c34];have hx : ∀ (L : List UInt8) (k : Nat), k < L.length → Go.Proofs.YtoleoimmpggldaaGreatDoor.byt L k = 34 → lexP L (k : Int) = strP L k := fun L k hk hb => by
            have hbk := byt_at hk;rw [hb] at hbk;have hbl : Go.Proofs.YtoleoimmpggldaaGreatDoor.span blankB L k = k := span_no hk (by unfold blankB; simp; omega);have hg : L[k]?.getD 0 = L[k] := by rw [List.getElem?_eq_getElem hk]; rfl
            unfold lexP;rw [if_neg (by omega), Int.toNat_natCast, hbl];unfold lexN;rw [if_neg (by omega), hg, if_neg (by unfold signB; simp; omega), if_neg (by unfold letB; simp; omega), hb, if_neg (by unfold digB; simp; omega), if_pos rfl]
           unfold strFP at he hp ⊢;rw [hx l a hal c34] at he hp ⊢;rw [hx T A (by have := h.len; omega) (b0.trans c34)];unfold strP at he hp ⊢
           by_cases s0 : (strF l a (l.length - a) (a + 1) []).e = 0
           · rw [if_pos s0] at hp ⊢;have hlen := h.len;obtain ⟨e1, -⟩ := strF_loc h.same (l.length - a) (a + 1) [] (T.length - A) (by omega) s0 hp (by omega);rw [show A + (a + 1 - a) = A + 1 by omega] at e1;rw [e1]
             rfl
           · rw [if_neg s0] at he;exact absurd he s0
         · rw [if_neg c34] at he hp ⊢;rw [if_neg c34];obtain ⟨t, g1, g2, g3, g4⟩ := signFP_ok he;rw [g2] at hp ⊢;have hb : a + t.length ≤ b := hp;have g5 := List.find?_some g1;have g6 : signsL.find? (fun t => t.isPrefixOf (T.drop A)) = some t := find_loc g1 (fun x hx hq => h.pre hx hq) (h.pre_back g5 hb);unfold signFP;rw [g6]
           show okF 7 A (bsF t) 0 (A + t.length) = ⟨movF ⟨7, a, bsF t, 0⟩ A, A + (a + t.length - a), 0⟩
           rw [show a + t.length - a = t.length by omega]
           rfl
end Go.Proofs.YtoleoimmpggldaaGreatDoor
namespace Go.Proofs.YtoleoimmpggldaaGreatDoor
open Go.RowKit
def TAt (l : List UInt8) (a : Nat) (ts : List Fk) : Prop := ∀ i t, ts[i]? = some t → t.o < l.length ∧ (tokP l t.o).e = 0 ∧ (tokP l t.o).t = t ∧ gapP l (tokP l t.o).p = posF ts a (i + 1)
theorem TAt.start (l : List UInt8) (a : Nat) : TAt l a [] := fun i t h => by simp at h
theorem TAt.next {l : List UInt8} {a : Nat} {ts : List Fk} (h : TAt l a ts) (ha : a < l.length) (he : (tokP l a).e = 0) : TAt l (gapP l (tokP l a).p) (ts ++ [(tokP l a).t]) := by
 obtain ⟨g1, -⟩ := tok_good ha he;intro i t hi;rcases Nat.lt_trichotomy i ts.length with h1 | h1 | h1
 · rw [List.getElem?_append_left h1] at hi;obtain ⟨h2, h3, h4, h5⟩ := h i t hi;refine ⟨h2, h3, h4, h5.trans ?_⟩
   by_cases h6 : i + 1 < ts.length
   · unfold posF; rw [List.getElem?_append_left h6, List.getElem?_eq_getElem h6]
   · rw [posF_out (by omega : ts.length ≤ i + 1)];have h7 : i + 1 = ts.length := by omega
     rw [posF_in (t := (tokP l a).t) (by rw [h7, List.getElem?_append_right (Nat.le_refl _)]; simp)];exact g1.symm
 · subst h1;rw [List.getElem?_append_right (Nat.le_refl _)] at hi;simp at hi;subst hi;rw [g1, posF_out (by simp)];exact ⟨ha, he, rfl, rfl⟩
 · rw [List.getElem?_eq_none (by simp; omega)] at hi; cases hi
theorem lexF_toks {l : List UInt8} : ∀ (n a : Nat) (ts us : List Fk), a ≤ l.length → OAt l a ts → TAt l a ts → lexF l n a ts = ⟨some us, 0, 0⟩ → ∃ vs, us = vs ++ [endK l] ∧ OAt l l.length vs ∧ TAt l l.length vs
 | 0, a, ts, us, ha, h, h', he => by rw [lexF] at he; cases he
 | n + 1, a, ts, us, ha, h, h', he => by
  rw [lexF] at he
  by_cases h1 : a < l.length
  · rw [if_pos h1] at he
    by_cases h2 : ts.length = 2048
    · rw [if_pos h2] at he; cases he
    · rw [if_neg h2] at he
      by_cases h3 : (tokP l a).e = 0
      · rw [if_pos h3] at he;exact lexF_toks n _ _ us (gap_le _ _) (h.next h1 h3) (h'.next h1 h3) he
      · rw [if_neg h3] at he; cases he
  · rw [if_neg h1] at he;injection he with e1
    injection e1 with e1
    have h2 : a = l.length := by omega
    rw [h2] at h h';exact ⟨ts, e1.symm, h, h'⟩
theorem lexFP_toks {l : List UInt8} {us : List Fk} (h : lexFP l = ⟨some us, 0, 0⟩) : ∃ vs, us = vs ++ [endK l] ∧ OAt l l.length vs ∧ TAt l l.length vs := by
 unfold lexFP at h
 by_cases h1 : 8192 < l.length
 · rw [if_pos h1] at h; cases h
 · rw [if_neg h1] at h;exact lexF_toks _ _ _ us (gap_le _ _) (OAt.start l _) (TAt.start l _) h
section
variable {l : List UInt8} {vs : List Fk} {zs : List Int}
end
