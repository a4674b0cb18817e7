/- The tokens of a JSON text, wherever they stand in it. Nothing of the program is named here. -/
import Derived.Test.YtfmpdcmedaiooaaGreatDoorU16
set_option linter.unusedVariables false
set_option linter.unusedSimpArgs false
namespace Go.Proofs.YtfmpdcmedaiooaaGreatDoor
open Go.RowKit
/-- The token moved. -/
def Lx.mv (a : Nat) (x : Lx) : Lx := if x.e = 0 then ⟨x.k, a + x.f, a + x.t, x.b, x.i, x.s, a + x.p, 0⟩ else ⟨x.k, x.f, x.t, x.b, x.i, x.s, a + x.p, x.e⟩
theorem mv_ok (a k f t b : Nat) (i : Int) (s : ByteArray) : (okX k f t b i s).mv a = okX k (a + f) (a + t) b i s := rfl
section
variable (pre r : List UInt8)
theorem drop_mv (j : Nat) : (pre ++ r).drop (pre.length + j) = r.drop j := by rw [← List.drop_drop, List.drop_left]
theorem span_mv (p : UInt8 → Bool) (j : Nat) : span p (pre ++ r) (pre.length + j) = pre.length + span p r j := by
  unfold span
  rw [drop_mv]
  omega
theorem get_mv (j : Nat) : (pre ++ r)[pre.length + j]? = r[j]? := by
  rw [List.getElem?_append_right (Nat.le_add_right _ _), Nat.add_sub_cancel_left]
theorem byt_mv (j : Nat) : byt (pre ++ r) (pre.length + j) = byt r j := by unfold byt; rw [get_mv]
theorem sub_mv (i j : Nat) : sub (pre ++ r) (pre.length + i) (pre.length + j) = sub r i j := by
  unfold sub
  rw [drop_mv]
  congr 1
  omega
theorem wordP_mv (j : Nat) : wordP (pre ++ r) (pre.length + j) = (wordP r j).mv pre.length := by
  unfold wordP
  rw [span_mv, sub_mv, byt_mv]
  cases wordB (sub r j (span letB r j)) with
  | true => rfl
  | false => rfl
theorem firstP_mv (j : Nat) : firstP (pre ++ r) (pre.length + j) = pre.length + firstP r j := by
  unfold firstP
  rw [byt_mv]
  split <;> omega
theorem numP_mv (j : Nat) : numP (pre ++ r) (pre.length + j) = (numP r j).mv pre.length := by
  unfold numP
  have hm : moreB (pre ++ r) (pre.length + span digB r (firstP r j)) = moreB r (span digB r (firstP r j)) := by unfold moreB; rw [byt_mv]
  rw [firstP_mv, span_mv, byt_mv, hm, sub_mv, byt_mv]
  by_cases h1 : span digB r (firstP r j) = firstP r j
  · rw [if_pos (by omega), if_pos h1]; rfl
  rw [if_neg (by omega), if_neg h1]
  by_cases h2 : byt r (firstP r j) = 48 ∧ firstP r j + 1 < span digB r (firstP r j)
  · rw [if_pos (by omega), if_pos h2]; rfl
  rw [if_neg (by omega), if_neg h2]
  by_cases h3 : moreB r (span digB r (firstP r j)) = true
  · rw [if_pos h3, if_pos h3]; rfl
  rw [if_neg h3, if_neg h3]
  cases fitP (decide (byt r j = 45)) (natF 0 (sub r (firstP r j) (span digB r (firstP r j)))) with
  | none => rfl
  | some v => rfl
theorem strF_mv (k : Nat) : ∀ (m i : Nat) (out : List UInt8), strF (pre ++ r) (pre.length + k) m (pre.length + i) out = (strF r k m i out).mv pre.length
  | 0, i, out => by
    rw [strF, strF, List.length_append]; rfl
  | m + 1, i, out => by
    rw [strF, strF, drop_mv]
    cases hq : elP (r.drop i) with
    | quote =>
      simp only []
      split
      · rw [mv_ok, Nat.add_assoc]
      · rfl
    | trunc => simp only []; rw [List.length_append]; rfl
    | stop e =>
      simp only []
      have := elP_stop hq
      rcases this with rfl | rfl <;> rfl
    | add c n =>
      simp only []
      rw [Nat.add_assoc]
      exact strF_mv k m (i + n) _
theorem lexN_mv (j : Nat) : lexN (pre ++ r) (pre.length + j) = (lexN r j).mv pre.length := by
  unfold lexN
  rw [get_mv, byt_mv, List.length_append]
  by_cases h1 : j = r.length
  · rw [if_pos (by omega), if_pos h1]; rfl
  rw [if_neg (by omega), if_neg h1]
  split
  · rfl
  split
  · exact wordP_mv pre r j
  split
  · exact numP_mv pre r j
  split
  · unfold strP
    rw [List.length_append, Nat.add_assoc, show pre.length + r.length - (pre.length + j) = r.length - j by omega]
    exact strF_mv pre r j _ (j + 1) []
  · rfl
theorem lexP_mv : lexP (pre ++ r) (pre.length : Nat) = (lexP r 0).mv pre.length := by
  unfold lexP
  rw [if_neg (by rw [List.length_append]; omega), if_neg (by omega), Int.toNat_natCast]
  have h := span_mv pre r blankB 0
  rw [Nat.add_zero] at h
  rw [h]
  exact lexN_mv pre r _
end
/-- A token of the text that is left. -/
theorem lex_at {T : List UInt8} {A : Nat} {y : List UInt8} (hA : A ≤ T.length) (hd : T.drop A = y) : lexP T (A : Nat) = (lexP y 0).mv A := by
  have h1 : T.take A ++ y = T := by rw [← hd]; exact List.take_append_drop A T
  have h2 : (T.take A).length = A := by rw [List.length_take]; omega
  have h := lexP_mv (T.take A) y
  rw [h1, h2] at h
  exact h
theorem lex_sign {c : UInt8} (x : List UInt8) (hc : signB c = true) : lexP (c :: x) 0 = okX 1 0 1 c.toNat 0 ⟨#[]⟩ := by
  have hb : blankB c = false := by
    unfold signB at hc
    unfold blankB
    rw [decide_eq_true_eq] at hc
    rw [decide_eq_false_iff_not]; omega
  unfold lexP
  rw [if_neg (by omega)]
  show lexN (c :: x) (span blankB (c :: x) 0) = _
  rw [span_no (k := 0) (by simp) hb]
  unfold lexN
  rw [if_neg (by simp)]
  show (if signB c = true then _ else _) = _
  rw [if_pos hc]
  rfl
theorem lex_word {w x : List UInt8} (hw : wordB w = true) (ha : ∀ b ∈ w, letB b = true) (hn : w ≠ []) (hx : ∀ b, x.head? = some b → letB b = false) : lexP (w ++ x) 0 = okX 2 0 w.length (byt w 0) 0 ⟨#[]⟩ := by
  obtain ⟨c, t, rfl⟩ : ∃ c t, w = c :: t := by
    cases w with
    | nil => exact absurd rfl hn
    | cons c t => exact ⟨c, t, rfl⟩
  have hc := ha c (by simp)
  have hcr : 97 ≤ c.toNat ∧ c.toNat ≤ 122 := by unfold letB at hc; exact of_decide_eq_true hc
  have hb : blankB c = false := by unfold blankB; rw [decide_eq_false_iff_not]; omega
  have hs : signB c = false := by unfold signB; rw [decide_eq_false_iff_not]; omega
  have h1 := span_app [] (c :: t) x ha hx
  have h2 := sub_app [] (c :: t) x
  simp only [List.nil_append, List.length_nil, Nat.zero_add] at h1 h2
  unfold lexP
  rw [if_neg (by omega)]
  show lexN (c :: t ++ x) (span blankB (c :: t ++ x) 0) = _
  rw [show span blankB (c :: t ++ x) 0 = 0 from span_no (k := 0) (by simp) hb]
  unfold lexN
  rw [if_neg (by simp)]
  show (if signB c = true then _ else if letB c = true then _ else _) = _
  rw [if_neg (by rw [hs]; exact Bool.false_ne_true), if_pos hc]
  unfold wordP
  rw [h1, h2, hw]
  rfl
theorem lex_quoted {l x : List UInt8} {xs : List Nat} (hx : encs xs = l) (hc : ∀ r ∈ xs, cp (r : Int) = true) (hl : l.length ≤ 4096) :
    lexP (qt l ++ x) 0 = okX 4 0 (qt l).length 0 0 ⟨l.toArray⟩ := by
  subst hx
  unfold qt
  have e0 : 34 :: (qbs (encs xs) ++ [34]) ++ x = 34 :: (qbs (encs xs) ++ 34 :: x) := by simp
  rw [e0, lex_str]
  have h := scan_over (34 :: x) xs [] hc (34 :: (qbs (encs xs) ++ 34 :: x)) (by simp [encs_nil, qbs_nil]) (StrAt.start (by simp))
  simp only [List.nil_append] at h
  have hd : (34 :: (qbs (encs xs) ++ 34 :: x)).drop (1 + (qbs (encs xs)).length) = 34 :: x := by rw [Nat.add_comm, List.drop_succ_cons, List.drop_left]
  rw [h.step, hd]
  have e : elP (34 :: x) = .quote := rfl
  rw [e]
  simp only []
  rw [if_pos hl]
  have e2 : 1 + (qbs (encs xs)).length + 1 = (34 :: (qbs (encs xs) ++ [34])).length := by simp; omega
  rw [e2]
/-- The first token of a value that stands at A. -/
def ft (A : Nat) : V → Lx
  | .mk k n s ks es => if k = 3 then okX 3 A (A + (numL n).length) 0 n ⟨#[]⟩ else if k = 4 then okX 4 A (A + (qt s.data.toList).length) 0 0 s else if k = 5 then okX 1 A (A + 1) 91 0 ⟨#[]⟩ else if k = 6 then okX 1 A (A + 1) 123 0 ⟨#[]⟩
    else if k = 1 then okX 2 A (A + 5) 102 0 ⟨#[]⟩ else if k = 2 then okX 2 A (A + 4) 116 0 ⟨#[]⟩ else okX 2 A (A + 4) 110 0 ⟨#[]⟩
theorem okS_xs {s : ByteArray} (h : okS s = true) : ∃ xs, encs xs = s.data.toList ∧ ∀ r ∈ xs, cp (r : Int) = true := by
  unfold okS at h
  obtain ⟨xs, hx⟩ := Option.isSome_iff_exists.1 h
  exact ⟨xs, encs_runes _ _ (Nat.le_refl _) xs hx⟩
theorem str_at {T : List UInt8} {A : Nat} {s : ByteArray} {x : List UInt8} (hA : A ≤ T.length) (hd : T.drop A = qt s.data.toList ++ x) (hs : s.size ≤ 4096) (ho : okS s = true) : lexP T (A : Nat) = okX 4 A (A + (qt s.data.toList).length) 0 0 s := by
  obtain ⟨xs, h1, h2⟩ := okS_xs ho
  rw [lex_at hA hd, lex_quoted h1 h2 (by simpa using hs), mv_ok]
  rfl
theorem sign_at {T : List UInt8} {A : Nat} {c : UInt8} {x : List UInt8} (hA : A ≤ T.length) (hd : T.drop A = c :: x) (hc : signB c = true) : lexP T (A : Nat) = okX 1 A (A + 1) c.toNat 0 ⟨#[]⟩ := by
  rw [lex_at hA hd, lex_sign x hc, mv_ok]
  rfl
theorem Dl.let {r : List UInt8} (h : Dl r) : ∀ b, r.head? = some b → letB b = false := fun b hb => by
  have := h b hb
  unfold letB
  rw [decide_eq_false_iff_not]; omega
theorem Dl.more {r : List UInt8} (h : Dl r) : moreB r 0 = false := by
  unfold moreB byt
  cases r with
  | nil => rfl
  | cons b t =>
    have := h b rfl
    show decide (b.toNat = 46 ∨ b.toNat = 101 ∨ b.toNat = 69) = false
    rw [decide_eq_false_iff_not]; omega
theorem first_at {T : List UInt8} {A : Nat} {v : V} {x : List UInt8} (hg : good v = true) (hn : nrg v) (hA : A ≤ T.length) (hd : T.drop A = wr v ++ x) (hx : Dl x) : lexP T (A : Nat) = ft A v := by
  obtain ⟨k, n, s, ks, es⟩ := v
  rw [good] at hg
  simp only [Bool.and_eq_true, decide_eq_true_eq] at hg
  obtain ⟨hf, hs, ho, -⟩ := hg
  rw [nrg] at hn
  obtain ⟨⟨k0, k6⟩, -⟩ := fits_facts hf
  have hk : k = 0 ∨ k = 1 ∨ k = 2 ∨ k = 3 ∨ k = 4 ∨ k = 5 ∨ k = 6 := by omega
  have hword : ∀ w : List UInt8, wordB w = true → (∀ b ∈ w, letB b = true) → w ≠ [] → T.drop A = w ++ x → lexP T (A : Nat) = okX 2 A (A + w.length) (byt w 0) 0 ⟨#[]⟩ := fun w h1 h2 h3 h4 => by
    rw [lex_at hA h4, lex_word h1 h2 h3 hx.let, mv_ok]; rfl
  rcases hk with rfl | rfl | rfl | rfl | rfl | rfl | rfl
  · rw [wr_null (by decide) (by decide) (by decide) (by decide) (by decide) (by decide)] at hd
    exact hword _ rfl (by decide) (by simp) hd
  · rw [wr_false] at hd
    exact hword _ rfl (by decide) (by simp) hd
  · rw [wr_true] at hd
    exact hword _ rfl (by decide) (by simp) hd
  · rw [wr_num] at hd
    rw [lex_at hA hd, numP_text n hn.1 x hx.dig, hx.more, if_neg (by decide), mv_ok]
    rfl
  · rw [wr_str] at hd
    exact str_at hA hd hs ho
  · rw [wr_arr] at hd
    exact sign_at hA hd rfl
  · rw [wr_obj] at hd
    exact sign_at hA hd rfl
theorem ft_p (A : Nat) (v : V) : (ft A v).e = 0 ∧ (ft A v).k ≠ 0 := by
  obtain ⟨k, n, s, ks, es⟩ := v
  unfold ft
  (repeat' split) <;> exact ⟨rfl, Nat.succ_ne_zero _⟩
end Go.Proofs.YtfmpdcmedaiooaaGreatDoor
