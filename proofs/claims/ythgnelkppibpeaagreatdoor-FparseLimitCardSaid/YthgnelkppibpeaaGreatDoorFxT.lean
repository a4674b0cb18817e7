/- A token reads the same where the same bytes stand and a line feed behind them: plain. Nothing of the program is named here. -/
import Derived.Test.YthgnelkppibpeaaGreatDoorFxS
set_option linter.unusedVariables false
set_option linter.unusedSimpArgs false
namespace Go.Proofs.YthgnelkppibpeaaGreatDoor
open Go.RowKit
/-- At the offset A of T stand the bytes of l from a on up to b, and a line feed. -/
structure Copy (l T : List UInt8) (a A b : Nat) : Prop where
  le : b ≤ l.length
  lt : a < b
  same : ∀ j, j < b - a → T[A + j]? = l[a + j]?
  stop : T[A + (b - a)]? = some 10
theorem Copy.len {l T : List UInt8} {a A b : Nat} (h : Copy l T a A b) : A + (b - a) < T.length := (List.getElem?_eq_some_iff.1 h.stop).1
theorem Copy.atf {l T : List UInt8} {a A b : Nat} (h : Copy l T a A b) {p : UInt8 → Bool} {j : Nat} (hj : j < b - a) : atF p T (A + j) = atF p l (a + j) := by unfold atF; rw [h.same j hj]
theorem Copy.byt {l T : List UInt8} {a A b : Nat} (h : Copy l T a A b) {j : Nat} (hj : j < b - a) : byt T (A + j) = byt l (a + j) := by unfold Go.Proofs.YthgnelkppibpeaaGreatDoor.byt; rw [h.same j hj]
theorem Copy.atf_end {l T : List UInt8} {a A b : Nat} (h : Copy l T a A b) {p : UInt8 → Bool} (hp : p 10 = false) : atF p T (A + (b - a)) = false := by unfold atF; rw [h.stop]; exact hp
theorem Copy.span {l T : List UInt8} {a A b : Nat} (h : Copy l T a A b) {p : UInt8 → Bool} (hp : p 10 = false) : ∀ (n j : Nat), b - a - j = n → j ≤ b - a → span p l (a + j) ≤ b → span p T (A + j) = A + (span p l (a + j) - a)
  | 0, j, hn, hj, hs => by
    have hjb : j = b - a := by omega
    subst hjb
    have h1 := span_ge p l (a + (b - a))
    have h2 : Go.Proofs.YthgnelkppibpeaaGreatDoor.span p T (A + (b - a)) = A + (b - a) := by
      obtain ⟨g1, g2⟩ := List.getElem?_eq_some_iff.1 h.stop
      exact span_no g1 (by rw [g2]; exact hp)
    have := h.lt
    rw [h2]
    omega
  | n + 1, j, hn, hj, hs => by
    have hjb : j < b - a := by omega
    have hl : a + j < l.length := by have := h.le; omega
    have h1 := h.same j hjb
    rw [List.getElem?_eq_getElem hl] at h1
    obtain ⟨g1, g2⟩ := List.getElem?_eq_some_iff.1 h1
    cases hc : p l[a + j] with
    | true =>
      rw [span_in hl hc] at hs ⊢
      rw [span_in g1 (by rw [g2]; exact hc)]
      have := Copy.span h hp n (j + 1) (by omega) (by omega) (by rw [show a + (j + 1) = a + j + 1 by omega]; exact hs)
      rw [show A + (j + 1) = A + j + 1 by omega, show a + (j + 1) = a + j + 1 by omega] at this
      exact this
    | false =>
      rw [span_no hl hc, span_no g1 (by rw [g2]; exact hc)]
      omega
theorem Copy.sub {l T : List UInt8} {a A b : Nat} (h : Copy l T a A b) {i j : Nat} (hj : j ≤ b - a) : sub T (A + i) (A + j) = sub l (a + i) (a + j) := by
  unfold Go.Proofs.YthgnelkppibpeaaGreatDoor.sub
  apply List.ext_getElem?
  intro k
  by_cases hk : k < j - i
  · rw [List.getElem?_take_of_lt (by omega), List.getElem?_take_of_lt (by omega), List.getElem?_drop, List.getElem?_drop]
    have := h.same (i + k) (by omega)
    rw [show A + i + k = A + (i + k) by omega, this]
    congr 1
    omega
  · rw [List.getElem?_eq_none (by simp; omega), List.getElem?_eq_none (by simp; omega)]
/-- A token at another offset. -/
def movF (t : Fk) (A : Nat) : Fk := { t with o := A }
theorem Copy.named {l T : List UInt8} {a A b k d : Nat} (h : Copy l T a A b) (hd : d < b - a) (he : (namedP l k a (a + d)).e = 0) (hp : (namedP l k a (a + d)).p ≤ b) : namedP T k A (A + d) = ⟨movF (namedP l k a (a + d)).t A, A + ((namedP l k a (a + d)).p - a), 0⟩ := by
  obtain ⟨h1, h2, h3⟩ := namedP_ok (by have := h.le; omega) he
  rw [h1] at hp ⊢
  have hs : Go.Proofs.YthgnelkppibpeaaGreatDoor.span nmdB l (a + d) ≤ b := hp
  have e1 := h.span (p := nmdB) (by decide) _ d rfl (by omega) hs
  have hge := span_ge nmdB l (a + d)
  unfold namedP
  rw [e1, if_neg (by omega)]
  have e2 : Go.Proofs.YthgnelkppibpeaaGreatDoor.sub T (A + d) (A + (Go.Proofs.YthgnelkppibpeaaGreatDoor.span nmdB l (a + d) - a)) = Go.Proofs.YthgnelkppibpeaaGreatDoor.sub l (a + d) (Go.Proofs.YthgnelkppibpeaaGreatDoor.span nmdB l (a + d)) := by
    rw [h.sub (by omega)]
    congr 1
    omega
  rw [e2]
  rfl
theorem find_loc {α : Type} {p q : α → Bool} : ∀ {L : List α} {t : α}, L.find? p = some t → (∀ x ∈ L, q x = true → p x = true) → q t = true → L.find? q = some t
  | [], t, h, _, _ => by cases h
  | x :: L, t, h, hqp, hq => by
    rw [List.find?_cons] at h ⊢
    cases hp : p x with
    | true =>
      rw [hp] at h
      injection h with h
      subst h
      rw [hq]
    | false =>
      rw [hp] at h
      have : q x = false := by
        cases hx : q x with
        | false => rfl
        | true =>
          have := hqp x (by simp) hx
          rw [hp] at this
          cases this
      rw [this]
      exact find_loc h (fun y hy => hqp y (by simp [hy])) hq
theorem signs_line : ∀ t ∈ signsL, ∀ b ∈ t, b ≠ 10 := by decide
theorem signs_head : ∀ t ∈ signsL, ∀ b, t.head? = some b → blankB b = false ∧ ¬ b.toNat = 35 := by
  have h : (signsL.all fun t => match t.head? with | some b => !blankB b && !(b.toNat == 35) | none => true) = true := by decide
  intro t ht b hb
  have := List.all_eq_true.1 h t ht
  rw [hb] at this
  simpa using this
theorem Copy.pre {l T : List UInt8} {a A b : Nat} (h : Copy l T a A b) {t : List UInt8} (ht : t ∈ signsL) (hT : t.isPrefixOf (T.drop A) = true) : t.isPrefixOf (l.drop a) = true := by
  obtain ⟨r, hr⟩ := List.isPrefixOf_iff_prefix.1 hT
  have hat : ∀ j (hj : j < t.length), T[A + j]? = some t[j] := fun j hj => by
    have : (T.drop A)[j]? = some t[j] := by rw [← hr, List.getElem?_append_left hj, List.getElem?_eq_getElem hj]
    rw [List.getElem?_drop] at this
    exact this
  have hlen : t.length ≤ b - a := by
    rcases Nat.lt_or_ge (b - a) t.length with h1 | h1
    · have h2 := hat _ h1
      rw [h.stop] at h2
      injection h2 with h2
      exact absurd h2.symm (signs_line t ht _ (List.getElem_mem h1))
    · exact h1
  rw [List.isPrefixOf_iff_prefix, List.prefix_iff_eq_take]
  apply List.ext_getElem?
  intro j
  by_cases hj : j < t.length
  · rw [List.getElem?_take_of_lt hj, List.getElem?_drop, ← h.same j (by omega), hat j hj, List.getElem?_eq_getElem hj]
  · rw [List.getElem?_eq_none (by omega), List.getElem?_eq_none (by simp; omega)]
theorem Copy.pre_back {l T : List UInt8} {a A b : Nat} (h : Copy l T a A b) {t : List UInt8} (hl : t.isPrefixOf (l.drop a) = true) (hb : a + t.length ≤ b) : t.isPrefixOf (T.drop A) = true := by
  obtain ⟨r, hr⟩ := List.isPrefixOf_iff_prefix.1 hl
  rw [List.isPrefixOf_iff_prefix, List.prefix_iff_eq_take]
  apply List.ext_getElem?
  intro j
  by_cases hj : j < t.length
  · rw [List.getElem?_take_of_lt hj, List.getElem?_drop, h.same j (by omega), ← List.getElem?_drop, ← hr, List.getElem?_append_left hj]
  · rw [List.getElem?_eq_none (by omega), List.getElem?_eq_none (by simp; omega)]
/-- A TOKEN THAT ENDS BY THE OFFSET b READS THE SAME. -/
theorem Copy.tok {l T : List UInt8} {a A b : Nat} (h : Copy l T a A b) (he : (tokP l a).e = 0) (hp : (tokP l a).p ≤ b) : tokP T A = ⟨movF (tokP l a).t A, A + ((tokP l a).p - a), 0⟩ := by
  have hlt := h.lt
  have hle := h.le
  have hal : a < l.length := by omega
  have a0 : ∀ p : UInt8 → Bool, atF p T A = atF p l a := fun p => by have := h.atf (p := p) (j := 0) (by omega); simpa using this
  have b0 : Go.Proofs.YthgnelkppibpeaaGreatDoor.byt T A = Go.Proofs.YthgnelkppibpeaaGreatDoor.byt l a := by have := h.byt (j := 0) (by omega); simpa using this
  have a1 : atF nameB T (A + 1) = true → atF nameB l (a + 1) = true := fun g => by
    by_cases hb : 1 < b - a
    · rw [← h.atf hb]; exact g
    · have : b - a = 1 := by omega
      have h2 := h.atf_end (p := nameB) (by decide)
      rw [this] at h2
      rw [h2] at g
      cases g
  have a2 : 1 < b - a → atF nameB T (A + 1) = atF nameB l (a + 1) := fun hb => h.atf hb
  unfold tokP at he hp ⊢
  rw [a0, b0, a0]
  by_cases c0 : atF nameB l a = true
  · rw [if_pos c0] at he hp ⊢
    rw [if_pos c0]
    unfold wordFP at he hp ⊢
    have hn := h.named (k := wordK l a) (d := 0) (by omega) (by simpa using he) (by simpa using hp)
    simp only [Nat.add_zero] at hn
    have hw : wordK T A = wordK l a := by
      obtain ⟨g1, g2, g3⟩ := namedP_ok (Nat.le_of_lt hal) he
      rw [g1] at hp
      have hs : Go.Proofs.YthgnelkppibpeaaGreatDoor.span nmdB l a ≤ b := hp
      have e1 := h.span (p := nmdB) (by decide) _ 0 rfl (by omega) (by simpa using hs)
      simp only [Nat.add_zero] at e1
      have e2 := h.sub (i := 0) (j := Go.Proofs.YthgnelkppibpeaaGreatDoor.span nmdB l a - a) (by omega)
      simp only [Nat.add_zero] at e2
      have hge := span_ge nmdB l a
      rw [show a + (Go.Proofs.YthgnelkppibpeaaGreatDoor.span nmdB l a - a) = Go.Proofs.YthgnelkppibpeaaGreatDoor.span nmdB l a by omega] at e2
      unfold wordK
      rw [e1, e2]
    rw [hw]
    exact hn
  · rw [if_neg c0] at he hp ⊢
    rw [if_neg c0]
    by_cases c36 : Go.Proofs.YthgnelkppibpeaaGreatDoor.byt l a = 36 ∧ atF nameB l (a + 1) = true
    · rw [if_pos c36] at he hp ⊢
      obtain ⟨g1, -, -⟩ := namedP_ok (by omega) he
      have hs := (name_step c36.2).2
      have hb1 : 1 < b - a := by
        have : (namedP l 3 a (a + 1)).p = Go.Proofs.YthgnelkppibpeaaGreatDoor.span nmdB l (a + 1) := by rw [g1]; rfl
        omega
      rw [if_pos ⟨c36.1, by rw [a2 hb1]; exact c36.2⟩]
      exact h.named hb1 he hp
    · rw [if_neg c36] at he hp ⊢
      rw [if_neg (fun g => c36 ⟨g.1, a1 g.2⟩)]
      by_cases c46 : Go.Proofs.YthgnelkppibpeaaGreatDoor.byt l a = 46 ∧ atF nameB l (a + 1) = true
      · rw [if_pos c46] at he hp ⊢
        obtain ⟨g1, -, -⟩ := namedP_ok (by omega) he
        have hs := (name_step c46.2).2
        have hb1 : 1 < b - a := by
          have : (namedP l 4 a (a + 1)).p = Go.Proofs.YthgnelkppibpeaaGreatDoor.span nmdB l (a + 1) := by rw [g1]; rfl
          omega
        rw [if_pos ⟨c46.1, by rw [a2 hb1]; exact c46.2⟩]
        exact h.named hb1 he hp
      · rw [if_neg c46] at he hp ⊢
        rw [if_neg (fun g => c46 ⟨g.1, a1 g.2⟩)]
        by_cases cd : atF digB l a = true
        · rw [if_pos cd] at he hp ⊢
          rw [if_pos cd]
          obtain ⟨t, hts⟩ : ∃ t, Go.Proofs.YthgnelkppibpeaaGreatDoor.span digB l a = t := ⟨_, rfl⟩
          have hst := (dig_step cd).2
          unfold numFP at he hp ⊢
          rw [hts] at he hp hst ⊢
          by_cases n1 : Go.Proofs.YthgnelkppibpeaaGreatDoor.byt l a = 48 ∧ a + 1 < t
          · rw [if_pos n1] at he; cases he
          · rw [if_neg n1] at he hp ⊢
            by_cases n2 : (atF nameB l t || fracB l t) = true
            · rw [if_pos n2] at he; cases he
            · rw [if_neg n2] at he hp ⊢
              cases ho : fitP false (natF 0 (Go.Proofs.YthgnelkppibpeaaGreatDoor.sub l a t)) with
              | none => rw [ho] at he; cases he
              | some v =>
                rw [ho] at hp
                have htb : t ≤ b := hp
                have e1 := h.span (p := digB) (by decide) _ 0 rfl (by omega) (by simp only [Nat.add_zero]; rw [hts]; exact htb)
                simp only [Nat.add_zero] at e1
                rw [hts] at e1
                have e2 := h.sub (i := 0) (j := t - a) (by omega)
                simp only [Nat.add_zero] at e2
                rw [show a + (t - a) = t by omega] at e2
                have n3 : atF nameB l t = false ∧ fracB l t = false := by
                  cases x1 : atF nameB l t <;> cases x2 : fracB l t <;> simp_all
                have m3 : (atF nameB T (A + (t - a)) || fracB T (A + (t - a))) = false := by
                  by_cases ht2 : t < b
                  · have e3 := h.atf (p := nameB) (j := t - a) (by omega)
                    rw [show a + (t - a) = t by omega, n3.1] at e3
                    have e4 := h.byt (j := t - a) (by omega)
                    rw [show a + (t - a) = t by omega] at e4
                    rw [e3, Bool.false_or]
                    have n4 := n3.2
                    unfold fracB at n4 ⊢
                    rw [e4]
                    by_cases h46 : Go.Proofs.YthgnelkppibpeaaGreatDoor.byt l t = 46
                    · rw [decide_eq_true h46, Bool.true_and] at n4 ⊢
                      by_cases ht3 : t + 1 < b
                      · have e5 := h.atf (p := digB) (j := t + 1 - a) (by omega)
                        rw [show a + (t + 1 - a) = t + 1 by omega, n4] at e5
                        rw [show A + (t - a) + 1 = A + (t + 1 - a) by omega]
                        exact e5
                      · have e5 := h.atf_end (p := digB) (by decide)
                        rw [show A + (t - a) + 1 = A + (b - a) by omega]
                        exact e5
                    · rw [decide_eq_false h46, Bool.false_and]
                  · have ht3 : t = b := by omega
                    subst ht3
                    rw [h.atf_end (by decide), Bool.false_or]
                    unfold fracB
                    have : Go.Proofs.YthgnelkppibpeaaGreatDoor.byt T (A + (t - a)) = 10 := by unfold Go.Proofs.YthgnelkppibpeaaGreatDoor.byt; rw [h.stop]; rfl
                    rw [this]
                    rfl
                rw [e1, b0, if_neg (fun g => n1 ⟨g.1, by omega⟩), if_neg (by rw [m3]; exact Bool.false_ne_true), e2, ho]
                rfl
        · rw [if_neg cd] at he hp ⊢
          rw [if_neg cd]
          by_cases c34 : Go.Proofs.YthgnelkppibpeaaGreatDoor.byt l a = 34
          · rw [if_pos c34] at he hp ⊢
            rw [if_pos c34]
            have hx : ∀ (L : List UInt8) (k : Nat), k < L.length → Go.Proofs.YthgnelkppibpeaaGreatDoor.byt L k = 34 → lexP L (k : Int) = strP L k := fun L k hk hb => by
              have hbk := byt_at hk
              rw [hb] at hbk
              have hbl : Go.Proofs.YthgnelkppibpeaaGreatDoor.span blankB L k = k := span_no hk (by unfold blankB; simp; omega)
              have hg : L[k]?.getD 0 = L[k] := by rw [List.getElem?_eq_getElem hk]; rfl
              unfold lexP
              rw [if_neg (by omega), Int.toNat_natCast, hbl]
              unfold lexN
              rw [if_neg (by omega), hg, if_neg (by unfold signB; simp; omega), if_neg (by unfold letB; simp; omega), hb, if_neg (by unfold digB; simp; omega), if_pos rfl]
            unfold strFP at he hp ⊢
            rw [hx l a hal c34] at he hp ⊢
            rw [hx T A (by have := h.len; omega) (b0.trans c34)]
            unfold strP at he hp ⊢
            by_cases s0 : (strF l a (l.length - a) (a + 1) []).e = 0
            · rw [if_pos s0] at hp ⊢
              have hlen := h.len
              obtain ⟨e1, -⟩ := strF_loc h.same (l.length - a) (a + 1) [] (T.length - A) (by omega) s0 hp (by omega)
              rw [show A + (a + 1 - a) = A + 1 by omega] at e1
              rw [e1]
              rfl
            · rw [if_neg s0] at he
              exact absurd he s0
          · rw [if_neg c34] at he hp ⊢
            rw [if_neg c34]
            obtain ⟨t, g1, g2, g3, g4⟩ := signFP_ok he
            rw [g2] at hp ⊢
            have hb : a + t.length ≤ b := hp
            have g5 := List.find?_some g1
            have g6 : signsL.find? (fun t => t.isPrefixOf (T.drop A)) = some t := find_loc g1 (fun x hx hq => h.pre hx hq) (h.pre_back g5 hb)
            unfold signFP
            rw [g6]
            show okF 7 A (bsF t) 0 (A + t.length) = ⟨movF ⟨7, a, bsF t, 0⟩ A, A + (a + t.length - a), 0⟩
            rw [show a + t.length - a = t.length by omega]
            rfl
end Go.Proofs.YthgnelkppibpeaaGreatDoor
