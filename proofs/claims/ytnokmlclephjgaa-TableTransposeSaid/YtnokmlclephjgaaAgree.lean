/- The program's and the reference's counts agree: a value is valid to both or to none. Nothing of the program is named here. -/
import Derived.Test.YtnokmlclephjgaaRMeasP
set_option linter.unusedVariables false
set_option linter.unusedSimpArgs false
namespace Go.Proofs.Ytnokmlclephjgaa
def kb : List ByteArray → Nat
  | [] => 0
  | x :: r => x.size + kb r
def keysOk : Option ByteArray → List ByteArray → Bool
  | _, [] => true
  | none, x :: r => keyOk x && keysOk (some x) r
  | some p, x :: r => keyOk x && (decide (scmp p x < 0) && keysOk (some x) r)
theorem keysP_iff (ks : List ByteArray) : ∀ (p : Option ByteArray) (b r : Int), b ≤ 65536 → (keysP ks p b = some r ↔ keysOk p ks = true ∧ b + kb ks ≤ 65536 ∧ r = b + kb ks) := by
  induction ks with
  | nil =>
    intro p b r hb
    simp [keysP, keysOk, kb]
    omega
  | cons x ks ih =>
    intro p b r hb
    have key : (if strOk x b then keysP ks (some x) (b + x.size) else none) = some r ↔ keyOk x = true ∧ keysOk (some x) ks = true ∧ b + kb (x :: ks) ≤ 65536 ∧ r = b + kb (x :: ks) := by
      by_cases hs : strOk x b = true
      · rw [if_pos hs]
        have hk : keyOk x = true := by simp [strOk] at hs; simp [keyOk, hs.1, hs.2.2]
        have hb2 : b + (x.size : Int) ≤ 65536 := by simp [strOk] at hs; omega
        rw [ih _ _ _ hb2, kb]
        constructor
        · rintro ⟨h1, h2, h3⟩; exact ⟨hk, h1, by omega, by omega⟩
        · rintro ⟨_, h1, h2, h3⟩; exact ⟨h1, by omega, by omega⟩
      · rw [if_neg hs]
        constructor
        · intro h; cases h
        · rintro ⟨h1, _, h2, _⟩
          exfalso
          apply hs
          rw [kb] at h2
          simp [keyOk] at h1
          simp [strOk, h1.1, h1.2]
          omega
    cases p with
    | none => rw [keysP, key, keysOk]; simp [and_assoc]
    | some p =>
      rw [keysP, keysOk]
      by_cases hlt : scmp p x < 0
      · rw [if_pos hlt, key]; simp [hlt, and_assoc]
      · rw [if_neg hlt]; simp [hlt]
mutual
def good : V → Bool
  | .mk k n s ks es => fits k n s ks.length es.length && (decide (s.size ≤ 4096) && (okS s && (decide (es.length ≤ 1024) && (keysOk none ks && goodL es))))
def goodL : List V → Bool
  | [] => true
  | e :: es => good e && goodL es
end
mutual
/-- The depth of a value. -/
def dep : V → Nat
  | .mk k _ _ _ es => if k = 5 ∨ k = 6 then depL es + 1 else 0
def depL : List V → Nat
  | [] => 0
  | e :: es => max (dep e) (depL es)
end
mutual
/-- The bytes of all strings and keys. -/
def vbyt : V → Nat
  | .mk _ _ s ks es => s.size + kb ks + vbytL es
def vbytL : List V → Nat
  | [] => 0
  | e :: es => vbyt e + vbytL es
end
theorem fits_facts {k n : Int} {s : ByteArray} {nk ne : Nat} (h : fits k n s nk ne = true) : (0 ≤ k ∧ k ≤ 6) ∧ (k = 5 ∨ k = 6 ∨ (nk = 0 ∧ ne = 0)) ∧ (k = 5 → nk = 0) ∧ (k = 6 → nk = ne) := by
  unfold fits at h
  generalize s.size = z at h
  (repeat' split at h) <;> simp at h <;> omega
theorem addP_iff : ∀ v : V, ∀ lv d m b d' m' b' : Int, 0 ≤ lv → lv ≤ 32 → lv ≤ d → m ≤ 4096 → b ≤ 65536 →
    (addP v lv d m b = some (d', m', b') ↔ good v = true ∧ lv + dep v ≤ 32 ∧ m + v.sz ≤ 4096 ∧ b + vbyt v ≤ 65536 ∧ d' = max d (lv + dep v) ∧ m' = m + v.sz ∧ b' = b + vbyt v) := by
  refine V.ind fun k n s ks es ih lv d m b d' m' b' l0 l1 ld hm hb => ?_
  have key : ∀ fs : List V, (∀ e ∈ fs, e ∈ es) → ∀ lv d m b : Int, 0 ≤ lv → lv ≤ 32 → lv ≤ d → m ≤ 4096 → b ≤ 65536 →
      (addL fs lv d m b = some (d', m', b') ↔ goodL fs = true ∧ lv + depL fs ≤ 32 ∧ m + V.szL fs ≤ 4096 ∧ b + vbytL fs ≤ 65536 ∧ d' = max d (lv + depL fs) ∧ m' = m + V.szL fs ∧ b' = b + vbytL fs) := by
    intro fs
    induction fs with
    | nil =>
      intro _ lv d m b l0 l1 ld hm hb
      simp only [addL, goodL, depL, V.szL, vbytL, Option.some.injEq, Prod.mk.injEq, true_and]
      omega
    | cons e fs ihf =>
      intro hin lv d m b l0 l1 ld hm hb
      have he := ih e (hin e (by simp)) lv d m b
      rw [addL, goodL, depL, V.szL, vbytL]
      cases ha : addP e lv d m b with
      | none =>
        simp only [Bool.and_eq_true]
        constructor
        · intro h; cases h
        · rintro ⟨⟨g1, g2⟩, h1, h2, h3, _⟩
          have := (he (max d (lv + dep e)) (m + e.sz) (b + vbyt e) l0 l1 ld hm hb).2 ⟨g1, by omega, by omega, by omega, rfl, rfl, rfl⟩
          rw [ha] at this
          cases this
      | some q =>
        obtain ⟨d2, m2, b2⟩ := q
        obtain ⟨g1, x1, x2, x3, rfl, rfl, rfl⟩ := (he d2 m2 b2 l0 l1 ld hm hb).1 ha
        simp only [Bool.and_eq_true]
        rw [ihf (fun x hx => hin x (by simp [hx])) lv _ _ _ l0 l1 (by omega) (by omega) (by omega)]
        constructor
        · rintro ⟨g2, y1, y2, y3, y4, y5, y6⟩
          exact ⟨⟨g1, g2⟩, by omega, by omega, by omega, by omega, by omega, by omega⟩
        · rintro ⟨⟨_, g2⟩, y1, y2, y3, y4, y5, y6⟩
          exact ⟨g2, by omega, by omega, by omega, by omega, by omega, by omega⟩
  rw [addP, good, dep, V.sz, vbyt]
  by_cases hf : fits k n s ks.length es.length = true
  · obtain ⟨⟨k0, k6⟩, hsc, hk5, hk6⟩ := fits_facts hf
    by_cases hs : s.size ≤ 4096 ∧ okS s = true
    · by_cases hc : 4096 < m + 1 ∨ fits k n s ks.length es.length = false ∨ strOk s b = false
      · rw [if_pos hc]
        constructor
        · intro h; cases h
        · rintro ⟨_, _, h2, h3, _⟩
          exfalso
          rcases hc with hc | hc | hc
          · omega
          · rw [hf] at hc; cases hc
          · simp [strOk, hs.1, hs.2] at hc
            omega
      · rw [if_neg hc]
        have hso : strOk s b = true := by
          cases hq : strOk s b with
          | true => rfl
          | false => exact absurd (.inr (.inr hq)) hc
        have hsb : b + s.size ≤ 65536 := by simp [strOk] at hso; omega
        by_cases hk : k = 5 ∨ k = 6
        · rw [if_neg (by omega), if_pos hk]
          by_cases hl : 32 < lv + 1 ∨ 1024 < es.length
          · rw [if_pos hl]
            simp only [Bool.and_eq_true, decide_eq_true_eq]
            constructor
            · intro h; cases h
            · rintro ⟨⟨_, _, _, h4, _⟩, h5, _⟩; omega
          · rw [if_neg hl]
            cases hkk : keysP ks none (b + s.size) with
            | none =>
              simp only [Bool.and_eq_true, decide_eq_true_eq]
              constructor
              · intro h; cases h
              · rintro ⟨⟨_, _, _, _, h4, _⟩, _, _, h5, _⟩
                have := (keysP_iff ks none (b + s.size) (b + s.size + kb ks) hsb).2 ⟨h4, by omega, rfl⟩
                rw [hkk] at this
                cases this
            | some b2 =>
              obtain ⟨g, x1, rfl⟩ := (keysP_iff ks none (b + s.size) b2 hsb).1 hkk
              simp only [Bool.and_eq_true, decide_eq_true_eq]
              rw [key es (fun _ h => h) (lv + 1) _ _ _ (by omega) (by omega) (by omega) (by omega) (by omega)]
              constructor
              · rintro ⟨y0, y1, y2, y3, y4, y5, y6⟩
                exact ⟨⟨hf, hs.1, hs.2, by omega, g, y0⟩, by omega, by omega, by omega, by omega, by omega, by omega⟩
              · rintro ⟨⟨_, _, _, _, _, y0⟩, y1, y2, y3, y4, y5, y6⟩
                exact ⟨y0, by omega, by omega, by omega, by omega, by omega, by omega⟩
        · have h0 : ks.length = 0 ∧ es.length = 0 := by omega
          obtain rfl : ks = [] := List.eq_nil_of_length_eq_zero h0.1
          obtain rfl : es = [] := List.eq_nil_of_length_eq_zero h0.2
          rw [if_pos (by omega), if_neg hk]
          simp only [Bool.and_eq_true, decide_eq_true_eq, Option.some.injEq, Prod.mk.injEq, keysOk, goodL, V.szL, kb, vbytL]
          constructor
          · rintro ⟨rfl, rfl, rfl⟩
            exact ⟨⟨hf, hs.1, hs.2, by simp, trivial, trivial⟩, by omega, by omega, by omega, by omega, by omega, by omega⟩
          · rintro ⟨_, y1, y2, y3, y4, y5, y6⟩
            omega
    · have hso : strOk s b = false := by
        cases hq : strOk s b with
        | false => rfl
        | true => simp [strOk] at hq; exact absurd ⟨hq.1, hq.2.2⟩ hs
      rw [if_pos (.inr (.inr hso))]
      simp only [Bool.and_eq_true, decide_eq_true_eq]
      constructor
      · intro h; cases h
      · rintro ⟨⟨_, h1, h2, _⟩, _⟩
        exact absurd ⟨h1, h2⟩ hs
  · rw [if_pos (.inr (.inl (by simpa using hf)))]
    simp [hf]
end Go.Proofs.Ytnokmlclephjgaa
