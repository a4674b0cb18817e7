/- The program's and the reference's counts agree: a value is valid to both or to none. Nothing of the program is named here. The contracts of the reference's Runes and Valid. -/
import Derived.Test.YtgdnkankleoaoaaGreatDoorA13
import Derived.Test.YtgdnkankleoaoaaGreatDoorA05
import Derived.Deep.QuietTactic
import Derived.BigQuiet
set_option linter.unusedVariables false
set_option linter.unusedSimpArgs false
namespace Go.Proofs.YtgdnkankleoaoaaGreatDoor
def kb : List ByteArray → Nat
  | [] => 0
  | x :: r => x.size + kb r
def keysOk : Option ByteArray → List ByteArray → Bool
  | _, [] => true
  | none, x :: r => keyOk x && keysOk (some x) r
  | some p, x :: r => keyOk x && (decide (scmp p x < 0) && keysOk (some x) r)
theorem keysP_iff (ks : List ByteArray) : ∀ (p : Option ByteArray) (b r : Int), b ≤ 65536 → (keysP ks p b = some r ↔ keysOk p ks = true ∧ b + kb ks ≤ 65536 ∧ r = b + kb ks) := by
  induction ks with
  | nil =>
    intro p b r hb
    simp [keysP, keysOk, kb]
    omega
  | cons x ks ih =>
    intro p b r hb
    have key : (if strOk x b then keysP ks (some x) (b + x.size) else none) = some r ↔ keyOk x = true ∧ keysOk (some x) ks = true ∧ b + kb (x :: ks) ≤ 65536 ∧ r = b + kb (x :: ks) := by
      by_cases hs : strOk x b = true
      · rw [if_pos hs]
        have hk : keyOk x = true := by simp [strOk] at hs; simp [keyOk, hs.1, hs.2.2]
        have hb2 : b + (x.size : Int) ≤ 65536 := by simp [strOk] at hs; omega
        rw [ih _ _ _ hb2, kb]
        constructor
        · rintro ⟨h1, h2, h3⟩; exact ⟨hk, h1, by omega, by omega⟩
        · rintro ⟨_, h1, h2, h3⟩; exact ⟨h1, by omega, by omega⟩
      · rw [if_neg hs]
        constructor
        · intro h; cases h
        · rintro ⟨h1, _, h2, _⟩
          exfalso
          apply hs
          rw [kb] at h2
          simp [keyOk] at h1
          simp [strOk, h1.1, h1.2]
          omega
    cases p with
    | none => rw [keysP, key, keysOk]; simp [and_assoc]
    | some p =>
      rw [keysP, keysOk]
      by_cases hlt : scmp p x < 0
      · rw [if_pos hlt, key]; simp [hlt, and_assoc]
      · rw [if_neg hlt]; simp [hlt]
theorem rkeys_iff (ks : List ByteArray) : ∀ (p : Option ByteArray) (b r : Int), (rkeys ks p b = some r ↔ keysOk p ks = true ∧ r = b + kb ks) := by
  induction ks with
  | nil =>
    intro p b r
    simp [rkeys, keysOk, kb]
    omega
  | cons x ks ih =>
    intro p b r
    cases p with
    | none =>
      rw [rkeys, keysOk]
      by_cases hk : keyOk x = true
      · rw [if_pos hk, ih, kb]; simp [hk]; intro _; omega
      · rw [if_neg hk]; simp [hk]
    | some p =>
      rw [rkeys, keysOk]
      by_cases hk : keyOk x = true
      · by_cases hlt : scmp p x < 0
        · rw [if_pos hk, if_pos hlt, ih, kb]; simp [hk, hlt]; intro _; omega
        · rw [if_pos hk, if_neg hlt]; simp [hlt]
      · rw [if_neg hk]; simp [hk]
mutual
def good : V → Bool
  | .mk k n s ks es => fits k n s ks.length es.length && (decide (s.size ≤ 4096) && (okS s && (decide (es.length ≤ 1024) && (keysOk none ks && goodL es))))
def goodL : List V → Bool
  | [] => true
  | e :: es => good e && goodL es
end
mutual
/-- The depth of a value. -/
def dep : V → Nat
  | .mk k _ _ _ es => if k = 5 ∨ k = 6 then depL es + 1 else 0
def depL : List V → Nat
  | [] => 0
  | e :: es => max (dep e) (depL es)
end
mutual
/-- The bytes of all strings and keys. -/
def vbyt : V → Nat
  | .mk _ _ s ks es => s.size + kb ks + vbytL es
def vbytL : List V → Nat
  | [] => 0
  | e :: es => vbyt e + vbytL es
end
theorem fits_facts {k n : Int} {s : ByteArray} {nk ne : Nat} (h : fits k n s nk ne = true) : (0 ≤ k ∧ k ≤ 6) ∧ (k = 5 ∨ k = 6 ∨ (nk = 0 ∧ ne = 0)) ∧ (k = 5 → nk = 0) ∧ (k = 6 → nk = ne) := by
  unfold fits at h
  generalize s.size = z at h
  (repeat' split at h) <;> simp at h <;> omega
theorem fits_fit1 (k n lv : Int) (s : ByteArray) (nk ne : Nat) : (fits k n s nk ne = true ∧ s.size ≤ 4096 ∧ okS s = true ∧ ne ≤ 1024 ∧ (5 ≤ k → lv < 32)) ↔ (fit1 k n s nk ne = true ∧ fit2 k lv s nk ne = true) := by
  have h2 : (fit2 k lv s nk ne = true) ↔ s.size ≤ 4096 ∧ okS s = true ∧ ne ≤ 1024 ∧ (¬ k = 6 ∨ nk = ne) ∧ (¬ 5 ≤ k ∨ lv < 32) := by simp [fit2]
  have h0 : (fits k n s nk ne = true) ↔ fit1 k n s nk ne = true ∧ (¬ k = 6 ∨ nk = ne) := by
    rw [fit1_iff_true]
    unfold fits
    generalize s.size = z
    by_cases a0 : k = 0 ∨ k = 1 ∨ k = 2
    · rw [if_pos a0]; simp; omega
    · rw [if_neg a0]
      by_cases a3 : k = 3
      · rw [if_pos a3]; simp; omega
      · rw [if_neg a3]
        by_cases a4 : k = 4
        · rw [if_pos a4]; simp; omega
        · rw [if_neg a4]
          by_cases a5 : k = 5
          · rw [if_pos a5]; simp; omega
          · rw [if_neg a5]
            by_cases a6 : k = 6
            · rw [if_pos a6]; simp; omega
            · rw [if_neg a6]; simp; omega
  rw [h0, h2]
  constructor
  · rintro ⟨⟨a, b⟩, c, d, e, f⟩
    refine ⟨a, c, d, e, b, ?_⟩
    by_cases h5 : 5 ≤ k
    · exact .inr (f h5)
    · exact .inl h5
  · rintro ⟨a, c, d, e, b, f⟩
    exact ⟨⟨a, b⟩, c, d, e, fun h5 => by omega⟩
theorem addP_iff : ∀ v : V, ∀ lv d m b d' m' b' : Int, 0 ≤ lv → lv ≤ 32 → lv ≤ d → m ≤ 4096 → b ≤ 65536 →
    (addP v lv d m b = some (d', m', b') ↔ good v = true ∧ lv + dep v ≤ 32 ∧ m + v.sz ≤ 4096 ∧ b + vbyt v ≤ 65536 ∧ d' = max d (lv + dep v) ∧ m' = m + v.sz ∧ b' = b + vbyt v) := by
  refine V.ind fun k n s ks es ih lv d m b d' m' b' l0 l1 ld hm hb => ?_
  have key : ∀ fs : List V, (∀ e ∈ fs, e ∈ es) → ∀ lv d m b : Int, 0 ≤ lv → lv ≤ 32 → lv ≤ d → m ≤ 4096 → b ≤ 65536 →
      (addL fs lv d m b = some (d', m', b') ↔ goodL fs = true ∧ lv + depL fs ≤ 32 ∧ m + V.szL fs ≤ 4096 ∧ b + vbytL fs ≤ 65536 ∧ d' = max d (lv + depL fs) ∧ m' = m + V.szL fs ∧ b' = b + vbytL fs) := by
    intro fs
    induction fs with
    | nil =>
      intro _ lv d m b l0 l1 ld hm hb
      simp only [addL, goodL, depL, V.szL, vbytL, Option.some.injEq, Prod.mk.injEq, true_and]
      omega
    | cons e fs ihf =>
      intro hin lv d m b l0 l1 ld hm hb
      have he := ih e (hin e (by simp)) lv d m b
      rw [addL, goodL, depL, V.szL, vbytL]
      cases ha : addP e lv d m b with
      | none =>
        simp only [Bool.and_eq_true]
        constructor
        · intro h; cases h
        · rintro ⟨⟨g1, g2⟩, h1, h2, h3, _⟩
          have := (he (max d (lv + dep e)) (m + e.sz) (b + vbyt e) l0 l1 ld hm hb).2 ⟨g1, by omega, by omega, by omega, rfl, rfl, rfl⟩
          rw [ha] at this
          cases this
      | some q =>
        obtain ⟨d2, m2, b2⟩ := q
        obtain ⟨g1, x1, x2, x3, rfl, rfl, rfl⟩ := (he d2 m2 b2 l0 l1 ld hm hb).1 ha
        simp only [Bool.and_eq_true]
        rw [ihf (fun x hx => hin x (by simp [hx])) lv _ _ _ l0 l1 (by omega) (by omega) (by omega)]
        constructor
        · rintro ⟨g2, y1, y2, y3, y4, y5, y6⟩
          exact ⟨⟨g1, g2⟩, by omega, by omega, by omega, by omega, by omega, by omega⟩
        · rintro ⟨⟨_, g2⟩, y1, y2, y3, y4, y5, y6⟩
          exact ⟨g2, by omega, by omega, by omega, by omega, by omega, by omega⟩
  rw [addP, good, dep, V.sz, vbyt]
  by_cases hf : fits k n s ks.length es.length = true
  · obtain ⟨⟨k0, k6⟩, hsc, hk5, hk6⟩ := fits_facts hf
    by_cases hs : s.size ≤ 4096 ∧ okS s = true
    · by_cases hc : 4096 < m + 1 ∨ fits k n s ks.length es.length = false ∨ strOk s b = false
      · rw [if_pos hc]
        constructor
        · intro h; cases h
        · rintro ⟨_, _, h2, h3, _⟩
          exfalso
          rcases hc with hc | hc | hc
          · omega
          · rw [hf] at hc; cases hc
          · simp [strOk, hs.1, hs.2] at hc
            omega
      · rw [if_neg hc]
        have hso : strOk s b = true := by
          cases hq : strOk s b with
          | true => rfl
          | false => exact absurd (.inr (.inr hq)) hc
        have hsb : b + s.size ≤ 65536 := by simp [strOk] at hso; omega
        by_cases hk : k = 5 ∨ k = 6
        · rw [if_neg (by omega), if_pos hk]
          by_cases hl : 32 < lv + 1 ∨ 1024 < es.length
          · rw [if_pos hl]
            simp only [Bool.and_eq_true, decide_eq_true_eq]
            constructor
            · intro h; cases h
            · rintro ⟨⟨_, _, _, h4, _⟩, h5, _⟩; omega
          · rw [if_neg hl]
            cases hkk : keysP ks none (b + s.size) with
            | none =>
              simp only [Bool.and_eq_true, decide_eq_true_eq]
              constructor
              · intro h; cases h
              · rintro ⟨⟨_, _, _, _, h4, _⟩, _, _, h5, _⟩
                have := (keysP_iff ks none (b + s.size) (b + s.size + kb ks) hsb).2 ⟨h4, by omega, rfl⟩
                rw [hkk] at this
                cases this
            | some b2 =>
              obtain ⟨g, x1, rfl⟩ := (keysP_iff ks none (b + s.size) b2 hsb).1 hkk
              simp only [Bool.and_eq_true, decide_eq_true_eq]
              rw [key es (fun _ h => h) (lv + 1) _ _ _ (by omega) (by omega) (by omega) (by omega) (by omega)]
              constructor
              · rintro ⟨y0, y1, y2, y3, y4, y5, y6⟩
                exact ⟨⟨hf, hs.1, hs.2, by omega, g, y0⟩, by omega, by omega, by omega, by omega, by omega, by omega⟩
              · rintro ⟨⟨_, _, _, _, _, y0⟩, y1, y2, y3, y4, y5, y6⟩
                exact ⟨y0, by omega, by omega, by omega, by omega, by omega, by omega⟩
        · have h0 : ks.length = 0 ∧ es.length = 0 := by omega
          obtain rfl : ks = [] := List.eq_nil_of_length_eq_zero h0.1
          obtain rfl : es = [] := List.eq_nil_of_length_eq_zero h0.2
          rw [if_pos (by omega), if_neg hk]
          simp only [Bool.and_eq_true, decide_eq_true_eq, Option.some.injEq, Prod.mk.injEq, keysOk, goodL, V.szL, kb, vbytL]
          constructor
          · rintro ⟨rfl, rfl, rfl⟩
            exact ⟨⟨hf, hs.1, hs.2, by simp, trivial, trivial⟩, by omega, by omega, by omega, by omega, by omega, by omega⟩
          · rintro ⟨_, y1, y2, y3, y4, y5, y6⟩
            omega
    · have hso : strOk s b = false := by
        cases hq : strOk s b with
        | false => rfl
        | true => simp [strOk] at hq; exact absurd ⟨hq.1, hq.2.2⟩ hs
      rw [if_pos (.inr (.inr hso))]
      simp only [Bool.and_eq_true, decide_eq_true_eq]
      constructor
      · intro h; cases h
      · rintro ⟨⟨_, h1, h2, _⟩, _⟩
        exact absurd ⟨h1, h2⟩ hs
  · rw [if_pos (.inr (.inl (by simpa using hf)))]
    simp [hf]
theorem rmP_iff : ∀ v : V, ∀ lv m b : Int, 0 ≤ lv → lv ≤ 32 →
    (rmP v lv = some (m, b) ↔ good v = true ∧ lv + dep v ≤ 32 ∧ v.sz ≤ 4096 ∧ vbyt v ≤ 65536 ∧ m = v.sz ∧ b = vbyt v) := by
  refine V.ind fun k n s ks es ih lv m b l0 l1 => ?_
  have key : ∀ fs : List V, (∀ e ∈ fs, e ∈ es) → lv + 1 ≤ 32 → ∀ m0 b0 : Int, 0 ≤ m0 → 0 ≤ b0 →
      (rmL fs lv m0 b0 = some (m, b) ↔ goodL fs = true ∧ lv + 1 + depL fs ≤ 32 ∧ (fs = [] ∨ (m0 + V.szL fs ≤ 4096 ∧ b0 + vbytL fs ≤ 65536)) ∧ m = m0 + V.szL fs ∧ b = b0 + vbytL fs) := by
    intro fs
    induction fs with
    | nil =>
      intro _ hl m0 b0 _ _
      simp only [rmL, goodL, depL, V.szL, vbytL, Option.some.injEq, Prod.mk.injEq, true_and, true_or]
      omega
    | cons e fs ihf =>
      intro hin hl m0 b0 p0 p1
      have he := ih e (hin e (by simp)) (lv + 1)
      rw [rmL, goodL, depL, V.szL, vbytL]
      have hcons : ∀ P : Prop, ((e :: fs = [] ∨ P) ↔ P) := fun P => by simp
      rw [hcons]
      cases ha : rmP e (lv + 1) with
      | none =>
        simp only [Bool.and_eq_true]
        constructor
        · intro h; cases h
        · rintro ⟨⟨g1, g2⟩, h1, ⟨h2, h3⟩, _⟩
          have := (he e.sz (vbyt e) (by omega) (by omega)).2 ⟨g1, by omega, by omega, by omega, rfl, rfl⟩
          rw [ha] at this
          cases this
      | some q =>
        obtain ⟨m2, b2⟩ := q
        obtain ⟨g1, x1, x2, x3, rfl, rfl⟩ := (he m2 b2 (by omega) (by omega)).1 ha
        simp only [Bool.and_eq_true]
        by_cases hc : 4096 < m0 + (e.sz : Int) ∨ 65536 < b0 + (vbyt e : Int)
        · rw [if_pos hc]
          constructor
          · intro h; cases h
          · rintro ⟨_, _, ⟨h2, h3⟩, _⟩; omega
        · rw [if_neg hc, ihf (fun x hx => hin x (by simp [hx])) hl _ _ (by omega) (by omega)]
          constructor
          · rintro ⟨g2, y1, y2, y3, y4⟩
            refine ⟨⟨g1, g2⟩, by omega, ?_, by omega, by omega⟩
            rcases y2 with rfl | y2
            · rw [V.szL, vbytL]; omega
            · omega
          · rintro ⟨⟨_, g2⟩, y1, y2, y3, y4⟩
            exact ⟨g2, by omega, .inr (by omega), by omega, by omega⟩
  rw [rmP, good, dep, V.sz, vbyt]
  have hff := fits_fit1 k n lv s ks.length es.length
  by_cases h1 : fit1 k n s ks.length es.length = true
  · rw [if_neg (by rw [h1]; decide)]
    by_cases h2 : fit2 k lv s ks.length es.length = true
    · rw [if_neg (by rw [h2]; decide)]
      obtain ⟨hf, q1, q2, q3, q4⟩ := hff.2 ⟨h1, h2⟩
      obtain ⟨⟨k0, k6⟩, hsc, hk5, hk6⟩ := fits_facts hf
      cases hkk : rkeys ks none s.size with
      | none =>
        simp only [Bool.and_eq_true, decide_eq_true_eq]
        constructor
        · intro h; cases h
        · rintro ⟨⟨_, _, _, _, h4, _⟩, _⟩
          have := (rkeys_iff ks none s.size (s.size + kb ks)).2 ⟨h4, rfl⟩
          rw [hkk] at this
          cases this
      | some b2 =>
        obtain ⟨g, rfl⟩ := (rkeys_iff ks none s.size b2).1 hkk
        simp only [Bool.and_eq_true, decide_eq_true_eq]
        by_cases hk : k = 5 ∨ k = 6
        · rw [if_pos hk, key es (fun _ h => h) (by have := q4 (by omega); omega) _ _ (by omega) (by omega)]
          constructor
          · rintro ⟨y0, y1, y2, y3, y4⟩
            refine ⟨⟨hf, q1, q2, q3, g, y0⟩, by omega, ?_, ?_, by omega, by omega⟩
            · rcases y2 with rfl | y2
              · rw [V.szL]; omega
              · omega
            · rcases y2 with rfl | y2
              · have h0 : ks.length = 0 := by
                  rcases hk with hk | hk
                  · exact hk5 hk
                  · have := hk6 hk; simpa using this
                obtain rfl : ks = [] := List.eq_nil_of_length_eq_zero h0
                rw [vbytL, kb]; omega
              · omega
          · rintro ⟨⟨_, _, _, _, _, y0⟩, y1, y2, y3, y4, y5⟩
            exact ⟨y0, by omega, .inr (by omega), by omega, by omega⟩
        · have h0 : ks.length = 0 ∧ es.length = 0 := by omega
          obtain rfl : ks = [] := List.eq_nil_of_length_eq_zero h0.1
          obtain rfl : es = [] := List.eq_nil_of_length_eq_zero h0.2
          rw [if_neg hk, rmL]
          simp only [Option.some.injEq, Prod.mk.injEq, keysOk, goodL, V.szL, kb, vbytL]
          constructor
          · rintro ⟨rfl, rfl⟩
            exact ⟨⟨hf, q1, q2, q3, trivial, trivial⟩, by omega, by omega, by omega, by omega, by omega⟩
          · rintro ⟨_, y1, y2, y3, y4, y5⟩
            omega
    · rw [if_pos (by simpa using h2)]
      simp only [Bool.and_eq_true, decide_eq_true_eq]
      constructor
      · intro h; cases h
      · rintro ⟨⟨f1, f2, f3, f4, _⟩, h3, _⟩
        refine absurd (hff.1 ⟨f1, f2, f3, f4, fun h5 => ?_⟩).2 h2
        have := (fits_facts f1).1
        rw [if_pos (by omega)] at h3
        omega
  · rw [if_pos (by simpa using h1)]
    simp only [Bool.and_eq_true, decide_eq_true_eq]
    constructor
    · intro h; cases h
    · rintro ⟨⟨f1, f2, f3, f4, _⟩, h3, _⟩
      refine absurd (hff.1 ⟨f1, f2, f3, f4, fun h5 => ?_⟩).1 h1
      have := (fits_facts f1).1
      rw [if_pos (by omega)] at h3
      omega
end Go.Proofs.YtgdnkankleoaoaaGreatDoor
namespace Go.Proofs.YtgdnkankleoaoaaGreatDoor
open Go.RowKit
theorem inf_int : (Tryz.prog.info? 3).map (fun i => (i.zero, i.size, i.bytes)) = some (some (.int .i64 0), 1, 8) := by kernel_rfl
/-- A list of code points as values. -/
def iv (xs : List Nat) : List Value := xs.map fun (r : Nat) => Value.int .i64 (r : Int)
/-- What Runes leaves: nil and false, or a slice of its own that reads as the list. -/
def RunesPost (o : Option (List Nat)) (w : World) (e : Ending) (w' : World) : Prop :=
  Below w.heap.size w w' ∧ match o with
  | none => e = .returned (.tuple #[.slice none 0 0, .bool false])
  | some xs => ∃ v, e = .returned (.tuple #[v, .bool true]) ∧ w'.ownsRow w.heap.size 3 1 v xs.length (iv xs)
theorem RunesPost.none_ {w w' : World} {e : Ending} (hb : Below w.heap.size w w') (he : e = .returned (.tuple #[.slice none 0 0, .bool false])) : RunesPost none w e w' := ⟨hb, he⟩
theorem RunesPost.some_ {w w' : World} {e : Ending} {xs : List Nat} (hb : Below w.heap.size w w') {v : Value} (he : e = .returned (.tuple #[v, .bool true])) (ho : w'.ownsRow w.heap.size 3 1 v xs.length (iv xs)) : RunesPost (some xs) w e w' := ⟨hb, v, he, ho⟩
theorem iv_snoc (xs : List Nat) (r : Nat) : iv (xs ++ [r]) = iv xs ++ [.int .i64 r] := by simp [iv]
set_option maxHeartbeats 1000000 in
theorem rrunes_any (s : ByteArray) (hs : s.size ≤ 1048576) (w : World) :
    Calls Tryz.prog 127 #[.string s] w fun e w' => RunesPost (runes s.data.toList) w e w' := by
  have hs2 : Hid (s.size ≤ maxLen) := Lib.hid (by unfold maxLen; omega)
  have hlen : Hid (s.data.toList.length = s.size) := Lib.hid (by simp)
  obtain ⟨i0, hi, hz0, hz1, hz2⟩ := info_parts inf_int
  go_enter Tryz.func127, Tryz.ntmps127
  go_wp2
  go_loopw [4, 5] (fun v t wr => ∃ (k : Nat) (xs : List Nat), k ≤ s.size ∧ xs.length ≤ k ∧ t = .int .i64 k ∧ wr.ownsRow w.heap.size 3 1 v xs.length (iv xs) ∧ Below w.heap.size w wr ∧ Scan s.data.toList k xs) (fun _ t _ => s.size - (intOf t).toNat)
  case atStart => exact ⟨0, [], Nat.zero_le _, Nat.le_refl _, rfl, World.ownsRow_nil _ _ _ _, Below.refl _ _, Scan.start _⟩
  case round =>
    obtain ⟨k, xs, hk, hxk, rfl, hown, hbel, hsc0⟩ := hrel
    have hsc := Lib.hid hsc0
    clear hsc0
    by_cases hlt : k < s.size
    · cases hx : dec (s.data.toList.drop k) with
      | none =>
        have hX := Lib.hid hx
        clear hx
        have hv := Lib.hid (hsc.out.fail (by rw [hlen.out]; exact hlt) hX.out)
        go_wp2_with (go_at_call 201; refine (dec_none_of (rdec_any s k hs2.out _) hX.out).mono ?_; rintro e w' ⟨rfl, rfl⟩)
        go_ret2
        rw [hv.out]
        exact RunesPost.none_ hbel rfl
      | some rn =>
        obtain ⟨r, n⟩ := rn
        have hX := Lib.hid hx
        clear hx
        obtain ⟨_, hn1, hn4, hnl⟩ := dec_some_cp hX.out
        rw [List.length_drop, hlen.out] at hnl
        have hkn : k + n ≤ s.size := by omega
        clear hnl
        go_wp2_with (first
          | (go_at_call 201; refine (dec_some_of (rdec_any s k hs2.out _) r n hX.out).mono ?_; rintro e w' ⟨rfl, rfl⟩)
          | (at_builtin; refine wpList_append_own _ rfl _ _ 58 rfl w.heap.size 3 i0 (.int .i64 0) 1 8 Tryz.underlying58 hi hz0 hz1 hz2 rfl (by decide) _ _ _ rfl (hown.alloc _) ⟨wr.heap.size, 0, none⟩ 1 1 [.int .i64 r] rfl rfl ?c1 ?c2 ?c3 ?c4 ?c5 ?_))
        case c1 =>
          intro j u hj
          match j, hj with
          | 0, hj => simp at hj; subst hj; simp [Addr.add]
        case c2 => intro u hu; simp at hu; subst hu; rfl
        case c3 => unfold maxLen; omega
        case c4 => omega
        case c5 => have := hbel.size; simp; omega
        intro v' w1 hown' hgrow _
        have hB : Below w.heap.size w w1 := (hbel.alloc hbel.size _).grown hgrow (by have := hbel.size; simp; omega) (fun j hj => (hown.lt j hj).1)
        clear hgrow hown hbel
        go_wp2
        go_roundw
        case rel => exact ⟨k + n, xs ++ [r], by omega, by simp; omega, by go_num, by rw [iv_snoc]; simpa using hown', hB, hsc.out.step hX.out⟩
        case measure => simp [intOf]; omega
    · have hv := Lib.hid (hsc.out.done (by rw [hlen.out]; exact hlt))
      go_wp2
      go_ret2
      rw [hv.out]
      exact RunesPost.some_ hbel rfl hown

theorem runes_none_of {f : FuncId} {args : Array Value} {w : World} {o : Option (List Nat)} (h : Calls Tryz.prog f args w fun e w' => RunesPost o w e w') (ho : o = none) :
    Calls Tryz.prog f args w fun e w' => e = .returned (.tuple #[.slice none 0 0, .bool false]) ∧ Below w.heap.size w w' := by
  subst ho; exact h.mono fun e w' h => ⟨h.2, h.1⟩
theorem runes_some_of {f : FuncId} {args : Array Value} {w : World} {o : Option (List Nat)} (h : Calls Tryz.prog f args w fun e w' => RunesPost o w e w') (xs : List Nat) (ho : o = some xs) :
    Calls Tryz.prog f args w fun e w' => ∃ A c, e = .returned (.tuple #[.slice A xs.length c, .bool true]) ∧ Rd w' w'.heap.size A (iv xs) ∧ Below w.heap.size w w' := by
  subst ho
  refine h.mono fun e w' h => ?_
  obtain ⟨hb, v, rfl, hown⟩ := h
  obtain ⟨A, c, rfl, _, hr⟩ := own_slice hown
  exact ⟨A, c, rfl, hr, hb⟩
set_option maxHeartbeats 400000 in
theorem rval_any (s : ByteArray) (hs : s.size ≤ 1048576) (w : World) :
    Calls Tryz.prog 128 #[.string s] w fun e w' => e = .returned (.bool (runes s.data.toList).isSome) ∧ Below w.heap.size w w' := by
  have HR := Lib.hid (fun w => rrunes_any s hs w)
  clear hs
  cases hx : runes s.data.toList with
  | none =>
    have hX := Lib.hid hx
    clear hx
    go_enter Tryz.func128, Tryz.ntmps128
    go_wp2_with (go_at_call 127; refine (runes_none_of (HR.out _) hX.out).mono ?_; rintro e w' ⟨rfl, hb⟩)
    go_ret
    exact ⟨rfl, hb⟩
  | some xs =>
    have hX := Lib.hid hx
    clear hx
    go_enter Tryz.func128, Tryz.ntmps128
    go_wp2_with (go_at_call 127; refine (runes_some_of (HR.out _) xs hX.out).mono ?_; rintro e w' ⟨A, c, rfl, hr, hb⟩)
    go_ret
    exact ⟨rfl, hb⟩
end Go.Proofs.YtgdnkankleoaoaaGreatDoor
