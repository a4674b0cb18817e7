/- The parser of JSON texts as functions on the list of bytes: what each method does, as the program's text says it. Nothing of the program is named here. -/
import Derived.Test.YtmfjpcmbdgbjjaaGreatDoorQ20
import Derived.Test.YtmfjpcmbdgbjjaaGreatDoorQ03
set_option linter.unusedVariables false
set_option linter.unusedSimpArgs false
namespace Go.Proofs.YtmfjpcmbdgbjjaaGreatDoor
open Go.RowKit
/-- The state: the offset, the error, the open arrays and objects, the values and the bytes so far. -/
structure JS where
  at_ : Nat
  err : Nat
  op : Nat
  nd : Nat
  sz : Nat
abbrev JM := JS → Option (V × JS)
def jbnd (x : Option (V × JS)) (f : V → JS → Option (V × JS)) : Option (V × JS) := match x with
  | none => none
  | some (a, σ) => f a σ
theorem jbnd_some {x : Option (V × JS)} {f : V → JS → Option (V × JS)} {r : V × JS} (h : jbnd x f = some r) : ∃ a σ, x = some (a, σ) ∧ f a σ = some r := by
  cases x with
  | none => exact absurd h (by simp [jbnd])
  | some p => exact ⟨p.1, p.2, rfl, h⟩
theorem jbnd_of {x : Option (V × JS)} {f : V → JS → Option (V × JS)} {a : V} {σ : JS} (h : x = some (a, σ)) : jbnd x f = f a σ := by rw [h]; rfl
def jz : V := .mk 0 0 ⟨#[]⟩ [] []
def zeroT : Lx := noX 0 0
def jfail (a e : Nat) (σ : JS) : JS := if σ.err = 0 then { σ with at_ := a, err := e } else σ
def isSg (t : Lx) (b : Nat) : Bool := decide (t.k = 1) && decide (t.b = b)
abbrev JP := List (ByteArray × V)
/-- The pairs of keys and values, each key once, in the order of the keys. -/
def jput : JP → ByteArray → V → JP
  | [], k, x => [(k, x)]
  | (y, v) :: r, k, x => if scmp y k < 0 then (y, v) :: jput r k x else (k, x) :: (if y = k then r else (y, v) :: r)
def jputs : JP → List ByteArray → List V → JP
  | ps, k :: ks, x :: xs => jputs (jput ps k x) ks xs
  | ps, _, _ => ps
def jobjV (ps : JP) : V := .mk 6 0 ⟨#[]⟩ (ps.map Prod.fst) (ps.map Prod.snd)
section
variable (l : List UInt8)
def jread (σ : JS) : Lx × JS := if σ.err = 0 then (if (lexP l σ.at_).e = 0 then (lexP l σ.at_, { σ with at_ := (lexP l σ.at_).p }) else (zeroT, { σ with at_ := (lexP l σ.at_).p, err := (lexP l σ.at_).e })) else (zeroT, σ)
def jnext (σ : JS) : Lx × JS := ((jread l σ).1, if (jread l σ).1.k = 0 then jfail l.length 5 (jread l σ).2 else (jread l σ).2)
def jend (σ : JS) : JS := if (jread l σ).1.k = 0 then (jread l σ).2 else jfail (jread l σ).1.f 4 (jread l σ).2
def jkey (t : Lx) (before : Nat) (σ : JS) : JS :=
  if t.k = 4 then (if before = 1024 then jfail t.f 2 σ else if 65536 < σ.sz + t.s.size then jfail t.f 2 { σ with sz := σ.sz + t.s.size } else { σ with sz := σ.sz + t.s.size })
  else jfail t.f 4 σ
def jcolon (σ : JS) : JS := if isSg (jnext l σ).1 58 = true then (jnext l σ).2 else jfail (jnext l σ).1.f 4 (jnext l σ).2
def jgoB (σ : JS) : Bool := isSg (jnext l σ).1 44
def jgoS (c : Nat) (σ : JS) : JS := if isSg (jnext l σ).1 44 = true then (jnext l σ).2 else if isSg (jnext l σ).1 c = true then (jnext l σ).2 else jfail (jnext l σ).1.f 4 (jnext l σ).2
def jnest (m : JM) : JM := fun σ => jbnd (m { σ with op := σ.op + 1 }) fun v σ1 => some (v, { σ1 with op := σ1.op - 1 })
def jbuild (arr obj : JM) (t : Lx) : JM := fun σ =>
  if t.k = 3 then some (.mk 3 t.i ⟨#[]⟩ [] [], σ)
  else if t.k = 4 then some (.mk 4 0 t.s [] [], σ)
  else if t.b = 91 then jnest arr σ
  else if t.b = 123 then jnest obj σ
  else if t.b = 110 then some (jz, σ)
  else some (.mk (if t.b = 116 then 2 else 1) 0 ⟨#[]⟩ [] [], σ)
def opensB (t : Lx) : Bool := isSg t 91 || isSg t 123
def jel (arr obj : JM) (t : Lx) (before : Nat) : JM := fun σ =>
  if t.k = 0 ∨ (t.k = 1 ∧ opensB t = false) then some (jz, jfail t.f 4 σ)
  else if opensB t = true ∧ σ.op = 32 then some (jz, jfail t.f 8 σ)
  else if σ.nd = 4096 ∨ before = 1024 then some (jz, jfail t.f 2 σ)
  else if 65536 < σ.sz + t.s.size then some (jz, jfail t.f 2 { σ with sz := σ.sz + t.s.size })
  else jbuild arr obj t { σ with nd := σ.nd + 1, sz := σ.sz + t.s.size }
def jarrL (el : Lx → Nat → JM) : Nat → List V → Lx → JM
  | 0, _, _ => fun _ => none
  | m + 1, es, t => fun σ => jbnd (el t es.length σ) fun v σ1 =>
    if jgoB l σ1 = true then jarrL el m (es ++ [v]) (jnext l (jgoS l 93 σ1)).1 (jnext l (jgoS l 93 σ1)).2 else some (.mk 5 0 ⟨#[]⟩ [] (es ++ [v]), jgoS l 93 σ1)
def jarr (el : Lx → Nat → JM) (n : Nat) : JM := fun σ => if isSg (jnext l σ).1 93 = true then some (.mk 5 0 ⟨#[]⟩ [] [], (jnext l σ).2) else jarrL l el n [] (jnext l σ).1 (jnext l σ).2
/-- Behind a key. -/
def jmid (t : Lx) (before : Nat) (σ : JS) : Lx × JS := jnext l (jcolon l (jkey t before σ))
def jobjL (el : Lx → Nat → JM) : Nat → List ByteArray → List V → Lx → JM
  | 0, _, _, _ => fun _ => none
  | m + 1, ks, es, t => fun σ => jbnd (el (jmid l t ks.length σ).1 0 (jmid l t ks.length σ).2) fun v σ1 =>
    if jgoB l σ1 = true then jobjL el m (ks ++ [t.s]) (es ++ [v]) (jnext l (jgoS l 125 σ1)).1 (jnext l (jgoS l 125 σ1)).2
    else some (if (jgoS l 125 σ1).err = 0 then jobjV (jputs [] (ks ++ [t.s]) (es ++ [v])) else jz, jgoS l 125 σ1)
def jobj (el : Lx → Nat → JM) (n : Nat) : JM := fun σ => if isSg (jnext l σ).1 125 = true then some (.mk 6 0 ⟨#[]⟩ [] [], (jnext l σ).2) else jobjL l el n [] [] (jnext l σ).1 (jnext l σ).2
/-- An element, n levels and rounds at most. -/
def jelN : Nat → Lx → Nat → JM
  | 0, _, _ => fun _ => none
  | n + 1, t, before => jel (jarr l (jelN n) n) (jobj l (jelN n) n) t before
def js0 : JS := ⟨0, 0, 0, 0, 0⟩
/-- Parse. -/
def jparse : Option (V × JS) := jbnd (jelN l (l.length + 2) (jnext l js0).1 0 (jnext l js0).2) fun v σ => some (v, jend l σ)
end
/-! ### It ends -/
section
variable {l : List UInt8}
def JS.left (l : List UInt8) (σ : JS) : Nat := if σ.err = 0 then l.length + 1 - σ.at_ else 0
/-- The offset lies in the text as long as no error has come. -/
def JS.In (l : List UInt8) (σ : JS) : Prop := σ.err = 0 → σ.at_ ≤ l.length
theorem jfail_err {a e : Nat} {σ : JS} (he : e ≠ 0) : (jfail a e σ).err ≠ 0 := by
  unfold jfail
  by_cases h : σ.err = 0
  · rw [if_pos h]; exact he
  · rw [if_neg h]; exact h
theorem left_zero {σ : JS} (h : σ.err ≠ 0) : σ.left l = 0 := by unfold JS.left; rw [if_neg h]
theorem jfail_left {a e : Nat} {σ : JS} (he : e ≠ 0) : (jfail a e σ).left l = 0 := left_zero (jfail_err he)
theorem in_err {σ : JS} (h : σ.err ≠ 0) : σ.In l := fun h2 => absurd h2 h
theorem jfail_in {a e : Nat} {σ : JS} (he : e ≠ 0) : (jfail a e σ).In l := in_err (jfail_err he)
theorem jread_left {σ : JS} (hi : σ.In l) : (jread l σ).2.In l ∧ (jread l σ).2.left l ≤ σ.left l ∧ ((jread l σ).1.k ≠ 0 → (jread l σ).2.left l + 1 ≤ σ.left l ∧ σ.err = 0 ∧ (jread l σ).2.err = 0 ∧ (jread l σ).1 = lexP l σ.at_ ∧ (lexP l σ.at_).e = 0) := by
  unfold jread
  by_cases h0 : σ.err = 0
  · rw [if_pos h0]
    by_cases he : (lexP l σ.at_).e = 0
    · rw [if_pos he]
      obtain ⟨h1, ⟨-, h3, h4, h5⟩, -⟩ := lexP_ok (hi h0) he
      have hi0 := hi h0
      refine ⟨fun _ => by show (lexP l σ.at_).p ≤ _; omega, ?_, fun hk => ⟨?_, h0, h0, rfl, he⟩⟩
      · show (if σ.err = 0 then l.length + 1 - (lexP l σ.at_).p else 0) ≤ if σ.err = 0 then l.length + 1 - σ.at_ else 0
        rw [if_pos h0, if_pos h0]
        rcases h5 with h5 | h5 <;> omega
      · show (if σ.err = 0 then l.length + 1 - (lexP l σ.at_).p else 0) + 1 ≤ if σ.err = 0 then l.length + 1 - σ.at_ else 0
        rw [if_pos h0, if_pos h0]
        rcases h5 with h5 | h5
        · exact absurd h5.1 hk
        · omega
    · rw [if_neg he]
      refine ⟨in_err he, ?_, fun hk => absurd rfl hk⟩
      rw [left_zero (σ := { σ with at_ := (lexP l σ.at_).p, err := (lexP l σ.at_).e }) he]
      omega
  · rw [if_neg h0]
    exact ⟨hi, Nat.le_refl _, fun hk => absurd rfl hk⟩
theorem jnext_left {σ : JS} (hi : σ.In l) : (jnext l σ).2.In l ∧ (jnext l σ).2.left l ≤ σ.left l ∧ ((jnext l σ).1.k ≠ 0 → (jnext l σ).2.left l + 1 ≤ σ.left l ∧ σ.err = 0 ∧ (jnext l σ).2.err = 0 ∧ (jnext l σ).1 = lexP l σ.at_ ∧ (lexP l σ.at_).e = 0) ∧ ((jnext l σ).1.k = 0 → (jnext l σ).2.err ≠ 0) := by
  obtain ⟨h1, h2, h3⟩ := jread_left hi
  unfold jnext
  by_cases hk : (jread l σ).1.k = 0
  · rw [if_pos hk]
    dsimp only
    exact ⟨jfail_in (by decide), by rw [jfail_left (by decide)]; omega, fun h => absurd hk h, fun _ => jfail_err (by decide)⟩
  · rw [if_neg hk]
    exact ⟨h1, h2, h3, fun h => absurd h hk⟩
theorem isSg_k {t : Lx} {b : Nat} (h : isSg t b = true) : t.k = 1 ∧ t.b = b := by simpa [isSg] using h
theorem isSg_ne {t : Lx} {b : Nat} (h : isSg t b = true) : t.k ≠ 0 := by rw [(isSg_k h).1]; decide
theorem jgoS_left {c : Nat} {σ : JS} (hi : σ.In l) : (jgoS l c σ).In l ∧ (jgoS l c σ).left l ≤ σ.left l ∧ (jgoB l σ = true → (jgoS l c σ).left l + 1 ≤ σ.left l) := by
  obtain ⟨h1, h2, h3, h4⟩ := jnext_left hi
  unfold jgoS jgoB
  by_cases hb : isSg (jnext l σ).1 44 = true
  · rw [if_pos hb]
    exact ⟨h1, h2, fun _ => (h3 (isSg_ne hb)).1⟩
  · rw [if_neg hb]
    refine ⟨?_, ?_, fun h => absurd h hb⟩
    · split
      · exact h1
      · exact jfail_in (by decide)
    · split
      · exact h2
      · rw [jfail_left (by decide)]; omega
theorem jkey_left {t : Lx} {b : Nat} {σ : JS} (hi : σ.In l) : (jkey t b σ).In l ∧ (jkey t b σ).left l ≤ σ.left l := by
  unfold jkey
  (repeat' split)
  · exact ⟨jfail_in (by decide), by rw [jfail_left (by decide)]; omega⟩
  · exact ⟨jfail_in (by decide), by rw [jfail_left (by decide)]; omega⟩
  · exact ⟨hi, Nat.le_refl _⟩
  · exact ⟨jfail_in (by decide), by rw [jfail_left (by decide)]; omega⟩
theorem jcolon_left {σ : JS} (hi : σ.In l) : (jcolon l σ).In l ∧ (jcolon l σ).left l ≤ σ.left l := by
  obtain ⟨h1, h2, h3, h4⟩ := jnext_left hi
  unfold jcolon
  split
  · exact ⟨h1, h2⟩
  · exact ⟨jfail_in (by decide), by rw [jfail_left (by decide)]; omega⟩
theorem jmid_left {t : Lx} {b : Nat} {σ : JS} (hi : σ.In l) : (jmid l t b σ).2.In l ∧ (jmid l t b σ).2.left l ≤ σ.left l ∧ ((jmid l t b σ).2.err ≠ 0 → (jmid l t b σ).1.k = 0) := by
  have h1 := jkey_left (t := t) (b := b) hi
  have h2 := jcolon_left h1.1
  obtain ⟨h3, h4, h5, -⟩ := jnext_left h2.1
  unfold jmid
  exact ⟨h3, by omega, fun he => Classical.byContradiction fun hk => he (h5 hk).2.2.1⟩
/-- What an element's fuel buys. -/
def Runs (l : List UInt8) (el : Lx → Nat → JM) (n : Nat) : Prop := ∀ t b σ, σ.In l → σ.left l < n → (σ.err ≠ 0 → t.k = 0) → ∃ v τ, el t b σ = some (v, τ) ∧ τ.In l ∧ τ.left l ≤ σ.left l
theorem nextT {σ : JS} (hi : σ.In l) : (jnext l σ).2.err ≠ 0 → (jnext l σ).1.k = 0 := fun he => Classical.byContradiction fun hk => he ((jnext_left hi).2.2.1 hk).2.2.1
theorem jarrL_runs {el : Lx → Nat → JM} {n : Nat} (hel : Runs l el n) : ∀ (m : Nat) (es : List V) (t : Lx) (σ : JS), σ.In l → σ.left l < n → σ.left l < m → (σ.err ≠ 0 → t.k = 0) → ∃ v τ, jarrL l el m es t σ = some (v, τ) ∧ τ.In l ∧ τ.left l ≤ σ.left l
  | 0, es, t, σ, _, _, h, _ => absurd h (Nat.not_lt_zero _)
  | m + 1, es, t, σ, hi, hn, hm, ht => by
    obtain ⟨v, σ1, h1, h2, h3⟩ := hel t es.length σ hi hn ht
    obtain ⟨g1, g2, g3⟩ := jgoS_left (c := 93) h2
    rw [jarrL]
    dsimp only
    rw [jbnd_of h1]
    by_cases hb : jgoB l σ1 = true
    · rw [if_pos hb]
      have g4 := g3 hb
      obtain ⟨k1, k2, k3, k4⟩ := jnext_left g1
      obtain ⟨v', τ, r1, r2, r3⟩ := jarrL_runs hel m (es ++ [v]) _ _ k1 (by omega) (by omega) (nextT g1)
      exact ⟨v', τ, r1, r2, by omega⟩
    · rw [if_neg hb]
      exact ⟨_, _, rfl, g1, by omega⟩
theorem jobjL_runs {el : Lx → Nat → JM} {n : Nat} (hel : Runs l el n) : ∀ (m : Nat) (ks : List ByteArray) (es : List V) (t : Lx) (σ : JS), σ.In l → σ.left l < n → σ.left l < m → ∃ v τ, jobjL l el m ks es t σ = some (v, τ) ∧ τ.In l ∧ τ.left l ≤ σ.left l
  | 0, ks, es, t, σ, _, _, h => absurd h (Nat.not_lt_zero _)
  | m + 1, ks, es, t, σ, hi, hn, hm => by
    obtain ⟨m1, m2, m3⟩ := jmid_left (t := t) (b := ks.length) hi
    obtain ⟨v, σ1, h1, h2, h3⟩ := hel (jmid l t ks.length σ).1 0 (jmid l t ks.length σ).2 m1 (by omega) m3
    obtain ⟨g1, g2, g3⟩ := jgoS_left (c := 125) h2
    rw [jobjL]
    dsimp only
    rw [jbnd_of h1]
    by_cases hb : jgoB l σ1 = true
    · rw [if_pos hb]
      have g4 := g3 hb
      obtain ⟨k1, k2, k3, k4⟩ := jnext_left g1
      obtain ⟨v', τ, r1, r2, r3⟩ := jobjL_runs hel m (ks ++ [t.s]) (es ++ [v]) _ _ k1 (by omega) (by omega)
      exact ⟨v', τ, r1, r2, by omega⟩
    · rw [if_neg hb]
      exact ⟨_, _, rfl, g1, by omega⟩
theorem jelN_runs : ∀ n, Runs l (jelN l n) n
  | 0 => fun t b σ _ h _ => absurd h (Nat.not_lt_zero _)
  | n + 1 => fun t b σ hi hn ht => by
    have ih := jelN_runs n
    have hz : ∀ {a e : Nat} {τ : JS}, e ≠ 0 → ∃ v τ', some (jz, jfail a e τ) = some (v, τ') ∧ τ'.In l ∧ τ'.left l ≤ σ.left l := fun he => ⟨_, _, rfl, jfail_in he, by rw [jfail_left he]; omega⟩
    rw [jelN]
    unfold jel
    by_cases c1 : t.k = 0 ∨ (t.k = 1 ∧ opensB t = false)
    · rw [if_pos c1]; exact hz (by decide)
    rw [if_neg c1]
    by_cases c2 : opensB t = true ∧ σ.op = 32
    · rw [if_pos c2]; exact hz (by decide)
    rw [if_neg c2]
    by_cases c3 : σ.nd = 4096 ∨ b = 1024
    · rw [if_pos c3]; exact hz (by decide)
    rw [if_neg c3]
    by_cases c4 : 65536 < σ.sz + t.s.size
    · rw [if_pos c4]; exact hz (by decide)
    rw [if_neg c4]
    have he : σ.err = 0 := Classical.byContradiction fun h => c1 (.inl (ht h))
    have hleft : 1 ≤ σ.left l := by unfold JS.left; rw [if_pos he]; have := hi he; omega
    have hnest : ∀ m : JM, (∀ τ : JS, τ.In l → τ.left l = σ.left l → τ.err = 0 → ∃ v τ', m τ = some (v, τ') ∧ τ'.In l ∧ τ'.left l ≤ τ.left l) → ∃ v τ', jnest m { σ with nd := σ.nd + 1, sz := σ.sz + t.s.size } = some (v, τ') ∧ τ'.In l ∧ τ'.left l ≤ σ.left l := by
      intro m hm
      obtain ⟨v, τ', h1, h2, h3⟩ := hm { σ with op := σ.op + 1, nd := σ.nd + 1, sz := σ.sz + t.s.size } hi rfl he
      refine ⟨v, { τ' with op := τ'.op - 1 }, ?_, h2, h3⟩
      unfold jnest
      exact jbnd_of h1
    have hfirst : ∀ τ : JS, τ.In l → τ.left l = σ.left l → τ.err = 0 → (jnext l τ).2.In l ∧ (jnext l τ).2.left l < n ∧ (jnext l τ).2.left l ≤ τ.left l := by
      intro τ h1 h2 h3
      obtain ⟨k1, k2, k3, k4⟩ := jnext_left h1
      refine ⟨k1, ?_, k2⟩
      by_cases hk : (jnext l τ).1.k = 0
      · rw [left_zero (k4 hk)]; omega
      · have := (k3 hk).1; omega
    unfold jbuild
    (repeat' split)
    · exact ⟨_, _, rfl, hi, Nat.le_refl _⟩
    · exact ⟨_, _, rfl, hi, Nat.le_refl _⟩
    · refine hnest _ fun τ h1 h2 h3 => ?_
      obtain ⟨k1, k2, k3⟩ := hfirst τ h1 h2 h3
      unfold jarr
      split
      · exact ⟨_, _, rfl, k1, k3⟩
      · obtain ⟨v, τ', r1, r2, r3⟩ := jarrL_runs ih n [] _ _ k1 k2 k2 (nextT h1)
        exact ⟨v, τ', r1, r2, by omega⟩
    · refine hnest _ fun τ h1 h2 h3 => ?_
      obtain ⟨k1, k2, k3⟩ := hfirst τ h1 h2 h3
      unfold jobj
      split
      · exact ⟨_, _, rfl, k1, k3⟩
      · obtain ⟨v, τ', r1, r2, r3⟩ := jobjL_runs ih n [] [] _ _ k1 k2 k2
        exact ⟨v, τ', r1, r2, by omega⟩
    all_goals exact ⟨_, _, rfl, hi, Nat.le_refl _⟩
theorem js0_in : js0.In l := fun _ => Nat.zero_le _
theorem jparse_some (l : List UInt8) : ∃ v τ, jparse l = some (v, τ) := by
  obtain ⟨k1, k2, k3, k4⟩ := jnext_left (l := l) js0_in
  have h0 : js0.left l = l.length + 1 := rfl
  obtain ⟨v, τ, h1, -, -⟩ := jelN_runs (l := l) (l.length + 2) (jnext l js0).1 0 (jnext l js0).2 k1 (by omega) (nextT js0_in)
  exact ⟨v, jend l τ, by unfold jparse; rw [jbnd_of h1]⟩
end
end Go.Proofs.YtmfjpcmbdgbjjaaGreatDoor
