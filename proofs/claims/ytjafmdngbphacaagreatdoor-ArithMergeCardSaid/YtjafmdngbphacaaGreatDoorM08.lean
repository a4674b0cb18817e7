/- What a valid value is, plain: as the program counts it. Nothing of the program is named here. What a valid value is, plain: as the reference counts it. Nothing of the program is named here. -/
import Derived.Test.YtjafmdngbphacaaGreatDoorM01
import Derived.Test.YtjafmdngbphacaaGreatDoorM07
set_option linter.unusedVariables false
set_option linter.unusedSimpArgs false
namespace Go.Proofs.YtjafmdngbphacaaGreatDoor
def okS (s : ByteArray) : Bool := (runes s.data.toList).isSome
/-- The fields that a kind does not use are zero, and there are as many keys as elements. -/
def fits (k n : Int) (s : ByteArray) (nk ne : Nat) : Bool :=
  if k = 0 ∨ k = 1 ∨ k = 2 then decide (n = 0) && decide (s.size = 0) && decide (nk = 0) && decide (ne = 0)
  else if k = 3 then decide (s.size = 0) && decide (nk = 0) && decide (ne = 0)
  else if k = 4 then decide (n = 0) && decide (nk = 0) && decide (ne = 0)
  else if k = 5 then decide (n = 0) && decide (s.size = 0) && decide (nk = 0)
  else if k = 6 then decide (n = 0) && decide (s.size = 0) && decide (nk = ne)
  else false
def strOk (s : ByteArray) (b : Int) : Bool := decide (s.size ≤ 4096) && (decide (b + s.size ≤ 65536) && okS s)
/-- The keys behind the key p; b: the bytes so far. -/
def keysP : List ByteArray → Option ByteArray → Int → Option Int
  | [], _, b => some b
  | x :: r, none, b => if strOk x b then keysP r (some x) (b + x.size) else none
  | x :: r, some p, b => if scmp p x < 0 then (if strOk x b then keysP r (some x) (b + x.size) else none) else none
mutual
/-- The program's count of a value that lies within lv arrays and objects: the depth, the nodes and the bytes so far. -/
def addP : V → Int → Int → Int → Int → Option (Int × Int × Int)
  | .mk k n s ks es, lv, d, m, b =>
    if 4096 < m + 1 ∨ fits k n s ks.length es.length = false ∨ strOk s b = false then none
    else if k ≠ 5 ∧ k ≠ 6 then some (d, m + 1, b + s.size)
    else if 32 < lv + 1 ∨ 1024 < es.length then none
    else match keysP ks none (b + s.size) with
      | none => none
      | some b' => addL es (lv + 1) (max d (lv + 1)) (m + 1) b'
def addL : List V → Int → Int → Int → Int → Option (Int × Int × Int)
  | [], _, d, m, b => some (d, m, b)
  | e :: es, lv, d, m, b => match addP e lv d m b with
    | none => none
    | some (d', m', b') => addL es lv d' m' b'
end
theorem keysP_bd {ks : List ByteArray} {p : Option ByteArray} {b r : Int} (hb : b ≤ 65536) (h : keysP ks p b = some r) : b ≤ r ∧ r ≤ 65536 := by
  induction ks generalizing p b with
  | nil => simp [keysP] at h; omega
  | cons x ks ih =>
    have key : strOk x b = true → keysP ks (some x) (b + x.size) = some r → b ≤ r ∧ r ≤ 65536 := by
      intro h1 h2
      simp [strOk] at h1
      have := ih (by omega) h2
      omega
    cases p with
    | none =>
      rw [keysP] at h
      split at h
      · exact key (by assumption) h
      · cases h
    | some p =>
      rw [keysP] at h
      split at h
      · split at h
        · exact key (by assumption) h
        · cases h
      · cases h
theorem addP_bd : ∀ v : V, ∀ lv d m b d' m' b' : Int, 0 ≤ lv → lv ≤ 32 → 0 ≤ d → d ≤ 32 → 0 ≤ m → m ≤ 4096 → 0 ≤ b → b ≤ 65536 → addP v lv d m b = some (d', m', b') →
    (0 ≤ d' ∧ d' ≤ 32) ∧ (m ≤ m' ∧ m' ≤ 4096) ∧ (b ≤ b' ∧ b' ≤ 65536) := by
  refine V.ind fun k n s ks es ih lv d m b d' m' b' l0 l1 d0 d1 m0 m1 b0 b1 h => ?_
  rw [addP] at h
  split at h
  · cases h
  · rename_i hc
    have h1 : m + 1 ≤ 4096 := by omega
    have h3 : strOk s b = true := by
      cases hs : strOk s b with
      | true => rfl
      | false => exact absurd (.inr (.inr hs)) hc
    simp [strOk] at h3
    split at h
    · simp at h
      obtain ⟨rfl, rfl, rfl⟩ := h
      omega
    · split at h
      · cases h
      · rename_i hl
        split at h
        · cases h
        · rename_i b2 hk
          have hb2 := keysP_bd (by omega) hk
          have key : ∀ (fs : List V), (∀ e ∈ fs, e ∈ es) → ∀ d m b : Int, 0 ≤ d → d ≤ 32 → 0 ≤ m → m ≤ 4096 → 0 ≤ b → b ≤ 65536 → addL fs (lv + 1) d m b = some (d', m', b') →
              (0 ≤ d' ∧ d' ≤ 32) ∧ (m ≤ m' ∧ m' ≤ 4096) ∧ (b ≤ b' ∧ b' ≤ 65536) := by
            intro fs
            induction fs with
            | nil =>
              intro _ d m b d0 d1 m0 m1 b0 b1 h
              simp [addL] at h
              omega
            | cons e fs ihf =>
              intro hin d m b d0 d1 m0 m1 b0 b1 h
              rw [addL] at h
              split at h
              · cases h
              · rename_i d2 m2 b2 he
                have h2 := ih e (hin e (by simp)) (lv + 1) d m b d2 m2 b2 (by omega) (by omega) d0 d1 m0 m1 b0 b1 he
                have h3 := ihf (fun x hx => hin x (by simp [hx])) d2 m2 b2 (by omega) (by omega) (by omega) (by omega) (by omega) (by omega) h
                omega
          have := key es (fun _ h => h) _ _ _ (by omega) (by omega) (by omega) (by omega) (by omega) (by omega) h
          omega
end Go.Proofs.YtjafmdngbphacaaGreatDoor
namespace Go.Proofs.YtjafmdngbphacaaGreatDoor
def fit1 (k n : Int) (s : ByteArray) (nk ne : Nat) : Bool :=
  decide (0 ≤ k) && (decide (k ≤ 6) && ((decide (k = 3) || decide (n = 0)) && ((decide (k = 4) || decide (s.size = 0)) && ((decide (k = 6) || decide (nk = 0)) && (decide (5 ≤ k) || decide (ne = 0))))))
def fit2 (k lv : Int) (s : ByteArray) (nk ne : Nat) : Bool :=
  decide (s.size ≤ 4096) && (okS s && (decide (ne ≤ 1024) && ((! decide (k = 6) || decide (nk = ne)) && (! decide (5 ≤ k) || decide (lv < 32)))))
def keyOk (x : ByteArray) : Bool := decide (x.size ≤ 4096) && okS x
def rkeys : List ByteArray → Option ByteArray → Int → Option Int
  | [], _, b => some b
  | x :: r, none, b => if keyOk x then rkeys r (some x) (b + x.size) else none
  | x :: r, some p, b => if keyOk x then (if scmp p x < 0 then rkeys r (some x) (b + x.size) else none) else none
mutual
/-- The reference's count of a value that is nested in lv others: nodes and bytes. -/
def rmP : V → Int → Option (Int × Int)
  | .mk k n s ks es, lv =>
    if fit1 k n s ks.length es.length = false then none
    else if fit2 k lv s ks.length es.length = false then none
    else match rkeys ks none s.size with
      | none => none
      | some b => rmL es lv 1 b
def rmL : List V → Int → Int → Int → Option (Int × Int)
  | [], _, m, b => some (m, b)
  | e :: es, lv, m, b => match rmP e (lv + 1) with
    | none => none
    | some (m', b') => if 4096 < m + m' ∨ 65536 < b + b' then none else rmL es lv (m + m') (b + b')
end
theorem rkeys_bd {ks : List ByteArray} {p : Option ByteArray} {b r : Int} (h : rkeys ks p b = some r) : b ≤ r ∧ r ≤ b + 4096 * ks.length := by
  induction ks generalizing p b with
  | nil => simp [rkeys] at h; subst h; simp
  | cons x ks ih =>
    have key : keyOk x = true → rkeys ks (some x) (b + x.size) = some r → b ≤ r ∧ r ≤ b + 4096 * (x :: ks).length := by
      intro h1 h2
      simp [keyOk] at h1
      have := ih h2
      rw [List.length_cons]
      omega
    cases p with
    | none =>
      rw [rkeys] at h
      split at h
      · exact key (by assumption) h
      · cases h
    | some p =>
      rw [rkeys] at h
      split at h
      · split at h
        · exact key (by assumption) h
        · cases h
      · cases h
theorem keys_len {k n lv : Int} {s : ByteArray} {nk ne : Nat} (h1 : fit1 k n s nk ne = true) (h2 : fit2 k lv s nk ne = true) : nk ≤ 1024 := by
  simp [fit1] at h1
  simp [fit2] at h2
  omega
theorem fit2_cls (k lv : Int) (s : ByteArray) (nk ne : Nat) (hsz : s.size ≤ 4096) (hok : okS s = true) :
    (1025 ≤ ne ∧ fit2 k lv s nk ne = false) ∨
    (ne ≤ 1024 ∧ (k == 6) = true ∧ 5 ≤ k ∧ ((nk : Int) != (ne : Int)) = true ∧ fit2 k lv s nk ne = false) ∨
    (ne ≤ 1024 ∧ (k == 6) = true ∧ 5 ≤ k ∧ ((nk : Int) != (ne : Int)) = false ∧ 32 ≤ lv ∧ fit2 k lv s nk ne = false) ∨
    (ne ≤ 1024 ∧ (k == 6) = true ∧ 5 ≤ k ∧ ((nk : Int) != (ne : Int)) = false ∧ lv ≤ 31 ∧ fit2 k lv s nk ne = true) ∨
    (ne ≤ 1024 ∧ (k == 6) = false ∧ 5 ≤ k ∧ 32 ≤ lv ∧ fit2 k lv s nk ne = false) ∨
    (ne ≤ 1024 ∧ (k == 6) = false ∧ 5 ≤ k ∧ lv ≤ 31 ∧ fit2 k lv s nk ne = true) ∨
    (ne ≤ 1024 ∧ (k == 6) = false ∧ k < 5 ∧ fit2 k lv s nk ne = true) := by
  have h1 : decide (s.size ≤ 4096) = true := decide_eq_true hsz
  by_cases hn : ne ≤ 1024
  · by_cases hk : k = 6
    · by_cases he : nk = ne
      · by_cases hl : lv ≤ 31
        · refine .inr (.inr (.inr (.inl ⟨hn, by simp [hk], by omega, by simp [he], hl, ?_⟩)))
          simp [fit2, hok, hsz, hn, he]; omega
        · refine .inr (.inr (.inl ⟨hn, by simp [hk], by omega, by simp [he], by omega, ?_⟩))
          simp [fit2, hok, hsz, hn, he]; omega
      · refine .inr (.inl ⟨hn, by simp [hk], by omega, by simp; omega, ?_⟩)
        simp [fit2, hok, hsz, hn, he, hk]
    · by_cases h5 : 5 ≤ k
      · by_cases hl : lv ≤ 31
        · refine .inr (.inr (.inr (.inr (.inr (.inl ⟨hn, by simp [hk], h5, hl, ?_⟩)))))
          simp [fit2, hok, hsz, hn, hk]; omega
        · refine .inr (.inr (.inr (.inr (.inl ⟨hn, by simp [hk], h5, by omega, ?_⟩))))
          simp [fit2, hok, hsz, hn, hk]; omega
      · refine .inr (.inr (.inr (.inr (.inr (.inr ⟨hn, by simp [hk], by omega, ?_⟩)))))
        simp [fit2, hok, hsz, hn, hk]; omega
  · refine .inl ⟨by omega, ?_⟩
    simp [fit2, hn]
theorem rmP_bd : ∀ v : V, ∀ lv m b : Int, rmP v lv = some (m, b) → (1 ≤ m ∧ m ≤ 4096) ∧ (0 ≤ b ∧ b ≤ 5000000) := by
  refine V.ind fun k n s ks es ih lv m b h => ?_
  rw [rmP] at h
  split at h
  · cases h
  · rename_i h1
    split at h
    · cases h
    · rename_i h2
      split at h
      · cases h
      · rename_i b2 hk
        have g1 : fit1 k n s ks.length es.length = true := by simpa using h1
        have g2 : fit2 k lv s ks.length es.length = true := by simpa using h2
        have g1' := g1
        have g2' := g2
        simp [fit1] at g1
        simp [fit2] at g2
        have hb2 := rkeys_bd hk
        have hlen : ks.length ≤ 1024 := keys_len g1' g2'
        have key : ∀ (fs : List V), (∀ e ∈ fs, e ∈ es) → ∀ m0 b0 : Int, 1 ≤ m0 → m0 ≤ 4096 → 0 ≤ b0 → b0 ≤ 5000000 → rmL fs lv m0 b0 = some (m, b) → (1 ≤ m ∧ m ≤ 4096) ∧ (0 ≤ b ∧ b ≤ 5000000) := by
          intro fs
          induction fs with
          | nil =>
            intro _ m0 b0 _ _ _ _ h
            simp [rmL] at h
            omega
          | cons e fs ihf =>
            intro hin m0 b0 x0 x1 x2 x3 h
            rw [rmL] at h
            split at h
            · cases h
            · rename_i m' b' he
              have h2 := ih e (hin e (by simp)) (lv + 1) m' b' he
              split at h
              · cases h
              · exact ihf (fun x hx => hin x (by simp [hx])) _ _ (by omega) (by omega) (by omega) (by omega) h
        exact key es (fun _ h => h) 1 b2 (by omega) (by omega) (by omega) (by omega) h
end Go.Proofs.YtjafmdngbphacaaGreatDoor
