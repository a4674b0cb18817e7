/- What a valid value is, plain: as the program counts it. Nothing of the program is named here. -/
import Derived.Test.YtnokmlclephjgaaVal
import Derived.Test.YtnokmlclephjgaaScmp
import Derived.Test.YtnokmlclephjgaaUtfPlain
set_option linter.unusedVariables false
set_option linter.unusedSimpArgs false
namespace Go.Proofs.Ytnokmlclephjgaa
def okS (s : ByteArray) : Bool := (runes s.data.toList).isSome
/-- The fields that a kind does not use are zero, and there are as many keys as elements. -/
def fits (k n : Int) (s : ByteArray) (nk ne : Nat) : Bool :=
  if k = 0 ∨ k = 1 ∨ k = 2 then decide (n = 0) && decide (s.size = 0) && decide (nk = 0) && decide (ne = 0)
  else if k = 3 then decide (s.size = 0) && decide (nk = 0) && decide (ne = 0)
  else if k = 4 then decide (n = 0) && decide (nk = 0) && decide (ne = 0)
  else if k = 5 then decide (n = 0) && decide (s.size = 0) && decide (nk = 0)
  else if k = 6 then decide (n = 0) && decide (s.size = 0) && decide (nk = ne)
  else false
def strOk (s : ByteArray) (b : Int) : Bool := decide (s.size ≤ 4096) && (decide (b + s.size ≤ 65536) && okS s)
/-- The keys behind the key p; b: the bytes so far. -/
def keysP : List ByteArray → Option ByteArray → Int → Option Int
  | [], _, b => some b
  | x :: r, none, b => if strOk x b then keysP r (some x) (b + x.size) else none
  | x :: r, some p, b => if scmp p x < 0 then (if strOk x b then keysP r (some x) (b + x.size) else none) else none
mutual
/-- The program's count of a value that lies within lv arrays and objects: the depth, the nodes and the bytes so far. -/
def addP : V → Int → Int → Int → Int → Option (Int × Int × Int)
  | .mk k n s ks es, lv, d, m, b =>
    if 4096 < m + 1 ∨ fits k n s ks.length es.length = false ∨ strOk s b = false then none
    else if k ≠ 5 ∧ k ≠ 6 then some (d, m + 1, b + s.size)
    else if 32 < lv + 1 ∨ 1024 < es.length then none
    else match keysP ks none (b + s.size) with
      | none => none
      | some b' => addL es (lv + 1) (max d (lv + 1)) (m + 1) b'
def addL : List V → Int → Int → Int → Int → Option (Int × Int × Int)
  | [], _, d, m, b => some (d, m, b)
  | e :: es, lv, d, m, b => match addP e lv d m b with
    | none => none
    | some (d', m', b') => addL es lv d' m' b'
end
theorem keysP_bd {ks : List ByteArray} {p : Option ByteArray} {b r : Int} (hb : b ≤ 65536) (h : keysP ks p b = some r) : b ≤ r ∧ r ≤ 65536 := by
  induction ks generalizing p b with
  | nil => simp [keysP] at h; omega
  | cons x ks ih =>
    have key : strOk x b = true → keysP ks (some x) (b + x.size) = some r → b ≤ r ∧ r ≤ 65536 := by
      intro h1 h2
      simp [strOk] at h1
      have := ih (by omega) h2
      omega
    cases p with
    | none =>
      rw [keysP] at h
      split at h
      · exact key (by assumption) h
      · cases h
    | some p =>
      rw [keysP] at h
      split at h
      · split at h
        · exact key (by assumption) h
        · cases h
      · cases h
theorem addP_bd : ∀ v : V, ∀ lv d m b d' m' b' : Int, 0 ≤ lv → lv ≤ 32 → 0 ≤ d → d ≤ 32 → 0 ≤ m → m ≤ 4096 → 0 ≤ b → b ≤ 65536 → addP v lv d m b = some (d', m', b') →
    (0 ≤ d' ∧ d' ≤ 32) ∧ (m ≤ m' ∧ m' ≤ 4096) ∧ (b ≤ b' ∧ b' ≤ 65536) := by
  refine V.ind fun k n s ks es ih lv d m b d' m' b' l0 l1 d0 d1 m0 m1 b0 b1 h => ?_
  rw [addP] at h
  split at h
  · cases h
  · rename_i hc
    have h1 : m + 1 ≤ 4096 := by omega
    have h3 : strOk s b = true := by
      cases hs : strOk s b with
      | true => rfl
      | false => exact absurd (.inr (.inr hs)) hc
    simp [strOk] at h3
    split at h
    · simp at h
      obtain ⟨rfl, rfl, rfl⟩ := h
      omega
    · split at h
      · cases h
      · rename_i hl
        split at h
        · cases h
        · rename_i b2 hk
          have hb2 := keysP_bd (by omega) hk
          have key : ∀ (fs : List V), (∀ e ∈ fs, e ∈ es) → ∀ d m b : Int, 0 ≤ d → d ≤ 32 → 0 ≤ m → m ≤ 4096 → 0 ≤ b → b ≤ 65536 → addL fs (lv + 1) d m b = some (d', m', b') →
              (0 ≤ d' ∧ d' ≤ 32) ∧ (m ≤ m' ∧ m' ≤ 4096) ∧ (b ≤ b' ∧ b' ≤ 65536) := by
            intro fs
            induction fs with
            | nil =>
              intro _ d m b d0 d1 m0 m1 b0 b1 h
              simp [addL] at h
              omega
            | cons e fs ihf =>
              intro hin d m b d0 d1 m0 m1 b0 b1 h
              rw [addL] at h
              split at h
              · cases h
              · rename_i d2 m2 b2 he
                have h2 := ih e (hin e (by simp)) (lv + 1) d m b d2 m2 b2 (by omega) (by omega) d0 d1 m0 m1 b0 b1 he
                have h3 := ihf (fun x hx => hin x (by simp [hx])) d2 m2 b2 (by omega) (by omega) (by omega) (by omega) (by omega) (by omega) h
                omega
          have := key es (fun _ h => h) _ _ _ (by omega) (by omega) (by omega) (by omega) (by omega) (by omega) h
          omega
end Go.Proofs.Ytnokmlclephjgaa
