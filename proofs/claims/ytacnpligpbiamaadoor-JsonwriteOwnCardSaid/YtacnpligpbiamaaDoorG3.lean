/- The order of strings, plain. Nothing of the program is named here. What a valid value is, plain: as the program counts it. Nothing of the program is named here. What a valid value is, plain: as the reference counts it. Nothing of the program is named here. The program's and the reference's counts agree: a value is valid to both or to none. Nothing of the program is named here. The canonical text determines the value: plain. Nothing of the program is named here. -/
import Derived.Lib.Bytealg
import Derived.Lib.Strings
import Derived.Laws.Cover1
import Derived.Test.YtacnpligpbiamaaDoorG2
import Derived.Test.YtacnpligpbiamaaDoorG1
set_option linter.unusedVariables false
set_option linter.unusedSimpArgs false
namespace Go.Proofs.YtacnpligpbiamaaDoor
theorem cb_range : ∀ a b : List UInt8, Lib.compareBytes a b = -1 ∨ Lib.compareBytes a b = 0 ∨ Lib.compareBytes a b = 1
  | [], [] => by simp [Lib.compareBytes]
  | [], _ :: _ => by simp [Lib.compareBytes]
  | _ :: _, [] => by simp [Lib.compareBytes]
  | x :: a, y :: b => by
    rw [Lib.compareBytes]
    split
    · simp
    · split
      · simp
      · exact cb_range a b
theorem cb_zero : ∀ a b : List UInt8, Lib.compareBytes a b = 0 ↔ a = b
  | [], [] => by simp [Lib.compareBytes]
  | [], _ :: _ => by simp [Lib.compareBytes]
  | _ :: _, [] => by simp [Lib.compareBytes]
  | x :: a, y :: b => by
    rw [Lib.compareBytes]
    split
    · rename_i h
      simp
      rintro rfl
      exact absurd h (UInt8.lt_irrefl _)
    · rename_i h1
      split
      · rename_i h
        simp
        rintro rfl
        exact absurd h (UInt8.lt_irrefl _)
      · rename_i h2
        have : x = y := UInt8.le_antisymm (UInt8.not_lt.1 h2) (UInt8.not_lt.1 h1)
        subst this
        simp [cb_zero a b]
theorem cb_anti : ∀ a b : List UInt8, Lib.compareBytes b a = - Lib.compareBytes a b
  | [], [] => by simp [Lib.compareBytes]
  | [], _ :: _ => by simp [Lib.compareBytes]
  | _ :: _, [] => by simp [Lib.compareBytes]
  | x :: a, y :: b => by
    rw [Lib.compareBytes, Lib.compareBytes]
    by_cases h1 : x < y
    · have h2 : ¬ y < x := UInt8.not_lt.2 (UInt8.le_of_lt h1)
      simp [h1, h2]
    · by_cases h2 : y < x
      · simp [h1, h2]
      · simp [h1, h2, cb_anti a b]
theorem cb_less : ∀ a b : List UInt8, Op.bytesLess a b = decide (Lib.compareBytes a b < 0)
  | [], [] => by simp [Lib.compareBytes, Op.bytesLess]
  | [], _ :: _ => by simp [Lib.compareBytes, Op.bytesLess]
  | _ :: _, [] => by simp [Lib.compareBytes, Op.bytesLess]
  | x :: a, y :: b => by
    rw [Lib.compareBytes, Op.bytesLess, cb_less a b]
    by_cases h1 : x < y
    · simp [h1]
    · by_cases h2 : y < x
      · have : ¬ x = y := by rintro rfl; exact h1 h2
        simp [h1, h2, this]
      · have : x = y := UInt8.le_antisymm (UInt8.not_lt.1 h2) (UInt8.not_lt.1 h1)
        subst this
        simp
theorem cb_trans : ∀ a b c : List UInt8, Lib.compareBytes a b ≤ 0 → Lib.compareBytes b c ≤ 0 → Lib.compareBytes a c ≤ 0 ∧ (Lib.compareBytes a b < 0 ∨ Lib.compareBytes b c < 0 → Lib.compareBytes a c < 0)
  | [], [], [] => by simp [Lib.compareBytes]
  | [], [], _ :: _ => by simp [Lib.compareBytes]
  | [], _ :: _, [] => by simp [Lib.compareBytes]
  | [], _ :: _, _ :: _ => by simp [Lib.compareBytes]
  | _ :: _, [], _ => by simp [Lib.compareBytes]
  | _ :: _, _ :: _, [] => by simp [Lib.compareBytes]
  | x :: a, y :: b, z :: c => by
    have ih := cb_trans a b c
    rw [Lib.compareBytes, Lib.compareBytes, Lib.compareBytes]
    simp only [UInt8.lt_iff_toNat_lt]
    generalize Lib.compareBytes a b = p at *
    generalize Lib.compareBytes b c = q at *
    generalize Lib.compareBytes a c = r at *
    repeat' split
    all_goals omega
/-- The order of two strings: -1, 0 or 1. -/
def scmp (a b : ByteArray) : Int := Lib.compareBytes a.data.toList b.data.toList
theorem data_inj {a b : ByteArray} (h : a.data.toList = b.data.toList) : a = b := by
  obtain ⟨⟨x⟩⟩ := a
  obtain ⟨⟨y⟩⟩ := b
  simp at h
  subst h
  rfl
theorem scmp_range (a b : ByteArray) : scmp a b = -1 ∨ scmp a b = 0 ∨ scmp a b = 1 := cb_range _ _
theorem scmp_zero (a b : ByteArray) : scmp a b = 0 ↔ a = b := by
  unfold scmp
  rw [cb_zero]
  exact ⟨data_inj, fun h => by rw [h]⟩
theorem scmp_self (a : ByteArray) : scmp a a = 0 := (scmp_zero a a).2 rfl
theorem scmp_anti (a b : ByteArray) : scmp b a = - scmp a b := cb_anti _ _
theorem scmp_trans {a b c : ByteArray} (h : scmp a b ≤ 0) (k : scmp b c ≤ 0) : scmp a c ≤ 0 := (cb_trans _ _ _ h k).1
theorem scmp_lt {a b c : ByteArray} (h : scmp a b < 0) (k : scmp b c < 0) : scmp a c < 0 := (cb_trans _ _ _ (Int.le_of_lt h) (Int.le_of_lt k)).2 (.inl h)
theorem less_eq (a b : ByteArray) : Op.bytesLess a.toList b.toList = decide (scmp a b < 0) := by rw [Lib.toList_data, Lib.toList_data, cb_less]; rfl
theorem same_eq (a b : ByteArray) : (a.toList == b.toList) = decide (scmp a b = 0) := by
  rw [Lib.toList_data, Lib.toList_data, Bool.eq_iff_iff]
  simp only [beq_iff_eq, decide_eq_true_eq, scmp_zero]
  exact ⟨data_inj, fun h => by rw [h]⟩
end Go.Proofs.YtacnpligpbiamaaDoor
namespace Go.Proofs.YtacnpligpbiamaaDoor
def okS (s : ByteArray) : Bool := (runes s.data.toList).isSome
/-- The fields that a kind does not use are zero, and there are as many keys as elements. -/
def fits (k n : Int) (s : ByteArray) (nk ne : Nat) : Bool :=
  if k = 0 ∨ k = 1 ∨ k = 2 then decide (n = 0) && decide (s.size = 0) && decide (nk = 0) && decide (ne = 0)
  else if k = 3 then decide (s.size = 0) && decide (nk = 0) && decide (ne = 0)
  else if k = 4 then decide (n = 0) && decide (nk = 0) && decide (ne = 0)
  else if k = 5 then decide (n = 0) && decide (s.size = 0) && decide (nk = 0)
  else if k = 6 then decide (n = 0) && decide (s.size = 0) && decide (nk = ne)
  else false
def strOk (s : ByteArray) (b : Int) : Bool := decide (s.size ≤ 4096) && (decide (b + s.size ≤ 65536) && okS s)
/-- The keys behind the key p; b: the bytes so far. -/
def keysP : List ByteArray → Option ByteArray → Int → Option Int
  | [], _, b => some b
  | x :: r, none, b => if strOk x b then keysP r (some x) (b + x.size) else none
  | x :: r, some p, b => if scmp p x < 0 then (if strOk x b then keysP r (some x) (b + x.size) else none) else none
mutual
/-- The program's count of a value that lies within lv arrays and objects: the depth, the nodes and the bytes so far. -/
def addP : V → Int → Int → Int → Int → Option (Int × Int × Int)
  | .mk k n s ks es, lv, d, m, b =>
    if 4096 < m + 1 ∨ fits k n s ks.length es.length = false ∨ strOk s b = false then none
    else if k ≠ 5 ∧ k ≠ 6 then some (d, m + 1, b + s.size)
    else if 32 < lv + 1 ∨ 1024 < es.length then none
    else match keysP ks none (b + s.size) with
      | none => none
      | some b' => addL es (lv + 1) (max d (lv + 1)) (m + 1) b'
def addL : List V → Int → Int → Int → Int → Option (Int × Int × Int)
  | [], _, d, m, b => some (d, m, b)
  | e :: es, lv, d, m, b => match addP e lv d m b with
    | none => none
    | some (d', m', b') => addL es lv d' m' b'
end
theorem keysP_bd {ks : List ByteArray} {p : Option ByteArray} {b r : Int} (hb : b ≤ 65536) (h : keysP ks p b = some r) : b ≤ r ∧ r ≤ 65536 := by
  induction ks generalizing p b with
  | nil => simp [keysP] at h; omega
  | cons x ks ih =>
    have key : strOk x b = true → keysP ks (some x) (b + x.size) = some r → b ≤ r ∧ r ≤ 65536 := by
      intro h1 h2
      simp [strOk] at h1
      have := ih (by omega) h2
      omega
    cases p with
    | none =>
      rw [keysP] at h
      split at h
      · exact key (by assumption) h
      · cases h
    | some p =>
      rw [keysP] at h
      split at h
      · split at h
        · exact key (by assumption) h
        · cases h
      · cases h
theorem addP_bd : ∀ v : V, ∀ lv d m b d' m' b' : Int, 0 ≤ lv → lv ≤ 32 → 0 ≤ d → d ≤ 32 → 0 ≤ m → m ≤ 4096 → 0 ≤ b → b ≤ 65536 → addP v lv d m b = some (d', m', b') →
    (0 ≤ d' ∧ d' ≤ 32) ∧ (m ≤ m' ∧ m' ≤ 4096) ∧ (b ≤ b' ∧ b' ≤ 65536) := by
  refine V.ind fun k n s ks es ih lv d m b d' m' b' l0 l1 d0 d1 m0 m1 b0 b1 h => ?_
  rw [addP] at h
  split at h
  · cases h
  · rename_i hc
    have h1 : m + 1 ≤ 4096 := by omega
    have h3 : strOk s b = true := by
      cases hs : strOk s b with
      | true => rfl
      | false => exact absurd (.inr (.inr hs)) hc
    simp [strOk] at h3
    split at h
    · simp at h
      obtain ⟨rfl, rfl, rfl⟩ := h
      omega
    · split at h
      · cases h
      · rename_i hl
        split at h
        · cases h
        · rename_i b2 hk
          have hb2 := keysP_bd (by omega) hk
          have key : ∀ (fs : List V), (∀ e ∈ fs, e ∈ es) → ∀ d m b : Int, 0 ≤ d → d ≤ 32 → 0 ≤ m → m ≤ 4096 → 0 ≤ b → b ≤ 65536 → addL fs (lv + 1) d m b = some (d', m', b') →
              (0 ≤ d' ∧ d' ≤ 32) ∧ (m ≤ m' ∧ m' ≤ 4096) ∧ (b ≤ b' ∧ b' ≤ 65536) := by
            intro fs
            induction fs with
            | nil =>
              intro _ d m b d0 d1 m0 m1 b0 b1 h
              simp [addL] at h
              omega
            | cons e fs ihf =>
              intro hin d m b d0 d1 m0 m1 b0 b1 h
              rw [addL] at h
              split at h
              · cases h
              · rename_i d2 m2 b2 he
                have h2 := ih e (hin e (by simp)) (lv + 1) d m b d2 m2 b2 (by omega) (by omega) d0 d1 m0 m1 b0 b1 he
                have h3 := ihf (fun x hx => hin x (by simp [hx])) d2 m2 b2 (by omega) (by omega) (by omega) (by omega) (by omega) (by omega) h
                omega
          have := key es (fun _ h => h) _ _ _ (by omega) (by omega) (by omega) (by omega) (by omega) (by omega) h
          omega
end Go.Proofs.YtacnpligpbiamaaDoor
namespace Go.Proofs.YtacnpligpbiamaaDoor
def fit1 (k n : Int) (s : ByteArray) (nk ne : Nat) : Bool :=
  decide (0 ≤ k) && (decide (k ≤ 6) && ((decide (k = 3) || decide (n = 0)) && ((decide (k = 4) || decide (s.size = 0)) && ((decide (k = 6) || decide (nk = 0)) && (decide (5 ≤ k) || decide (ne = 0))))))
def fit2 (k lv : Int) (s : ByteArray) (nk ne : Nat) : Bool :=
  decide (s.size ≤ 4096) && (okS s && (decide (ne ≤ 1024) && ((! decide (k = 6) || decide (nk = ne)) && (! decide (5 ≤ k) || decide (lv < 32)))))
def keyOk (x : ByteArray) : Bool := decide (x.size ≤ 4096) && okS x
def rkeys : List ByteArray → Option ByteArray → Int → Option Int
  | [], _, b => some b
  | x :: r, none, b => if keyOk x then rkeys r (some x) (b + x.size) else none
  | x :: r, some p, b => if keyOk x then (if scmp p x < 0 then rkeys r (some x) (b + x.size) else none) else none
mutual
/-- The reference's count of a value that is nested in lv others: nodes and bytes. -/
def rmP : V → Int → Option (Int × Int)
  | .mk k n s ks es, lv =>
    if fit1 k n s ks.length es.length = false then none
    else if fit2 k lv s ks.length es.length = false then none
    else match rkeys ks none s.size with
      | none => none
      | some b => rmL es lv 1 b
def rmL : List V → Int → Int → Int → Option (Int × Int)
  | [], _, m, b => some (m, b)
  | e :: es, lv, m, b => match rmP e (lv + 1) with
    | none => none
    | some (m', b') => if 4096 < m + m' ∨ 65536 < b + b' then none else rmL es lv (m + m') (b + b')
end
theorem rkeys_bd {ks : List ByteArray} {p : Option ByteArray} {b r : Int} (h : rkeys ks p b = some r) : b ≤ r ∧ r ≤ b + 4096 * ks.length := by
  induction ks generalizing p b with
  | nil => simp [rkeys] at h; subst h; simp
  | cons x ks ih =>
    have key : keyOk x = true → rkeys ks (some x) (b + x.size) = some r → b ≤ r ∧ r ≤ b + 4096 * (x :: ks).length := by
      intro h1 h2
      simp [keyOk] at h1
      have := ih h2
      rw [List.length_cons]
      omega
    cases p with
    | none =>
      rw [rkeys] at h
      split at h
      · exact key (by assumption) h
      · cases h
    | some p =>
      rw [rkeys] at h
      split at h
      · split at h
        · exact key (by assumption) h
        · cases h
      · cases h
theorem keys_len {k n lv : Int} {s : ByteArray} {nk ne : Nat} (h1 : fit1 k n s nk ne = true) (h2 : fit2 k lv s nk ne = true) : nk ≤ 1024 := by
  simp [fit1] at h1
  simp [fit2] at h2
  omega
theorem size_empty' (s : ByteArray) : s.toList.isEmpty = decide (s.size = 0) := by
  rw [Lib.toList_data]
  obtain ⟨⟨l⟩⟩ := s
  cases l <;> simp [ByteArray.size]
theorem fit1_iff_true (k n : Int) (s : ByteArray) (nk ne : Nat) : (fit1 k n s nk ne = true) = (0 ≤ k ∧ k ≤ 6 ∧ (k = 3 ∨ n = 0) ∧ (k = 4 ∨ s.size = 0) ∧ (k = 6 ∨ nk = 0) ∧ (5 ≤ k ∨ ne = 0)) := by
  simp [fit1]
theorem fit2_cls (k lv : Int) (s : ByteArray) (nk ne : Nat) (hsz : s.size ≤ 4096) (hok : okS s = true) :
    (1025 ≤ ne ∧ fit2 k lv s nk ne = false) ∨
    (ne ≤ 1024 ∧ (k == 6) = true ∧ 5 ≤ k ∧ ((nk : Int) != (ne : Int)) = true ∧ fit2 k lv s nk ne = false) ∨
    (ne ≤ 1024 ∧ (k == 6) = true ∧ 5 ≤ k ∧ ((nk : Int) != (ne : Int)) = false ∧ 32 ≤ lv ∧ fit2 k lv s nk ne = false) ∨
    (ne ≤ 1024 ∧ (k == 6) = true ∧ 5 ≤ k ∧ ((nk : Int) != (ne : Int)) = false ∧ lv ≤ 31 ∧ fit2 k lv s nk ne = true) ∨
    (ne ≤ 1024 ∧ (k == 6) = false ∧ 5 ≤ k ∧ 32 ≤ lv ∧ fit2 k lv s nk ne = false) ∨
    (ne ≤ 1024 ∧ (k == 6) = false ∧ 5 ≤ k ∧ lv ≤ 31 ∧ fit2 k lv s nk ne = true) ∨
    (ne ≤ 1024 ∧ (k == 6) = false ∧ k < 5 ∧ fit2 k lv s nk ne = true) := by
  have h1 : decide (s.size ≤ 4096) = true := decide_eq_true hsz
  by_cases hn : ne ≤ 1024
  · by_cases hk : k = 6
    · by_cases he : nk = ne
      · by_cases hl : lv ≤ 31
        · refine .inr (.inr (.inr (.inl ⟨hn, by simp [hk], by omega, by simp [he], hl, ?_⟩)))
          simp [fit2, hok, hsz, hn, he]; omega
        · refine .inr (.inr (.inl ⟨hn, by simp [hk], by omega, by simp [he], by omega, ?_⟩))
          simp [fit2, hok, hsz, hn, he]; omega
      · refine .inr (.inl ⟨hn, by simp [hk], by omega, by simp; omega, ?_⟩)
        simp [fit2, hok, hsz, hn, he, hk]
    · by_cases h5 : 5 ≤ k
      · by_cases hl : lv ≤ 31
        · refine .inr (.inr (.inr (.inr (.inr (.inl ⟨hn, by simp [hk], h5, hl, ?_⟩)))))
          simp [fit2, hok, hsz, hn, hk]; omega
        · refine .inr (.inr (.inr (.inr (.inl ⟨hn, by simp [hk], h5, by omega, ?_⟩))))
          simp [fit2, hok, hsz, hn, hk]; omega
      · refine .inr (.inr (.inr (.inr (.inr (.inr ⟨hn, by simp [hk], by omega, ?_⟩)))))
        simp [fit2, hok, hsz, hn, hk]; omega
  · refine .inl ⟨by omega, ?_⟩
    simp [fit2, hn]
theorem rmP_bd : ∀ v : V, ∀ lv m b : Int, rmP v lv = some (m, b) → (1 ≤ m ∧ m ≤ 4096) ∧ (0 ≤ b ∧ b ≤ 5000000) := by
  refine V.ind fun k n s ks es ih lv m b h => ?_
  rw [rmP] at h
  split at h
  · cases h
  · rename_i h1
    split at h
    · cases h
    · rename_i h2
      split at h
      · cases h
      · rename_i b2 hk
        have g1 : fit1 k n s ks.length es.length = true := by simpa using h1
        have g2 : fit2 k lv s ks.length es.length = true := by simpa using h2
        have g1' := g1
        have g2' := g2
        simp [fit1] at g1
        simp [fit2] at g2
        have hb2 := rkeys_bd hk
        have hlen : ks.length ≤ 1024 := keys_len g1' g2'
        have key : ∀ (fs : List V), (∀ e ∈ fs, e ∈ es) → ∀ m0 b0 : Int, 1 ≤ m0 → m0 ≤ 4096 → 0 ≤ b0 → b0 ≤ 5000000 → rmL fs lv m0 b0 = some (m, b) → (1 ≤ m ∧ m ≤ 4096) ∧ (0 ≤ b ∧ b ≤ 5000000) := by
          intro fs
          induction fs with
          | nil =>
            intro _ m0 b0 _ _ _ _ h
            simp [rmL] at h
            omega
          | cons e fs ihf =>
            intro hin m0 b0 x0 x1 x2 x3 h
            rw [rmL] at h
            split at h
            · cases h
            · rename_i m' b' he
              have h2 := ih e (hin e (by simp)) (lv + 1) m' b' he
              split at h
              · cases h
              · exact ihf (fun x hx => hin x (by simp [hx])) _ _ (by omega) (by omega) (by omega) (by omega) h
        exact key es (fun _ h => h) 1 b2 (by omega) (by omega) (by omega) (by omega) h
end Go.Proofs.YtacnpligpbiamaaDoor
namespace Go.Proofs.YtacnpligpbiamaaDoor
def kb : List ByteArray → Nat
  | [] => 0
  | x :: r => x.size + kb r
def keysOk : Option ByteArray → List ByteArray → Bool
  | _, [] => true
  | none, x :: r => keyOk x && keysOk (some x) r
  | some p, x :: r => keyOk x && (decide (scmp p x < 0) && keysOk (some x) r)
theorem keysP_iff (ks : List ByteArray) : ∀ (p : Option ByteArray) (b r : Int), b ≤ 65536 → (keysP ks p b = some r ↔ keysOk p ks = true ∧ b + kb ks ≤ 65536 ∧ r = b + kb ks) := by
  induction ks with
  | nil =>
    intro p b r hb
    simp [keysP, keysOk, kb]
    omega
  | cons x ks ih =>
    intro p b r hb
    have key : (if strOk x b then keysP ks (some x) (b + x.size) else none) = some r ↔ keyOk x = true ∧ keysOk (some x) ks = true ∧ b + kb (x :: ks) ≤ 65536 ∧ r = b + kb (x :: ks) := by
      by_cases hs : strOk x b = true
      · rw [if_pos hs]
        have hk : keyOk x = true := by simp [strOk] at hs; simp [keyOk, hs.1, hs.2.2]
        have hb2 : b + (x.size : Int) ≤ 65536 := by simp [strOk] at hs; omega
        rw [ih _ _ _ hb2, kb]
        constructor
        · rintro ⟨h1, h2, h3⟩; exact ⟨hk, h1, by omega, by omega⟩
        · rintro ⟨_, h1, h2, h3⟩; exact ⟨h1, by omega, by omega⟩
      · rw [if_neg hs]
        constructor
        · intro h; cases h
        · rintro ⟨h1, _, h2, _⟩
          exfalso
          apply hs
          rw [kb] at h2
          simp [keyOk] at h1
          simp [strOk, h1.1, h1.2]
          omega
    cases p with
    | none => rw [keysP, key, keysOk]; simp [and_assoc]
    | some p =>
      rw [keysP, keysOk]
      by_cases hlt : scmp p x < 0
      · rw [if_pos hlt, key]; simp [hlt, and_assoc]
      · rw [if_neg hlt]; simp [hlt]
theorem rkeys_iff (ks : List ByteArray) : ∀ (p : Option ByteArray) (b r : Int), (rkeys ks p b = some r ↔ keysOk p ks = true ∧ r = b + kb ks) := by
  induction ks with
  | nil =>
    intro p b r
    simp [rkeys, keysOk, kb]
    omega
  | cons x ks ih =>
    intro p b r
    cases p with
    | none =>
      rw [rkeys, keysOk]
      by_cases hk : keyOk x = true
      · rw [if_pos hk, ih, kb]; simp [hk]; intro _; omega
      · rw [if_neg hk]; simp [hk]
    | some p =>
      rw [rkeys, keysOk]
      by_cases hk : keyOk x = true
      · by_cases hlt : scmp p x < 0
        · rw [if_pos hk, if_pos hlt, ih, kb]; simp [hk, hlt]; intro _; omega
        · rw [if_pos hk, if_neg hlt]; simp [hlt]
      · rw [if_neg hk]; simp [hk]
mutual
def good : V → Bool
  | .mk k n s ks es => fits k n s ks.length es.length && (decide (s.size ≤ 4096) && (okS s && (decide (es.length ≤ 1024) && (keysOk none ks && goodL es))))
def goodL : List V → Bool
  | [] => true
  | e :: es => good e && goodL es
end
mutual
/-- The depth of a value. -/
def dep : V → Nat
  | .mk k _ _ _ es => if k = 5 ∨ k = 6 then depL es + 1 else 0
def depL : List V → Nat
  | [] => 0
  | e :: es => max (dep e) (depL es)
end
mutual
/-- The bytes of all strings and keys. -/
def vbyt : V → Nat
  | .mk _ _ s ks es => s.size + kb ks + vbytL es
def vbytL : List V → Nat
  | [] => 0
  | e :: es => vbyt e + vbytL es
end
theorem fits_facts {k n : Int} {s : ByteArray} {nk ne : Nat} (h : fits k n s nk ne = true) : (0 ≤ k ∧ k ≤ 6) ∧ (k = 5 ∨ k = 6 ∨ (nk = 0 ∧ ne = 0)) ∧ (k = 5 → nk = 0) ∧ (k = 6 → nk = ne) := by
  unfold fits at h
  generalize s.size = z at h
  (repeat' split at h) <;> simp at h <;> omega
theorem fits_fit1 (k n lv : Int) (s : ByteArray) (nk ne : Nat) : (fits k n s nk ne = true ∧ s.size ≤ 4096 ∧ okS s = true ∧ ne ≤ 1024 ∧ (5 ≤ k → lv < 32)) ↔ (fit1 k n s nk ne = true ∧ fit2 k lv s nk ne = true) := by
  have h2 : (fit2 k lv s nk ne = true) ↔ s.size ≤ 4096 ∧ okS s = true ∧ ne ≤ 1024 ∧ (¬ k = 6 ∨ nk = ne) ∧ (¬ 5 ≤ k ∨ lv < 32) := by simp [fit2]
  have h0 : (fits k n s nk ne = true) ↔ fit1 k n s nk ne = true ∧ (¬ k = 6 ∨ nk = ne) := by
    rw [fit1_iff_true]
    unfold fits
    generalize s.size = z
    by_cases a0 : k = 0 ∨ k = 1 ∨ k = 2
    · rw [if_pos a0]; simp; omega
    · rw [if_neg a0]
      by_cases a3 : k = 3
      · rw [if_pos a3]; simp; omega
      · rw [if_neg a3]
        by_cases a4 : k = 4
        · rw [if_pos a4]; simp; omega
        · rw [if_neg a4]
          by_cases a5 : k = 5
          · rw [if_pos a5]; simp; omega
          · rw [if_neg a5]
            by_cases a6 : k = 6
            · rw [if_pos a6]; simp; omega
            · rw [if_neg a6]; simp; omega
  rw [h0, h2]
  constructor
  · rintro ⟨⟨a, b⟩, c, d, e, f⟩
    refine ⟨a, c, d, e, b, ?_⟩
    by_cases h5 : 5 ≤ k
    · exact .inr (f h5)
    · exact .inl h5
  · rintro ⟨a, c, d, e, b, f⟩
    exact ⟨⟨a, b⟩, c, d, e, fun h5 => by omega⟩
theorem addP_iff : ∀ v : V, ∀ lv d m b d' m' b' : Int, 0 ≤ lv → lv ≤ 32 → lv ≤ d → m ≤ 4096 → b ≤ 65536 →
    (addP v lv d m b = some (d', m', b') ↔ good v = true ∧ lv + dep v ≤ 32 ∧ m + v.sz ≤ 4096 ∧ b + vbyt v ≤ 65536 ∧ d' = max d (lv + dep v) ∧ m' = m + v.sz ∧ b' = b + vbyt v) := by
  refine V.ind fun k n s ks es ih lv d m b d' m' b' l0 l1 ld hm hb => ?_
  have key : ∀ fs : List V, (∀ e ∈ fs, e ∈ es) → ∀ lv d m b : Int, 0 ≤ lv → lv ≤ 32 → lv ≤ d → m ≤ 4096 → b ≤ 65536 →
      (addL fs lv d m b = some (d', m', b') ↔ goodL fs = true ∧ lv + depL fs ≤ 32 ∧ m + V.szL fs ≤ 4096 ∧ b + vbytL fs ≤ 65536 ∧ d' = max d (lv + depL fs) ∧ m' = m + V.szL fs ∧ b' = b + vbytL fs) := by
    intro fs
    induction fs with
    | nil =>
      intro _ lv d m b l0 l1 ld hm hb
      simp only [addL, goodL, depL, V.szL, vbytL, Option.some.injEq, Prod.mk.injEq, true_and]
      omega
    | cons e fs ihf =>
      intro hin lv d m b l0 l1 ld hm hb
      have he := ih e (hin e (by simp)) lv d m b
      rw [addL, goodL, depL, V.szL, vbytL]
      cases ha : addP e lv d m b with
      | none =>
        simp only [Bool.and_eq_true]
        constructor
        · intro h; cases h
        · rintro ⟨⟨g1, g2⟩, h1, h2, h3, _⟩
          have := (he (max d (lv + dep e)) (m + e.sz) (b + vbyt e) l0 l1 ld hm hb).2 ⟨g1, by omega, by omega, by omega, rfl, rfl, rfl⟩
          rw [ha] at this
          cases this
      | some q =>
        obtain ⟨d2, m2, b2⟩ := q
        obtain ⟨g1, x1, x2, x3, rfl, rfl, rfl⟩ := (he d2 m2 b2 l0 l1 ld hm hb).1 ha
        simp only [Bool.and_eq_true]
        rw [ihf (fun x hx => hin x (by simp [hx])) lv _ _ _ l0 l1 (by omega) (by omega) (by omega)]
        constructor
        · rintro ⟨g2, y1, y2, y3, y4, y5, y6⟩
          exact ⟨⟨g1, g2⟩, by omega, by omega, by omega, by omega, by omega, by omega⟩
        · rintro ⟨⟨_, g2⟩, y1, y2, y3, y4, y5, y6⟩
          exact ⟨g2, by omega, by omega, by omega, by omega, by omega, by omega⟩
  rw [addP, good, dep, V.sz, vbyt]
  by_cases hf : fits k n s ks.length es.length = true
  · obtain ⟨⟨k0, k6⟩, hsc, hk5, hk6⟩ := fits_facts hf
    by_cases hs : s.size ≤ 4096 ∧ okS s = true
    · by_cases hc : 4096 < m + 1 ∨ fits k n s ks.length es.length = false ∨ strOk s b = false
      · rw [if_pos hc]
        constructor
        · intro h; cases h
        · rintro ⟨_, _, h2, h3, _⟩
          exfalso
          rcases hc with hc | hc | hc
          · omega
          · rw [hf] at hc; cases hc
          · simp [strOk, hs.1, hs.2] at hc
            omega
      · rw [if_neg hc]
        have hso : strOk s b = true := by
          cases hq : strOk s b with
          | true => rfl
          | false => exact absurd (.inr (.inr hq)) hc
        have hsb : b + s.size ≤ 65536 := by simp [strOk] at hso; omega
        by_cases hk : k = 5 ∨ k = 6
        · rw [if_neg (by omega), if_pos hk]
          by_cases hl : 32 < lv + 1 ∨ 1024 < es.length
          · rw [if_pos hl]
            simp only [Bool.and_eq_true, decide_eq_true_eq]
            constructor
            · intro h; cases h
            · rintro ⟨⟨_, _, _, h4, _⟩, h5, _⟩; omega
          · rw [if_neg hl]
            cases hkk : keysP ks none (b + s.size) with
            | none =>
              simp only [Bool.and_eq_true, decide_eq_true_eq]
              constructor
              · intro h; cases h
              · rintro ⟨⟨_, _, _, _, h4, _⟩, _, _, h5, _⟩
                have := (keysP_iff ks none (b + s.size) (b + s.size + kb ks) hsb).2 ⟨h4, by omega, rfl⟩
                rw [hkk] at this
                cases this
            | some b2 =>
              obtain ⟨g, x1, rfl⟩ := (keysP_iff ks none (b + s.size) b2 hsb).1 hkk
              simp only [Bool.and_eq_true, decide_eq_true_eq]
              rw [key es (fun _ h => h) (lv + 1) _ _ _ (by omega) (by omega) (by omega) (by omega) (by omega)]
              constructor
              · rintro ⟨y0, y1, y2, y3, y4, y5, y6⟩
                exact ⟨⟨hf, hs.1, hs.2, by omega, g, y0⟩, by omega, by omega, by omega, by omega, by omega, by omega⟩
              · rintro ⟨⟨_, _, _, _, _, y0⟩, y1, y2, y3, y4, y5, y6⟩
                exact ⟨y0, by omega, by omega, by omega, by omega, by omega, by omega⟩
        · have h0 : ks.length = 0 ∧ es.length = 0 := by omega
          obtain rfl : ks = [] := List.eq_nil_of_length_eq_zero h0.1
          obtain rfl : es = [] := List.eq_nil_of_length_eq_zero h0.2
          rw [if_pos (by omega), if_neg hk]
          simp only [Bool.and_eq_true, decide_eq_true_eq, Option.some.injEq, Prod.mk.injEq, keysOk, goodL, V.szL, kb, vbytL]
          constructor
          · rintro ⟨rfl, rfl, rfl⟩
            exact ⟨⟨hf, hs.1, hs.2, by simp, trivial, trivial⟩, by omega, by omega, by omega, by omega, by omega, by omega⟩
          · rintro ⟨_, y1, y2, y3, y4, y5, y6⟩
            omega
    · have hso : strOk s b = false := by
        cases hq : strOk s b with
        | false => rfl
        | true => simp [strOk] at hq; exact absurd ⟨hq.1, hq.2.2⟩ hs
      rw [if_pos (.inr (.inr hso))]
      simp only [Bool.and_eq_true, decide_eq_true_eq]
      constructor
      · intro h; cases h
      · rintro ⟨⟨_, h1, h2, _⟩, _⟩
        exact absurd ⟨h1, h2⟩ hs
  · rw [if_pos (.inr (.inl (by simpa using hf)))]
    simp [hf]
theorem rmP_iff : ∀ v : V, ∀ lv m b : Int, 0 ≤ lv → lv ≤ 32 →
    (rmP v lv = some (m, b) ↔ good v = true ∧ lv + dep v ≤ 32 ∧ v.sz ≤ 4096 ∧ vbyt v ≤ 65536 ∧ m = v.sz ∧ b = vbyt v) := by
  refine V.ind fun k n s ks es ih lv m b l0 l1 => ?_
  have key : ∀ fs : List V, (∀ e ∈ fs, e ∈ es) → lv + 1 ≤ 32 → ∀ m0 b0 : Int, 0 ≤ m0 → 0 ≤ b0 →
      (rmL fs lv m0 b0 = some (m, b) ↔ goodL fs = true ∧ lv + 1 + depL fs ≤ 32 ∧ (fs = [] ∨ (m0 + V.szL fs ≤ 4096 ∧ b0 + vbytL fs ≤ 65536)) ∧ m = m0 + V.szL fs ∧ b = b0 + vbytL fs) := by
    intro fs
    induction fs with
    | nil =>
      intro _ hl m0 b0 _ _
      simp only [rmL, goodL, depL, V.szL, vbytL, Option.some.injEq, Prod.mk.injEq, true_and, true_or]
      omega
    | cons e fs ihf =>
      intro hin hl m0 b0 p0 p1
      have he := ih e (hin e (by simp)) (lv + 1)
      rw [rmL, goodL, depL, V.szL, vbytL]
      have hcons : ∀ P : Prop, ((e :: fs = [] ∨ P) ↔ P) := fun P => by simp
      rw [hcons]
      cases ha : rmP e (lv + 1) with
      | none =>
        simp only [Bool.and_eq_true]
        constructor
        · intro h; cases h
        · rintro ⟨⟨g1, g2⟩, h1, ⟨h2, h3⟩, _⟩
          have := (he e.sz (vbyt e) (by omega) (by omega)).2 ⟨g1, by omega, by omega, by omega, rfl, rfl⟩
          rw [ha] at this
          cases this
      | some q =>
        obtain ⟨m2, b2⟩ := q
        obtain ⟨g1, x1, x2, x3, rfl, rfl⟩ := (he m2 b2 (by omega) (by omega)).1 ha
        simp only [Bool.and_eq_true]
        by_cases hc : 4096 < m0 + (e.sz : Int) ∨ 65536 < b0 + (vbyt e : Int)
        · rw [if_pos hc]
          constructor
          · intro h; cases h
          · rintro ⟨_, _, ⟨h2, h3⟩, _⟩; omega
        · rw [if_neg hc, ihf (fun x hx => hin x (by simp [hx])) hl _ _ (by omega) (by omega)]
          constructor
          · rintro ⟨g2, y1, y2, y3, y4⟩
            refine ⟨⟨g1, g2⟩, by omega, ?_, by omega, by omega⟩
            rcases y2 with rfl | y2
            · rw [V.szL, vbytL]; omega
            · omega
          · rintro ⟨⟨_, g2⟩, y1, y2, y3, y4⟩
            exact ⟨g2, by omega, .inr (by omega), by omega, by omega⟩
  rw [rmP, good, dep, V.sz, vbyt]
  have hff := fits_fit1 k n lv s ks.length es.length
  by_cases h1 : fit1 k n s ks.length es.length = true
  · rw [if_neg (by rw [h1]; decide)]
    by_cases h2 : fit2 k lv s ks.length es.length = true
    · rw [if_neg (by rw [h2]; decide)]
      obtain ⟨hf, q1, q2, q3, q4⟩ := hff.2 ⟨h1, h2⟩
      obtain ⟨⟨k0, k6⟩, hsc, hk5, hk6⟩ := fits_facts hf
      cases hkk : rkeys ks none s.size with
      | none =>
        simp only [Bool.and_eq_true, decide_eq_true_eq]
        constructor
        · intro h; cases h
        · rintro ⟨⟨_, _, _, _, h4, _⟩, _⟩
          have := (rkeys_iff ks none s.size (s.size + kb ks)).2 ⟨h4, rfl⟩
          rw [hkk] at this
          cases this
      | some b2 =>
        obtain ⟨g, rfl⟩ := (rkeys_iff ks none s.size b2).1 hkk
        simp only [Bool.and_eq_true, decide_eq_true_eq]
        by_cases hk : k = 5 ∨ k = 6
        · rw [if_pos hk, key es (fun _ h => h) (by have := q4 (by omega); omega) _ _ (by omega) (by omega)]
          constructor
          · rintro ⟨y0, y1, y2, y3, y4⟩
            refine ⟨⟨hf, q1, q2, q3, g, y0⟩, by omega, ?_, ?_, by omega, by omega⟩
            · rcases y2 with rfl | y2
              · rw [V.szL]; omega
              · omega
            · rcases y2 with rfl | y2
              · have h0 : ks.length = 0 := by
                  rcases hk with hk | hk
                  · exact hk5 hk
                  · have := hk6 hk; simpa using this
                obtain rfl : ks = [] := List.eq_nil_of_length_eq_zero h0
                rw [vbytL, kb]; omega
              · omega
          · rintro ⟨⟨_, _, _, _, _, y0⟩, y1, y2, y3, y4, y5⟩
            exact ⟨y0, by omega, .inr (by omega), by omega, by omega⟩
        · have h0 : ks.length = 0 ∧ es.length = 0 := by omega
          obtain rfl : ks = [] := List.eq_nil_of_length_eq_zero h0.1
          obtain rfl : es = [] := List.eq_nil_of_length_eq_zero h0.2
          rw [if_neg hk, rmL]
          simp only [Option.some.injEq, Prod.mk.injEq, keysOk, goodL, V.szL, kb, vbytL]
          constructor
          · rintro ⟨rfl, rfl⟩
            exact ⟨⟨hf, q1, q2, q3, trivial, trivial⟩, by omega, by omega, by omega, by omega, by omega⟩
          · rintro ⟨_, y1, y2, y3, y4, y5⟩
            omega
    · rw [if_pos (by simpa using h2)]
      simp only [Bool.and_eq_true, decide_eq_true_eq]
      constructor
      · intro h; cases h
      · rintro ⟨⟨f1, f2, f3, f4, _⟩, h3, _⟩
        refine absurd (hff.1 ⟨f1, f2, f3, f4, fun h5 => ?_⟩).2 h2
        have := (fits_facts f1).1
        rw [if_pos (by omega)] at h3
        omega
  · rw [if_pos (by simpa using h1)]
    simp only [Bool.and_eq_true, decide_eq_true_eq]
    constructor
    · intro h; cases h
    · rintro ⟨⟨f1, f2, f3, f4, _⟩, h3, _⟩
      refine absurd (hff.1 ⟨f1, f2, f3, f4, fun h5 => ?_⟩).1 h1
      have := (fits_facts f1).1
      rw [if_pos (by omega)] at h3
      omega
end Go.Proofs.YtacnpligpbiamaaDoor
namespace Go.Proofs.YtacnpligpbiamaaDoor
/-- One written byte read back. -/
def unhx (b : UInt8) : Nat := if b.toNat < 58 then b.toNat - 48 else b.toNat - 87
def unq : List UInt8 → Option (UInt8 × List UInt8)
  | [] => none
  | c :: t => if c.toNat ≠ 92 then some (c, t) else match t with
    | [] => none
    | d :: u => if d.toNat = 98 then some (8, u) else if d.toNat = 116 then some (9, u) else if d.toNat = 110 then some (10, u) else if d.toNat = 102 then some (12, u)
      else if d.toNat = 114 then some (13, u) else if d.toNat = 117 then (match u with
        | _ :: _ :: x :: y :: r => some (UInt8.ofNat (unhx x * 16 + unhx y), r)
        | _ => none) else some (d, u)
theorem u8_of {c : UInt8} {n : Nat} (h : c.toNat = n) : c = UInt8.ofNat n := by subst h; simp
theorem unhx_hx {n : Nat} (h : n < 16) : unhx (hx n) = n := by
  unfold hx unhx
  by_cases h10 : n < 10
  · rw [if_pos h10, toNat_ofNat (by omega), if_pos (by omega)]; omega
  · rw [if_neg h10, toNat_ofNat (by omega), if_neg (by omega)]; omega
theorem unq_qb (c : UInt8) (t : List UInt8) : unq (qb c ++ t) = some (c, t) := by
  have hc := c.toNat_lt
  unfold qb
  by_cases h1 : c.toNat = 34 ∨ c.toNat = 92
  · rw [if_pos h1]
    rcases h1 with h1 | h1
    · rw [u8_of h1]; rfl
    · rw [u8_of h1]; rfl
  rw [if_neg h1]
  by_cases h2 : c.toNat = 8
  · rw [if_pos h2, u8_of h2]; rfl
  rw [if_neg h2]
  by_cases h3 : c.toNat = 9
  · rw [if_pos h3, u8_of h3]; rfl
  rw [if_neg h3]
  by_cases h4 : c.toNat = 10
  · rw [if_pos h4, u8_of h4]; rfl
  rw [if_neg h4]
  by_cases h5 : c.toNat = 12
  · rw [if_pos h5, u8_of h5]; rfl
  rw [if_neg h5]
  by_cases h6 : c.toNat = 13
  · rw [if_pos h6, u8_of h6]; rfl
  rw [if_neg h6]
  by_cases h7 : c.toNat < 32
  · rw [if_pos h7]
    have e : unq ([92, 117, 48, 48, hx (c.toNat / 16), hx (c.toNat % 16)] ++ t) = some (UInt8.ofNat (unhx (hx (c.toNat / 16)) * 16 + unhx (hx (c.toNat % 16))), t) := rfl
    rw [e, unhx_hx (by omega), unhx_hx (by omega)]
    have e2 : c.toNat / 16 * 16 + c.toNat % 16 = c.toNat := by omega
    rw [e2]
    simp
  · rw [if_neg h7]
    show unq (c :: t) = _
    unfold unq
    exact if_pos (by omega)
theorem qb_head (c : UInt8) : ∃ b t, qb c = b :: t ∧ b.toNat ≠ 34 := by
  unfold qb
  (repeat' split) <;> first
    | exact ⟨_, _, rfl, by decide⟩
    | exact ⟨_, _, rfl, by omega⟩
theorem qbs_inj : ∀ (l m : List UInt8) (r1 r2 : List UInt8), qbs l ++ 34 :: r1 = qbs m ++ 34 :: r2 → l = m ∧ r1 = r2
  | [], [], r1, r2, h => ⟨rfl, by simpa [qbs_nil] using h⟩
  | [], c :: m, r1, r2, h => by
    obtain ⟨b, t, hb, hne⟩ := qb_head c
    rw [qbs_nil, qbs_cons, hb] at h
    simp only [List.nil_append, List.cons_append, List.cons.injEq] at h
    exact absurd (by rw [← h.1]; rfl) hne
  | c :: l, [], r1, r2, h => by
    obtain ⟨b, t, hb, hne⟩ := qb_head c
    rw [qbs_nil, qbs_cons, hb] at h
    simp only [List.nil_append, List.cons_append, List.cons.injEq] at h
    exact absurd (by rw [h.1]; rfl) hne
  | c :: l, d :: m, r1, r2, h => by
    rw [qbs_cons, qbs_cons, List.append_assoc, List.append_assoc] at h
    have h1 := unq_qb c (qbs l ++ 34 :: r1)
    rw [h, unq_qb d] at h1
    injection h1 with h1
    injection h1 with h1 h2
    obtain ⟨h3, h4⟩ := qbs_inj l m r1 r2 h2.symm
    exact ⟨by rw [h1, h3], h4⟩
theorem qt_inj {l m r1 r2 : List UInt8} (h : qt l ++ r1 = qt m ++ r2) : l = m ∧ r1 = r2 := by
  unfold qt at h
  simp only [List.cons_append, List.append_assoc, List.cons.injEq, true_and, List.nil_append] at h
  exact qbs_inj l m r1 r2 h
/-- What may stand behind a value. -/
def Dl (r : List UInt8) : Prop := ∀ b, r.head? = some b → b.toNat = 44 ∨ b.toNat = 93 ∨ b.toNat = 125
theorem Dl.nil : Dl [] := fun b h => by cases h
theorem Dl.cons {b : UInt8} {t : List UInt8} (h : b.toNat = 44 ∨ b.toNat = 93 ∨ b.toNat = 125) : Dl (b :: t) := fun c hc => by
  simp only [List.head?_cons, Option.some.injEq] at hc
  rw [← hc]; exact h
theorem Dl.dig {r : List UInt8} (h : Dl r) : ∀ b, r.head? = some b → digB b = false := fun b hb => by
  have := h b hb
  unfold digB
  simp; omega
theorem magL_inj {v u : Nat} {r1 r2 : List UInt8} (h1 : Dl r1) (h2 : Dl r2) (h : magL v ++ r1 = magL u ++ r2) : v = u ∧ r1 = r2 := by
  obtain ⟨a1, a2, a3, a4⟩ := magL_spec v
  obtain ⟨b1, b2, b3, b4⟩ := magL_spec u
  have e1 := span_whole (p := digB) (magL v) r1 a1 h1.dig
  have e2 := span_whole (p := digB) (magL u) r2 b1 h2.dig
  rw [h, e2] at e1
  refine ⟨by rw [← a2, ← b2, e1], ?_⟩
  rw [e1] at h
  exact List.append_cancel_left h
theorem magL_head (v : Nat) : ∃ b t, magL v = b :: t ∧ 48 ≤ b.toNat ∧ b.toNat ≤ 57 := by
  obtain ⟨a1, a2, a3, a4⟩ := magL_spec v
  cases h : magL v with
  | nil => rw [h] at a3; simp at a3
  | cons b t =>
    have := a1 b (by rw [h]; simp)
    unfold digB at this
    simp at this
    exact ⟨b, t, rfl, this⟩
theorem numL_head (n : Int) : ∃ b t, numL n = b :: t ∧ (b.toNat = 45 ∨ 48 ≤ b.toNat ∧ b.toNat ≤ 57) := by
  unfold numL
  split
  · exact ⟨45, _, rfl, .inl rfl⟩
  · obtain ⟨b, t, h, h2⟩ := magL_head n.natAbs
    exact ⟨b, t, h, .inr h2⟩
theorem numL_inj {v u : Int} {r1 r2 : List UInt8} (h1 : Dl r1) (h2 : Dl r2) (h : numL v ++ r1 = numL u ++ r2) : v = u ∧ r1 = r2 := by
  unfold numL at h
  by_cases hv : v < 0
  · by_cases hu : u < 0
    · rw [if_pos hv, if_pos hu] at h
      simp only [List.cons_append, List.cons.injEq, true_and] at h
      obtain ⟨h3, h4⟩ := magL_inj h1 h2 h
      exact ⟨by omega, h4⟩
    · rw [if_pos hv, if_neg hu] at h
      obtain ⟨b, t, h3, h4⟩ := magL_head u.natAbs
      rw [h3] at h
      simp only [List.cons_append, List.cons.injEq] at h
      rw [← h.1] at h4
      exact absurd h4.1 (by decide)
  · by_cases hu : u < 0
    · rw [if_neg hv, if_pos hu] at h
      obtain ⟨b, t, h3, h4⟩ := magL_head v.natAbs
      rw [h3] at h
      simp only [List.cons_append, List.cons.injEq] at h
      rw [h.1] at h4
      exact absurd h4.1 (by decide)
    · rw [if_neg hv, if_neg hu] at h
      obtain ⟨h3, h4⟩ := magL_inj h1 h2 h
      exact ⟨by omega, h4⟩
/-- Lists of pieces, each of which is read back. -/
def Back {α : Type} (f : α → List UInt8) (a : α) (p : α → Prop) : Prop := ∀ b, p b → ∀ r1 r2, Dl r1 → Dl r2 → f a ++ r1 = f b ++ r2 → a = b ∧ r1 = r2
theorem rest_inj {α : Type} {f : α → List UInt8} {p : α → Prop} {c : UInt8} (hc : c.toNat = 93 ∨ c.toNat = 125) : ∀ (l m : List α) (r1 r2 : List UInt8), (∀ a ∈ l, Back f a p) → (∀ b ∈ m, p b) →
    (l.map f).flatMap (44 :: ·) ++ c :: r1 = (m.map f).flatMap (44 :: ·) ++ c :: r2 → l = m ∧ r1 = r2
  | [], [], r1, r2, _, _, h => ⟨rfl, by simpa using h⟩
  | [], b :: m, r1, r2, _, _, h => by
    simp only [List.map_nil, List.flatMap_nil, List.nil_append, List.map_cons, List.flatMap_cons, List.cons_append, List.cons.injEq] at h
    have h2 := h.1
    rw [h2] at hc
    exact absurd hc (by decide)
  | a :: l, [], r1, r2, _, _, h => by
    simp only [List.map_nil, List.flatMap_nil, List.nil_append, List.map_cons, List.flatMap_cons, List.cons_append, List.cons.injEq] at h
    have h2 := h.1
    rw [← h2] at hc
    exact absurd hc (by decide)
  | a :: l, b :: m, r1, r2, ha, hb, h => by
    simp only [List.map_cons, List.flatMap_cons, List.cons_append, List.cons.injEq, true_and, List.append_assoc] at h
    have hd : ∀ (k : List α) (r : List UInt8), Dl ((k.map f).flatMap (44 :: ·) ++ c :: r) := fun k r => by
      cases k with
      | nil => exact Dl.cons (by rcases hc with hc | hc <;> simp [hc])
      | cons x k => exact Dl.cons (.inl rfl)
    obtain ⟨h1, h2⟩ := ha a (by simp) b (hb b (by simp)) _ _ (hd l r1) (hd m r2) h
    obtain ⟨h3, h4⟩ := rest_inj hc l m r1 r2 (fun x hx => ha x (by simp [hx])) (fun x hx => hb x (by simp [hx])) h2
    exact ⟨by rw [h1, h3], h4⟩
theorem commas_inj {α : Type} {f : α → List UInt8} {p : α → Prop} {c : UInt8} (hc : c.toNat = 93 ∨ c.toNat = 125) (hf : ∀ a, ∃ b t, f a = b :: t ∧ b.toNat ≠ 93 ∧ b.toNat ≠ 125) (l m : List α) (r1 r2 : List UInt8)
    (hl : ∀ a ∈ l, Back f a p) (hm : ∀ b ∈ m, p b) (h : commas (l.map f) ++ c :: r1 = commas (m.map f) ++ c :: r2) : l = m ∧ r1 = r2 := by
  have hd : ∀ (k : List α) (r : List UInt8), Dl ((k.map f).flatMap (44 :: ·) ++ c :: r) := fun k r => by
    cases k with
    | nil => exact Dl.cons (by rcases hc with hc | hc <;> simp [hc])
    | cons x k => exact Dl.cons (.inl rfl)
  cases l with
  | nil =>
    cases m with
    | nil => exact ⟨rfl, by simpa [commas] using h⟩
    | cons b m =>
      obtain ⟨x, t, h1, h2⟩ := hf b
      simp only [List.map_nil, commas, List.nil_append, List.map_cons, h1, List.cons_append, List.cons.injEq] at h
      rw [← h.1] at h2
      omega
  | cons a l =>
    cases m with
    | nil =>
      obtain ⟨x, t, h1, h2⟩ := hf a
      simp only [List.map_nil, commas, List.nil_append, List.map_cons, h1, List.cons_append, List.cons.injEq] at h
      rw [h.1] at h2
      omega
    | cons b m =>
      simp only [List.map_cons, commas, List.append_assoc] at h
      obtain ⟨h1, h2⟩ := hl a (by simp) b (hm b (by simp)) _ _ (hd l r1) (hd m r2) h
      obtain ⟨h3, h4⟩ := rest_inj hc l m r1 r2 (fun x hx => hl x (by simp [hx])) (fun x hx => hm x (by simp [hx])) h2
      exact ⟨by rw [h1, h3], h4⟩
theorem wr_head (v : V) : ∃ b t, wr v = b :: t ∧ b.toNat ≠ 93 ∧ b.toNat ≠ 125 := by
  obtain ⟨k, n, s, ks, es⟩ := v
  rw [wr]
  (repeat' split) <;> first
    | exact ⟨_, _, rfl, by decide, by decide⟩
    | (obtain ⟨b, t, h, h2⟩ := numL_head n; exact ⟨b, t, h, by omega, by omega⟩)
theorem good_parts {k n : Int} {s : ByteArray} {ks : List ByteArray} {es : List V} (h : good (.mk k n s ks es) = true) : fits k n s ks.length es.length = true ∧ goodL es = true := by
  rw [good] at h
  simp only [Bool.and_eq_true] at h
  exact ⟨h.1, h.2.2.2.2.2⟩
theorem goodL_memW {e : V} {es : List V} (h : goodL es = true) (he : e ∈ es) : good e = true := by
  induction es with
  | nil => cases he
  | cons x es ih =>
    rw [goodL, Bool.and_eq_true] at h
    rcases List.mem_cons.1 he with rfl | he
    · exact h.1
    · exact ih h.2 he
theorem str_nil {s : ByteArray} (h : s.size = 0) : s = ⟨#[]⟩ := by
  cases s with
  | mk d => congr 1; exact Array.eq_empty_of_size_eq_zero h
/-- What a valid value is, kind by kind. -/
theorem fits_kind {k n : Int} {s : ByteArray} {nk ne : Nat} (h : fits k n s nk ne = true) :
    ((k = 0 ∨ k = 1 ∨ k = 2) ∧ n = 0 ∧ s.size = 0 ∧ nk = 0 ∧ ne = 0) ∨ (k = 3 ∧ s.size = 0 ∧ nk = 0 ∧ ne = 0) ∨ (k = 4 ∧ n = 0 ∧ nk = 0 ∧ ne = 0) ∨ (k = 5 ∧ n = 0 ∧ s.size = 0 ∧ nk = 0) ∨ (k = 6 ∧ n = 0 ∧ s.size = 0 ∧ nk = ne) := by
  unfold fits at h
  generalize s.size = z at h ⊢
  (repeat' split at h) <;> simp at h <;> omega
theorem nil_of {α : Type} {l : List α} (h : l.length = 0) : l = [] := List.eq_nil_of_length_eq_zero h
/-- The first byte tells the kind. -/
def tagB (b : Nat) : Int := if b = 110 then 0 else if b = 102 then 1 else if b = 116 then 2 else if b = 34 then 4 else if b = 91 then 5 else if b = 123 then 6 else 3
theorem wr_tag {k n : Int} {s : ByteArray} {ks : List ByteArray} {es : List V} (h : 0 ≤ k ∧ k ≤ 6) : ∃ b t, wr (.mk k n s ks es) = b :: t ∧ tagB b.toNat = k := by
  have h0 : k = 0 ∨ k = 1 ∨ k = 2 ∨ k = 3 ∨ k = 4 ∨ k = 5 ∨ k = 6 := by omega
  rcases h0 with rfl | rfl | rfl | rfl | rfl | rfl | rfl
  · exact ⟨110, _, wr_null (by decide) (by decide) (by decide) (by decide) (by decide) (by decide), rfl⟩
  · exact ⟨102, _, wr_false _ _ _ _, rfl⟩
  · exact ⟨116, _, wr_true _ _ _ _, rfl⟩
  · obtain ⟨b, t, h1, h2⟩ := numL_head n
    refine ⟨b, t, by rw [wr_num, h1], ?_⟩
    unfold tagB
    rw [if_neg (by omega), if_neg (by omega), if_neg (by omega), if_neg (by omega), if_neg (by omega), if_neg (by omega)]
  · exact ⟨34, _, wr_str _ _ _ _, rfl⟩
  · exact ⟨91, _, wr_arr _ _ _ _, rfl⟩
  · exact ⟨123, _, wr_obj _ _ _ _, rfl⟩
theorem zip_fst {α β : Type} : ∀ (l : List α) (m : List β), l.length = m.length → (l.zip m).map Prod.fst = l ∧ (l.zip m).map Prod.snd = m
  | [], [], _ => ⟨rfl, rfl⟩
  | [], b :: m, h => by simp at h
  | a :: l, [], h => by simp at h
  | a :: l, b :: m, h => by
    obtain ⟨h1, h2⟩ := zip_fst l m (by simpa using h)
    simp [h1, h2]
theorem mems_map (ks : List ByteArray) (es : List V) : mems ks es = (ks.zip es).map (fun x => mem x.1.data.toList (wr x.2)) := by
  unfold mems
  rw [wrM_eq]
  induction ks generalizing es with
  | nil => rfl
  | cons k ks ih =>
    cases es with
    | nil => rfl
    | cons e es => simp [ih]
theorem wr_back : ∀ a : V, good a = true → Back wr a (fun b => good b = true) := by
  refine V.ind fun k n s ks es ih hg => ?_
  rintro ⟨k', n', s', ks', es'⟩ hg' r1 r2 d1 d2 h
  obtain ⟨hf, hL⟩ := good_parts hg
  obtain ⟨hf', hL'⟩ := good_parts hg'
  have hk : k = k' := by
    obtain ⟨b, t, h1, h2⟩ := wr_tag (n := n) (s := s) (ks := ks) (es := es) (fits_facts hf).1
    obtain ⟨b', t', h1', h2'⟩ := wr_tag (n := n') (s := s') (ks := ks') (es := es') (fits_facts hf').1
    rw [h1, h1'] at h
    simp only [List.cons_append, List.cons.injEq] at h
    rw [← h2, ← h2', h.1]
  subst hk
  have hIH : ∀ e ∈ es, Back wr e (fun b => good b = true) := fun e he => ih e he (goodL_memW hL he)
  rcases fits_kind hf with ⟨hk, rfl, c, d, e⟩ | ⟨rfl, c, d, e⟩ | ⟨rfl, rfl, d, e⟩ | ⟨rfl, rfl, c, d⟩ | ⟨rfl, rfl, c, d⟩
  · rcases fits_kind hf' with ⟨_, rfl, c', d', e'⟩ | h' | h' | h' | h'
    · obtain rfl := str_nil c; obtain rfl := str_nil c'; obtain rfl := nil_of d; obtain rfl := nil_of d'; obtain rfl := nil_of e; obtain rfl := nil_of e'
      exact ⟨rfl, List.append_cancel_left h⟩
    all_goals omega
  · rcases fits_kind hf' with h' | ⟨_, c', d', e'⟩ | h' | h' | h'
    · omega
    · obtain rfl := str_nil c; obtain rfl := str_nil c'; obtain rfl := nil_of d; obtain rfl := nil_of d'; obtain rfl := nil_of e; obtain rfl := nil_of e'
      rw [wr_num, wr_num] at h
      obtain ⟨rfl, h2⟩ := numL_inj d1 d2 h
      exact ⟨rfl, h2⟩
    all_goals omega
  · rcases fits_kind hf' with h' | h' | ⟨_, rfl, d', e'⟩ | h' | h'
    · omega
    · omega
    · obtain rfl := nil_of d; obtain rfl := nil_of d'; obtain rfl := nil_of e; obtain rfl := nil_of e'
      rw [wr_str, wr_str] at h
      obtain ⟨h1, h2⟩ := qt_inj h
      refine ⟨?_, h2⟩
      have e : s = s' := by
        cases s; cases s'; congr 1
        exact Array.toList_inj.1 h1
      rw [e]
    all_goals omega
  · rcases fits_kind hf' with h' | h' | h' | ⟨_, rfl, c', d'⟩ | h'
    · omega
    · omega
    · omega
    · obtain rfl := str_nil c; obtain rfl := str_nil c'; obtain rfl := nil_of d; obtain rfl := nil_of d'
      rw [wr_arr, wr_arr, wrM_eq, wrM_eq] at h
      simp only [List.cons_append, List.cons.injEq, true_and, List.append_assoc, List.nil_append] at h
      obtain ⟨rfl, h2⟩ := commas_inj (.inl rfl) wr_head es es' r1 r2 hIH (fun e he => goodL_memW hL' he) h
      exact ⟨rfl, h2⟩
    · omega
  · rcases fits_kind hf' with h' | h' | h' | h' | ⟨_, rfl, c', d'⟩
    · omega
    · omega
    · omega
    · omega
    · obtain rfl := str_nil c; obtain rfl := str_nil c'
      rw [wr_obj, wr_obj, mems_map, mems_map] at h
      simp only [List.cons_append, List.cons.injEq, true_and, List.append_assoc, List.nil_append] at h
      have hB : ∀ x ∈ ks.zip es, Back (fun x : ByteArray × V => mem x.1.data.toList (wr x.2)) x (fun y => good y.2 = true) := by
        intro x hx y hy r1 r2 e1 e2 he
        unfold mem at he
        rw [List.append_assoc, List.append_assoc] at he
        obtain ⟨h1, h2⟩ := qt_inj he
        simp only [List.cons_append, List.cons.injEq, true_and] at h2
        obtain ⟨h3, h4⟩ := hIH x.2 (List.of_mem_zip hx).2 y.2 hy r1 r2 e1 e2 h2
        refine ⟨?_, h4⟩
        obtain ⟨⟨x1⟩, x2⟩ := x
        obtain ⟨⟨y1⟩, y2⟩ := y
        simp only at h1 h3
        rw [h3, Array.toList_inj.1 h1]
      obtain ⟨h1, h2⟩ := commas_inj (.inr rfl) (fun x => ⟨34, _, rfl, by decide, by decide⟩) _ _ r1 r2 hB (fun y hy => goodL_memW hL' (List.of_mem_zip hy).2) h
      obtain ⟨z1, z2⟩ := zip_fst ks es d
      obtain ⟨y1, y2⟩ := zip_fst ks' es' d'
      have e1 : ks = ks' := z1.symm.trans ((congrArg (List.map Prod.fst) h1).trans y1)
      have e2 : es = es' := z2.symm.trans ((congrArg (List.map Prod.snd) h1).trans y2)
      subst e1 e2
      exact ⟨rfl, h2⟩
theorem wr_inj {a b : V} (ha : good a = true) (hb : good b = true) (h : wr a = wr b) : a = b :=
  (wr_back a ha b hb [] [] Dl.nil Dl.nil (by rw [h])).1
theorem wr_ne (v : V) : wr v ≠ [] := by
  obtain ⟨b, t, h, _⟩ := wr_head v
  rw [h]; simp
/-- No byte below a blank. -/
theorem hx_ge {n : Nat} (h : n < 16) : 48 ≤ (hx n).toNat := by
  unfold hx
  split
  · rw [toNat_ofNat (by omega)]; omega
  · rw [toNat_ofNat (by omega)]; omega
theorem qb_ge (c : UInt8) : ∀ b ∈ qb c, 32 ≤ b.toNat := by
  have hc := c.toNat_lt
  unfold qb
  intro b hb
  (repeat' split at hb) <;> simp only [List.mem_cons, List.not_mem_nil, or_false] at hb
  · rcases hb with rfl | rfl
    · decide
    · omega
  · rcases hb with rfl | rfl <;> decide
  · rcases hb with rfl | rfl <;> decide
  · rcases hb with rfl | rfl <;> decide
  · rcases hb with rfl | rfl <;> decide
  · rcases hb with rfl | rfl <;> decide
  · rcases hb with rfl | rfl | rfl | rfl | rfl | rfl
    · decide
    · decide
    · decide
    · decide
    · have := hx_ge (n := c.toNat / 16) (by omega); omega
    · have := hx_ge (n := c.toNat % 16) (by omega); omega
  · rw [hb]; omega
theorem qt_ge (l : List UInt8) : ∀ b ∈ qt l, 32 ≤ b.toNat := by
  unfold qt qbs
  intro b hb
  simp only [List.mem_cons, List.mem_append, List.mem_flatMap, List.not_mem_nil, or_false] at hb
  rcases hb with rfl | ⟨c, -, hc⟩ | rfl
  · decide
  · exact qb_ge c b hc
  · decide
theorem numL_ge (n : Int) : ∀ b ∈ numL n, 32 ≤ b.toNat := by
  obtain ⟨a1, -, -, -⟩ := magL_spec n.natAbs
  have h : ∀ b ∈ magL n.natAbs, 32 ≤ b.toNat := fun b hb => by
    have := a1 b hb
    unfold digB at this
    simp at this
    omega
  unfold numL
  intro b hb
  split at hb
  · rcases List.mem_cons.1 hb with rfl | hb
    · decide
    · exact h b hb
  · exact h b hb
theorem commas_ge {l : List (List UInt8)} (h : ∀ x ∈ l, ∀ b ∈ x, 32 ≤ b.toNat) : ∀ b ∈ commas l, 32 ≤ b.toNat := by
  intro b hb
  cases l with
  | nil => cases hb
  | cons x r =>
    rw [commas] at hb
    simp only [List.mem_append, List.mem_flatMap, List.mem_cons] at hb
    rcases hb with hb | ⟨y, hy, rfl | hb⟩
    · exact h x (by simp) b hb
    · decide
    · exact h y (by simp [hy]) b hb
theorem wr_ge : ∀ v : V, ∀ b ∈ wr v, 32 ≤ b.toNat := by
  refine V.ind fun k n s ks es ih b hb => ?_
  rw [wr] at hb
  (repeat' split at hb)
  · simp only [List.mem_cons, List.not_mem_nil, or_false] at hb; rcases hb with rfl | rfl | rfl | rfl | rfl <;> decide
  · simp only [List.mem_cons, List.not_mem_nil, or_false] at hb; rcases hb with rfl | rfl | rfl | rfl <;> decide
  · exact numL_ge n b hb
  · exact qt_ge _ b hb
  · simp only [List.mem_cons, List.mem_append, List.not_mem_nil, or_false] at hb
    rcases hb with rfl | hb | rfl
    · decide
    · refine commas_ge (fun x hx => ?_) b hb
      rw [wrM_eq] at hx
      obtain ⟨e, he, rfl⟩ := List.mem_map.1 hx
      exact ih e he
    · decide
  · simp only [List.mem_cons, List.mem_append, List.not_mem_nil, or_false] at hb
    rcases hb with rfl | hb | rfl
    · decide
    · refine commas_ge (fun x hx => ?_) b hb
      have hx2 : x ∈ mems ks es := hx
      rw [mems_map] at hx2
      obtain ⟨⟨y, e⟩, he, rfl⟩ := List.mem_map.1 hx2
      intro b hb
      unfold mem at hb
      simp only [List.mem_append, List.mem_cons] at hb
      rcases hb with hb | rfl | hb
      · exact qt_ge _ b hb
      · decide
      · exact ih e (List.of_mem_zip he).2 b hb
    · decide
  · simp only [List.mem_cons, List.not_mem_nil, or_false] at hb; rcases hb with rfl | rfl | rfl | rfl <;> decide
end Go.Proofs.YtacnpligpbiamaaDoor
