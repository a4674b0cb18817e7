/- Objects as lists of members: what is found at a key, what Put leaves, and that both ways of building an object agree; plain. -/
import Derived.Test.YtgdnkankleoaoaaObjP
import Derived.Test.YtgdnkankleoaoaaAgree2
set_option linter.unusedVariables false
set_option linter.unusedSimpArgs false
namespace Go.Proofs.Ytgdnkankleoaoaa
open Go.RowKit Go.Sort
/-- The offset of the first key that is the one that is sought. -/
def idxOf : List ByteArray → ByteArray → Option Nat
  | [], _ => none
  | x :: r, k => if x = k then some 0 else (idxOf r k).map (· + 1)
theorem idxOf_some : ∀ {ks : List ByteArray} {k : ByteArray} {i : Nat}, idxOf ks k = some i → ks[i]? = some k ∧ ∀ j, j < i → ks[j]? ≠ some k
  | [], k, i, h => by simp [idxOf] at h
  | x :: r, k, i, h => by
    rw [idxOf] at h
    by_cases hx : x = k
    · rw [if_pos hx] at h
      injection h with h
      subst h; subst hx
      exact ⟨rfl, fun j hj => by omega⟩
    · rw [if_neg hx] at h
      cases hr : idxOf r k with
      | none => rw [hr] at h; simp at h
      | some j =>
        rw [hr] at h
        simp at h
        subst h
        obtain ⟨h1, h2⟩ := idxOf_some hr
        refine ⟨by simpa using h1, fun q hq => ?_⟩
        cases q with
        | zero => simp; exact hx
        | succ q => simpa using h2 q (by omega)
theorem idxOf_drop {ks : List ByteArray} {k : ByteArray} {i : Nat} (h : ∀ j, j < i → ks[j]? ≠ some k) : idxOf ks k = (idxOf (ks.drop i) k).map (· + i) := by
  induction i generalizing ks with
  | zero => simp
  | succ i ih =>
    cases ks with
    | nil => simp [idxOf]
    | cons x r =>
      have hx : ¬ x = k := by simpa using h 0 (by omega)
      rw [idxOf, if_neg hx, List.drop_succ_cons, ih (ks := r) (fun j hj => by simpa using h (j + 1) (by omega)), Option.map_map]
      congr 1
theorem idxOf_hit {ks : List ByteArray} {k : ByteArray} {i : Nat} (h : ∀ j, j < i → ks[j]? ≠ some k) (hi : ks[i]? = some k) : idxOf ks k = some i := by
  obtain ⟨h1, h2⟩ := List.getElem?_eq_some_iff.1 hi
  rw [idxOf_drop h, List.drop_eq_getElem_cons h1, idxOf, if_pos h2]
  simp
theorem idxOf_miss {ks : List ByteArray} {k : ByteArray} (h : ∀ j : Nat, ks[j]? ≠ some k) : idxOf ks k = none := by
  cases hx : idxOf ks k with
  | none => rfl
  | some i => exact absurd (idxOf_some hx).1 (h i)
/-- Strictly ascending keys. -/
def Asc (ks : List ByteArray) : Prop := ks.Pairwise fun x y => scmp x y < 0
theorem asc_of_ok : ∀ {ks : List ByteArray} {p : Option ByteArray}, keysOk p ks = true → Asc ks ∧ ∀ q, p = some q → ∀ x ∈ ks, scmp q x < 0
  | [], p, h => ⟨List.Pairwise.nil, fun q _ x hx => by simp at hx⟩
  | x :: r, p, h => by
    have hr : keysOk (some x) r = true := by
      cases p with
      | none => rw [keysOk] at h; simp at h; exact h.2
      | some q => rw [keysOk] at h; simp at h; exact h.2.2
    obtain ⟨h1, h2⟩ := asc_of_ok hr
    refine ⟨List.Pairwise.cons (h2 x rfl) h1, ?_⟩
    rintro q rfl y hy
    rw [keysOk] at h
    simp at h
    rcases List.mem_cons.1 hy with rfl | hy
    · exact h.2.1
    · exact scmp_lt h.2.1 (h2 x rfl y hy)
theorem split_asc {key : ByteArray} : ∀ {ks : List ByteArray}, Asc ks → ∃ m, m ≤ ks.length ∧ (∀ (t : Nat) x, ks[t]? = some x → t < m → scmp x key < 0) ∧ (∀ (t : Nat) x, ks[t]? = some x → m ≤ t → ¬ scmp x key < 0)
  | [], _ => ⟨0, Nat.zero_le _, fun t x h => by simp at h, fun t x h => by simp at h⟩
  | y :: r, h => by
    obtain ⟨hy, hr⟩ := List.pairwise_cons.1 h
    obtain ⟨m, h0, h1, h2⟩ := split_asc (key := key) hr
    by_cases hk : scmp y key < 0
    · refine ⟨m + 1, by simp; omega, fun t x ht hm => ?_, fun t x ht hm => ?_⟩
      · cases t with
        | zero => simp at ht; subst ht; exact hk
        | succ t => exact h1 t x (by simpa using ht) (by omega)
      · cases t with
        | zero => omega
        | succ t => exact h2 t x (by simpa using ht) (by omega)
    · refine ⟨0, Nat.zero_le _, fun t x ht hm => by omega, fun t x ht hm hx => ?_⟩
      cases t with
      | zero => simp at ht; subst ht; exact hk hx
      | succ t => exact hk (scmp_lt (hy x (List.mem_of_getElem? (by simpa using ht))) hx)
theorem asc_at {ks : List ByteArray} (h : Asc ks) {i j : Nat} {x y : ByteArray} (hij : i < j) (hx : ks[i]? = some x) (hy : ks[j]? = some y) : scmp x y < 0 := by
  obtain ⟨h1, rfl⟩ := List.getElem?_eq_some_iff.1 hx
  obtain ⟨h2, rfl⟩ := List.getElem?_eq_some_iff.1 hy
  exact List.pairwise_iff_getElem.1 h i j h1 h2 hij
/-- Where the halving stands, the key is found or nowhere. -/
theorem idxOf_split {ks : List ByteArray} {key : ByteArray} (h : Asc ks) {m : Nat} (h1 : ∀ (t : Nat) x, ks[t]? = some x → t < m → scmp x key < 0) (h2 : ∀ (t : Nat) x, ks[t]? = some x → m ≤ t → ¬ scmp x key < 0) :
    idxOf ks key = if ks[m]? = some key then some m else none := by
  have hlt : ∀ j, j < m → ks[j]? ≠ some key := fun j hj hc => by
    have := h1 j key hc hj
    rw [scmp_self] at this
    omega
  split
  · rename_i hm
    exact idxOf_hit hlt hm
  · rename_i hm
    refine idxOf_miss fun j hj => ?_
    rcases Nat.lt_trichotomy j m with h3 | rfl | h3
    · exact hlt j h3 hj
    · exact hm hj
    · have hjl := (List.getElem?_eq_some_iff.1 hj).1
      have hmx := List.getElem?_eq_getElem (show m < ks.length by omega)
      exact h2 m _ hmx (Nat.le_refl _) (asc_at h h3 hmx hj)
/-- What Get finds. -/
def getP (v : V) (key : ByteArray) : Option V := match v with | .mk k _ _ ks es => if valid v = true ∧ k = 6 then (idxOf ks key).bind fun i => es[i]? else none
theorem valid_keys {k n : Int} {s : ByteArray} {ks : List ByteArray} {es : List V} (h : valid (.mk k n s ks es) = true) : Asc ks ∧ (k = 6 → ks.length = es.length) ∧ ks.length ≤ 1024 ∧ es.length ≤ 1024 := by
  have h := ((valid_iff _).1 h).1
  have h2 := h
  rw [good] at h2
  simp only [Bool.and_eq_true, decide_eq_true_eq] at h2
  obtain ⟨h3, _, _, h5, h4, _⟩ := h2
  obtain ⟨f0, f1, f2, f3⟩ := fits_facts h3
  refine ⟨(asc_of_ok h4).1, f3, ?_, h5⟩
  rcases f1 with f1 | f1 | f1
  · have := f2 f1; omega
  · have := f3 f1; omega
  · omega
end Go.Proofs.Ytgdnkankleoaoaa
