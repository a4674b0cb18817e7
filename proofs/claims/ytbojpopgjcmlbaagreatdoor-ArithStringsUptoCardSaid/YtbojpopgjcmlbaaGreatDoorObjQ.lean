/- Objects as lists of members: what is found at a key, what Put leaves, and that both ways of building an object agree; plain. -/
import Derived.Test.YtbojpopgjcmlbaaGreatDoorObjP
import Derived.Test.YtbojpopgjcmlbaaGreatDoorAgree2
set_option linter.unusedVariables false
set_option linter.unusedSimpArgs false
namespace Go.Proofs.YtbojpopgjcmlbaaGreatDoor
open Go.RowKit Go.Sort
/-- Strictly ascending keys. -/
def Asc (ks : List ByteArray) : Prop := ks.Pairwise fun x y => scmp x y < 0
theorem asc_of_ok : ∀ {ks : List ByteArray} {p : Option ByteArray}, keysOk p ks = true → Asc ks ∧ ∀ q, p = some q → ∀ x ∈ ks, scmp q x < 0
  | [], p, h => ⟨List.Pairwise.nil, fun q _ x hx => by simp at hx⟩
  | x :: r, p, h => by
    have hr : keysOk (some x) r = true := by
      cases p with
      | none => rw [keysOk] at h; simp at h; exact h.2
      | some q => rw [keysOk] at h; simp at h; exact h.2.2
    obtain ⟨h1, h2⟩ := asc_of_ok hr
    refine ⟨List.Pairwise.cons (h2 x rfl) h1, ?_⟩
    rintro q rfl y hy
    rw [keysOk] at h
    simp at h
    rcases List.mem_cons.1 hy with rfl | hy
    · exact h.2.1
    · exact scmp_lt h.2.1 (h2 x rfl y hy)
theorem valid_keys {k n : Int} {s : ByteArray} {ks : List ByteArray} {es : List V} (h : valid (.mk k n s ks es) = true) : Asc ks ∧ (k = 6 → ks.length = es.length) ∧ ks.length ≤ 1024 ∧ es.length ≤ 1024 := by
  have h := ((valid_iff _).1 h).1
  have h2 := h
  rw [good] at h2
  simp only [Bool.and_eq_true, decide_eq_true_eq] at h2
  obtain ⟨h3, _, _, h5, h4, _⟩ := h2
  obtain ⟨f0, f1, f2, f3⟩ := fits_facts h3
  refine ⟨(asc_of_ok h4).1, f3, ?_, h5⟩
  rcases f1 with f1 | f1 | f1
  · have := f2 f1; omega
  · have := f3 f1; omega
  · omega
end Go.Proofs.YtbojpopgjcmlbaaGreatDoor
