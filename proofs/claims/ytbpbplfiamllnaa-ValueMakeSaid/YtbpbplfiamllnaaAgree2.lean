/- The program's answers and the reference's are the same. -/
import Derived.Test.YtbpbplfiamllnaaAgree
import Derived.Test.YtbpbplfiamllnaaRef3
set_option linter.unusedVariables false
set_option linter.unusedSimpArgs false
namespace Go.Proofs.Ytbpbplfiamllnaa
open Go.RowKit
theorem meas_some (v : V) (d m b : Int) : meas v = some (d, m, b) ↔ good v = true ∧ dep v ≤ 32 ∧ v.sz ≤ 4096 ∧ byt v ≤ 65536 ∧ d = dep v ∧ m = v.sz ∧ b = byt v := by
  unfold meas
  rw [addP_iff v 0 0 0 0 d m b (by omega) (by omega) (by omega) (by omega) (by omega)]
  constructor
  · rintro ⟨h0, h1, h2, h3, h4, h5, h6⟩; exact ⟨h0, by omega, by omega, by omega, by omega, by omega, by omega⟩
  · rintro ⟨h0, h1, h2, h3, h4, h5, h6⟩; exact ⟨h0, by omega, by omega, by omega, by omega, by omega, by omega⟩
/-- A valid value, said once. -/
def Ok (v : V) : Prop := good v = true ∧ dep v ≤ 32 ∧ v.sz ≤ 4096 ∧ byt v ≤ 65536
theorem valid_iff (v : V) : valid v = true ↔ Ok v := by
  unfold valid
  cases h : meas v with
  | none =>
    constructor
    · intro h; cases h
    · rintro ⟨h0, h1, h2, h3⟩
      have := (meas_some v (dep v) v.sz (byt v)).2 ⟨h0, h1, h2, h3, rfl, rfl, rfl⟩
      rw [h] at this
      cases this
  | some q =>
    obtain ⟨d, m, b⟩ := q
    obtain ⟨h0, h1, h2, h3, _⟩ := (meas_some v d m b).1 h
    exact ⟨fun _ => ⟨h0, h1, h2, h3⟩, fun _ => rfl⟩
theorem validR_iff (v : V) : validR v = true ↔ Ok v := by
  unfold validR
  cases h : rmP v 0 with
  | none =>
    constructor
    · intro h; cases h
    · rintro ⟨h0, h1, h2, h3⟩
      have := (rmP_iff v 0 v.sz (byt v) (by omega) (by omega)).2 ⟨h0, by omega, h2, h3, rfl, rfl⟩
      rw [h] at this
      cases this
  | some q =>
    obtain ⟨m, b⟩ := q
    obtain ⟨h0, h1, h2, h3, rfl, rfl⟩ := (rmP_iff v 0 m b (by omega) (by omega)).1 h
    constructor
    · intro _; exact ⟨h0, by omega, h2, h3⟩
    · intro _; simp; omega
theorem valid_same (v : V) : validR v = valid v := by rw [Bool.eq_iff_iff, valid_iff, validR_iff]
theorem nodes_same (v : V) : nodesR v = nodesP v := by
  unfold nodesR nodesP
  rw [valid_same]
  cases h : meas v with
  | none => rw [if_neg (by unfold valid; rw [h]; decide)]
  | some q =>
    obtain ⟨d, m, b⟩ := q
    obtain ⟨h0, h1, h2, h3, rfl, rfl, rfl⟩ := (meas_some v d m b).1 h
    rw [if_pos (by unfold valid; rw [h]; rfl), (rmP_iff v 0 v.sz (byt v) (by omega) (by omega)).2 ⟨h0, by omega, h2, h3, rfl, rfl⟩]
theorem ok_elem {k n : Int} {s : ByteArray} {ks : List ByteArray} {es : List V} (h : Ok (.mk k n s ks es)) (hk : k = 5 ∨ k = 6) : ∀ e ∈ es, Ok e := by
  obtain ⟨h0, h1, h2, h3⟩ := h
  rw [good] at h0
  rw [dep, if_pos hk] at h1
  rw [V.sz] at h2
  rw [byt] at h3
  simp only [Bool.and_eq_true] at h0
  have hg := h0.2.2.2.2.2
  have hd : depL es ≤ 31 := by omega
  have hz : V.szL es ≤ 4096 := by omega
  have hb : bytL es ≤ 65536 := by omega
  clear h0 h1 h2 h3
  induction es with
  | nil => intro e he; cases he
  | cons x es ih =>
    rw [goodL, Bool.and_eq_true] at hg
    rw [depL] at hd
    rw [V.szL] at hz
    rw [bytL] at hb
    intro e he
    rcases List.mem_cons.1 he with rfl | he
    · exact ⟨hg.1, by omega, by omega, by omega⟩
    · exact ih hg.2 (by omega) (by omega) (by omega) e he
theorem rdep_ok : ∀ v : V, Ok v → rdep v = dep v := by
  refine V.ind fun k n s ks es ih h => ?_
  rw [rdep, if_pos ((validR_iff _).2 h), dep]
  have hf : 0 ≤ k ∧ k ≤ 6 := by
    have := h.1
    rw [good] at this
    simp only [Bool.and_eq_true] at this
    exact (fits_facts this.1).1
  by_cases hk : k = 5 ∨ k = 6
  · rw [if_neg (by omega), if_pos hk]
    have he := ok_elem h hk
    have key : ∀ fs : List V, (∀ e ∈ fs, rdep e = dep e) → ∀ d : Int, 0 ≤ d → rdepL fs d = max d (depL fs) := by
      intro fs
      induction fs with
      | nil => intro _ d hd; rw [rdepL, depL]; omega
      | cons x fs ihf =>
        intro hx d hd
        rw [rdepL, depL, ihf (fun y hy => hx y (by simp [hy])) _ (by omega), hx x (by simp)]
        omega
    rw [key es (fun e hh => ih e hh (he e hh)) 0 (by omega)]
    omega
  · rw [if_neg hk, if_pos (by omega)]
    rfl
theorem depth_same (v : V) : rdep v = depthP v := by
  unfold depthP
  cases h : meas v with
  | none =>
    have hv : ¬ validR v = true := by rw [valid_same]; unfold valid; rw [h]; decide
    obtain ⟨k, n, s, ks, es⟩ := v
    rw [rdep, if_neg hv]
  | some q =>
    obtain ⟨d, m, b⟩ := q
    obtain ⟨h0, h1, h2, h3, rfl, rfl, rfl⟩ := (meas_some v d m b).1 h
    exact rdep_ok v ⟨h0, h1, h2, h3⟩
theorem truth_same (v : V) : truthR v = truthP v := by
  obtain ⟨k, n, s, ks, es⟩ := v
  unfold truthR truthP
  rw [valid_same]
  cases h : valid (.mk k n s ks es) with
  | false => simp
  | true =>
    have hk := validR_kind (by rw [valid_same]; exact h)
    rw [Bool.eq_iff_iff]
    simp
    omega
theorem name_same (v : V) : nameR v = nameP v := by
  obtain ⟨k, n, s, ks, es⟩ := v
  unfold nameR nameP
  rw [valid_same]
theorem cmp_same (a b : V) : cmpR a b = cmpV a b := by unfold cmpR cmpV; rw [valid_same, valid_same]
theorem eq_same (a b : V) : eqR a b = eqV a b := by unfold eqR eqV; rw [valid_same, valid_same]
end Go.Proofs.Ytbpbplfiamllnaa
