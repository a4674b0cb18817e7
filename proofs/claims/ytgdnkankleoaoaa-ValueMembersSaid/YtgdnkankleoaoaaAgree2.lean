/- The program's answers and the reference's are the same. -/
import Derived.Test.YtgdnkankleoaoaaAgree
import Derived.Test.YtgdnkankleoaoaaStrs
import Derived.Test.YtgdnkankleoaoaaG2
import Derived.Test.YtgdnkankleoaoaaG1
import Derived.Test.YtgdnkankleoaoaaUtf3
import Derived.Deep.QuietTactic
import Derived.BigQuiet
import Derived.Test.YtgdnkankleoaoaaMeas2
import Derived.Deep.DeepCutAuto
import Derived.Deep.RegionHeld3
import Derived.Deep.Light
import Derived.Test.YtgdnkankleoaoaaCmp2
set_option linter.unusedVariables false
set_option linter.unusedSimpArgs false
namespace Go.Proofs.Ytgdnkankleoaoaa
open Go.RowKit
theorem meas_some (v : V) (d m b : Int) : meas v = some (d, m, b) ↔ good v = true ∧ dep v ≤ 32 ∧ v.sz ≤ 4096 ∧ vbyt v ≤ 65536 ∧ d = dep v ∧ m = v.sz ∧ b = vbyt v := by
  unfold meas
  rw [addP_iff v 0 0 0 0 d m b (by omega) (by omega) (by omega) (by omega) (by omega)]
  constructor
  · rintro ⟨h0, h1, h2, h3, h4, h5, h6⟩; exact ⟨h0, by omega, by omega, by omega, by omega, by omega, by omega⟩
  · rintro ⟨h0, h1, h2, h3, h4, h5, h6⟩; exact ⟨h0, by omega, by omega, by omega, by omega, by omega, by omega⟩
/-- A valid value, said once. -/
def Ok (v : V) : Prop := good v = true ∧ dep v ≤ 32 ∧ v.sz ≤ 4096 ∧ vbyt v ≤ 65536
theorem valid_iff (v : V) : valid v = true ↔ Ok v := by
  unfold valid
  cases h : meas v with
  | none =>
    constructor
    · intro h; cases h
    · rintro ⟨h0, h1, h2, h3⟩
      have := (meas_some v (dep v) v.sz (vbyt v)).2 ⟨h0, h1, h2, h3, rfl, rfl, rfl⟩
      rw [h] at this
      cases this
  | some q =>
    obtain ⟨d, m, b⟩ := q
    obtain ⟨h0, h1, h2, h3, _⟩ := (meas_some v d m b).1 h
    exact ⟨fun _ => ⟨h0, h1, h2, h3⟩, fun _ => rfl⟩
theorem ok_elem {k n : Int} {s : ByteArray} {ks : List ByteArray} {es : List V} (h : Ok (.mk k n s ks es)) (hk : k = 5 ∨ k = 6) : ∀ e ∈ es, Ok e := by
  obtain ⟨h0, h1, h2, h3⟩ := h
  rw [good] at h0
  rw [dep, if_pos hk] at h1
  rw [V.sz] at h2
  rw [vbyt] at h3
  simp only [Bool.and_eq_true] at h0
  have hg := h0.2.2.2.2.2
  have hd : depL es ≤ 31 := by omega
  have hz : V.szL es ≤ 4096 := by omega
  have hb : vbytL es ≤ 65536 := by omega
  clear h0 h1 h2 h3
  induction es with
  | nil => intro e he; cases he
  | cons x es ih =>
    rw [goodL, Bool.and_eq_true] at hg
    rw [depL] at hd
    rw [V.szL] at hz
    rw [vbytL] at hb
    intro e he
    rcases List.mem_cons.1 he with rfl | he
    · exact ⟨hg.1, by omega, by omega, by omega⟩
    · exact ih hg.2 (by omega) (by omega) (by omega) e he
end Go.Proofs.Ytgdnkankleoaoaa
