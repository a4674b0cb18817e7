/- Nested arrays, long arrays and long strings: how far they are valid; plain. And a slice of bytes as a string. -/
import Derived.Test.YtbpbplfiamllnaaAgree2
import Derived.Test.YtbpbplfiamllnaaMake2
set_option linter.unusedVariables false
set_option linter.unusedSimpArgs false
namespace Go.Proofs.Ytbpbplfiamllnaa
open Go.RowKit
/-- 1 in so many arrays. -/
def nest : Nat → V
  | 0 => .mk 3 1 ⟨#[]⟩ [] []
  | d + 1 => .mk 5 0 ⟨#[]⟩ [] [nest d]
theorem okS_empty : okS ⟨#[]⟩ = true := rfl
theorem nest_step : (fits 5 0 ⟨#[]⟩ 0 1 && (decide ((⟨#[]⟩ : ByteArray).size ≤ 4096) && (okS ⟨#[]⟩ && (decide (1 ≤ 1024) && (keysOk none [] && (true && true)))))) = true := by decide +kernel
theorem nest_facts : ∀ d : Nat, good (nest d) = true ∧ dep (nest d) = d ∧ (nest d).sz = d + 1 ∧ byt (nest d) = 0
  | 0 => ⟨by decide +kernel, by rw [nest, dep]; rfl, by rw [nest, V.sz]; rfl, by rw [nest, byt]; rfl⟩
  | d + 1 => by
    obtain ⟨h1, h2, h3, h4⟩ := nest_facts d
    refine ⟨?_, ?_, ?_, ?_⟩
    · rw [nest, good, goodL, goodL, h1]
      exact nest_step
    · rw [nest, dep, depL, depL, h2, if_pos (.inl rfl)]
      simp
    · rw [nest, V.sz, V.szL, V.szL, h3]
      omega
    · rw [nest, byt, bytL, bytL, h4]
      rfl
theorem nest_valid (d : Nat) (h : d ≤ 64) : valid (nest d) = decide (d ≤ 32) := by
  obtain ⟨h1, h2, h3, h4⟩ := nest_facts d
  rw [Bool.eq_iff_iff, valid_iff, decide_eq_true_iff]
  unfold Ok
  rw [h1, h2, h3, h4]
  constructor
  · rintro ⟨_, h, _⟩; exact h
  · intro h; exact ⟨rfl, h, by omega, by omega⟩
theorem nest_meas (d : Nat) (h : d ≤ 32) : meas (nest d) = some ((d : Int), ((d + 1 : Nat) : Int), 0) := by
  obtain ⟨h1, h2, h3, h4⟩ := nest_facts d
  exact (meas_some _ _ _ _).2 ⟨h1, by omega, by omega, by omega, by rw [h2], by rw [h3], by rw [h4]; rfl⟩
theorem nest_depth (d : Nat) (h : d ≤ 32) : depthP (nest d) = d := by unfold depthP; rw [nest_meas d h]
theorem nest_nodes (d : Nat) (h : d ≤ 32) : nodesP (nest d) = ((d : Int) + 1) := by unfold nodesP; rw [nest_meas d h]; simp
/-- An array of so many nulls. -/
def nulls (n : Nat) : V := arrV (List.replicate n vnull)
theorem rep_facts : ∀ n : Nat, goodL (List.replicate n vnull) = true ∧ depL (List.replicate n vnull) = 0 ∧ V.szL (List.replicate n vnull) = n ∧ bytL (List.replicate n vnull) = 0
  | 0 => ⟨by rw [List.replicate_zero, goodL], by rw [List.replicate_zero, depL], by rw [List.replicate_zero, V.szL], by rw [List.replicate_zero, bytL]⟩
  | n + 1 => by
    obtain ⟨h1, h2, h3, h4⟩ := rep_facts n
    have g : good vnull = true := by decide +kernel
    have d : dep vnull = 0 := by unfold vnull; rw [dep]; rfl
    have s : vnull.sz = 1 := by unfold vnull; rw [V.sz]; rfl
    have b : byt vnull = 0 := by unfold vnull; rw [byt]; rfl
    refine ⟨?_, ?_, ?_, ?_⟩
    · rw [List.replicate_succ, goodL, g, h1]; rfl
    · rw [List.replicate_succ, depL, d, h2]; rfl
    · rw [List.replicate_succ, V.szL, s, h3]; omega
    · rw [List.replicate_succ, bytL, b, h4]
theorem nulls_valid (n : Nat) (h : n ≤ 2000) : valid (nulls n) = decide (n ≤ 1024) := by
  obtain ⟨h1, h2, h3, h4⟩ := rep_facts n
  rw [Bool.eq_iff_iff, valid_iff, decide_eq_true_iff]
  unfold Ok nulls arrV
  rw [good, dep, if_pos (.inl rfl), V.sz, byt, h1, h2, h3, h4]
  simp only [List.length_replicate, Bool.and_eq_true, decide_eq_true_eq]
  constructor
  · rintro ⟨⟨_, _, _, h, _⟩, _⟩; exact h
  · intro h
    refine ⟨⟨?_, by decide, rfl, h, rfl, trivial⟩, by omega, by omega, by decide⟩
    unfold fits
    simp
    rfl
/-- So many letters x. -/
def xs8 (n : Nat) : List UInt8 := List.replicate n 120
theorem runes_x : ∀ n : Nat, (runes (xs8 n)).isSome = true
  | 0 => rfl
  | n + 1 => by
    have hd : dec (xs8 (n + 1)) = some (120, 1) := by
      unfold xs8
      rw [List.replicate_succ, dec_cons]
      rfl
    rw [runes_some hd, Option.isSome_map]
    have : (xs8 (n + 1)).drop 1 = xs8 n := by unfold xs8; rw [List.replicate_succ]; rfl
    rw [this]
    exact runes_x n
def xstr (n : Nat) : ByteArray := ⟨(xs8 n).toArray⟩
theorem xstr_size (n : Nat) : (xstr n).size = n := by simp [xstr, xs8, ByteArray.size]
theorem xstr_valid (n : Nat) (h : n ≤ 5000) : valid (strV (xstr n)) = decide (n ≤ 4096) := by
  have hok : okS (xstr n) = true := runes_x n
  rw [Bool.eq_iff_iff, valid_iff, decide_eq_true_iff]
  unfold Ok strV
  rw [good, dep, V.sz, byt, hok, xstr_size, goodL, V.szL, bytL, if_neg (by decide)]
  simp only [List.length_nil, Bool.and_eq_true, decide_eq_true_eq]
  constructor
  · rintro ⟨⟨_, h, _⟩, _⟩; exact h
  · intro h
    refine ⟨⟨?_, h, trivial, by decide, rfl, trivial⟩, by omega, by omega, by simp [kb]; omega⟩
    unfold fits
    simp
/-- Bytes as cells. -/
def by8 (l : List UInt8) : List Value := l.map fun b => Value.int .u8 (b.toNat : Int)
theorem conv_by8 {P : Program} {w : World} {B : Nat} {a : Addr} {l : List UInt8} (h : Rd w B (some a) (by8 l)) (src dst e : TypeId) (c : Nat) (hs : P.underlying src = some (.slice e)) (he : P.underlying e = some (.int .u8)) (hd : P.underlying dst = some .string) :
    (convert src dst (.slice (some a) l.length c)).run P w = .ok (.string ⟨l.toArray⟩) w := by
  refine run_convert_bytes_back w src dst e a c l hs he hd fun j hj => ?_
  obtain ⟨b, o, h1, _, h2⟩ := h j (.int .u8 l[j].toNat) (by simp [by8, hj])
  injection h1 with h1
  subst h1
  have h3 : ((⟨b, o, none⟩ : Addr).add j) = ⟨b, o + j, none⟩ := by
    unfold Addr.add
    by_cases h : j = 0 <;> simp [h]
  rw [h3, h2]
end Go.Proofs.Ytbpbplfiamllnaa
