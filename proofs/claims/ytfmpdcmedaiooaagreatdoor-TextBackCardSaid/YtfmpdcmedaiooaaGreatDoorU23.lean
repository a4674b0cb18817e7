/- The JSON parser's element, all cases together. -/
import Derived.Test.YtfmpdcmedaiooaaGreatDoorU22
set_option linter.unusedVariables false
set_option linter.unusedSimpArgs false
namespace Go.Proofs.YtfmpdcmedaiooaaGreatDoor
open Go.RowKit
/-- What the program's element does is what the model's does, n levels deep. -/
def OkEl (s : ByteArray) (g n : Nat) : Prop := ∀ W x b σ v τ, JAt s g W σ → JB σ → (x.k ≠ 0 → TokF x) → (σ.err ≠ 0 → x.k = 0) → b ≤ 1024 → jelN s.data.toList n x b σ = some (v, τ) → Calls Tryz.prog 118 #[.pointer (some ⟨g, 0, none⟩), .agg #[.int .i64 x.k, .int .i64 x.f, .int .i64 x.t, .int .u8 x.b, .int .i64 x.i, .string x.s], .int .i64 b] W (JVal s g W v τ)
theorem jnextK {l : List UInt8} (σ : JS) : (jnext l σ).2.err ≠ 0 → (jnext l σ).1.k = 0 := by
  intro he
  by_cases hk : (jread l σ).1.k = 0
  · exact hk
  · exfalso
    unfold jnext at he
    rw [if_neg hk] at he
    unfold jread at hk he
    by_cases h0 : σ.err = 0
    · rw [if_pos h0] at hk he
      by_cases h1 : (lexP l σ.at_).e = 0
      · rw [if_pos h1] at he; exact he h0
      · rw [if_neg h1] at hk; exact hk rfl
    · rw [if_neg h0] at hk; exact hk rfl
theorem jarr_op {l : List UInt8} {el : Lx → Nat → JM} (hel : GEl l el) {n : Nat} {ρ ρ' : JS} {u : V} (hB : JB ρ) (h : jarr l el n ρ = some (u, ρ')) : ρ'.op = ρ.op ∧ JB ρ' := by
  obtain ⟨s1, s2, s3, s4, s5⟩ := jnext_same (l := l) ρ
  unfold jarr at h
  split at h
  · simp only [Option.some.injEq, Prod.mk.injEq] at h
    obtain ⟨rfl, rfl⟩ := h
    exact ⟨s1, hB.next⟩
  · obtain ⟨f1, f2, f3⟩ := jarrL_good hel (n0 := 0) (s0 := 0) (d := 32) n [] _ _ u ρ' s5 hB.next (by decide) (fun he => ⟨fun e he => (by cases he), by rw [V.szL]; omega, by rw [vbytL]; omega⟩) (by omega) h
    exact ⟨by rw [f1, s1], f2⟩
theorem jobj_op {l : List UInt8} {el : Lx → Nat → JM} (hel : GEl l el) {n : Nat} {ρ ρ' : JS} {u : V} (hB : JB ρ) (h : jobj l el n ρ = some (u, ρ')) : ρ'.op = ρ.op ∧ JB ρ' := by
  obtain ⟨s1, s2, s3, s4, s5⟩ := jnext_same (l := l) ρ
  unfold jobj at h
  split at h
  · simp only [Option.some.injEq, Prod.mk.injEq] at h
    obtain ⟨rfl, rfl⟩ := h
    exact ⟨s1, hB.next⟩
  · obtain ⟨f1, f2, f3⟩ := jobjL_good hel (n0 := 0) (s0 := 0) (d := 32) n [] [] _ _ u ρ' s5 hB.next rfl (fun he => ⟨by decide, fun k hk => (by cases hk), fun e he => (by cases he), by rw [V.szL]; omega, by rw [vbytL, kb]; omega⟩) (by omega) h
    exact ⟨by rw [f1, s1], f2⟩
theorem okEl_succ {s : ByteArray} {g n : Nat} (hA : OkM s g 184 (jarr s.data.toList (jelN s.data.toList n) n)) (hO : OkM s g 185 (jobj s.data.toList (jelN s.data.toList n) n)) : OkEl s g (n + 1) := by
  intro W x b σ v τ hP hB hT hE hb h
  have S1 := fun W => isSign_lit x 91 (C := 91) rfl W
  have S2 := fun W => isSign_lit x 123 (C := 123) rfl W
  rw [jelN] at h
  unfold jel at h
  have hz : ∀ {r : JS}, some (jz, r) = some (v, τ) → v = jz ∧ τ = r := fun h => by
    simp only [Option.some.injEq, Prod.mk.injEq] at h; exact ⟨h.1.symm, h.2.symm⟩
  by_cases k0 : x.k = 0
  · have o1 : isSg x 91 = false := by unfold isSg; rw [k0]; rfl
    have o2 : isSg x 123 = false := by unfold isSg; rw [k0]; rfl
    rw [o1] at S1; rw [o2] at S2
    rw [if_pos (.inl k0)] at h
    obtain ⟨rfl, rfl⟩ := hz h
    exact el_zero x b S1 S2 k0 hP
  have he0 : σ.err = 0 := Classical.byContradiction fun h => k0 (hE h)
  have hTx := hT k0
  have hss : x.s.size ≤ 4096 := by
    by_cases h4 : x.k = 4
    · exact (hTx.str h4).1
    · rw [hTx.no h4]; decide
  have hsz := (hB.2 he0).2
  have hRT : σ.sz + x.s.size ≤ 65536 → ∀ W, JAt s g W σ → Calls Tryz.prog 154 #[.pointer (some ⟨g, 0, none⟩), .agg #[.int .i64 x.k, .int .i64 x.f, .int .i64 x.t, .int .u8 x.b, .int .i64 x.i, .string x.s]] W (JBool s g W true { σ with sz := σ.sz + x.s.size }) := fun hr W hW => by
    have := hasRoom_any x hW hsz hss; rw [decide_eq_true hr] at this; exact this
  have hRF : ¬ σ.sz + x.s.size ≤ 65536 → ∀ W, JAt s g W σ → Calls Tryz.prog 154 #[.pointer (some ⟨g, 0, none⟩), .agg #[.int .i64 x.k, .int .i64 x.f, .int .i64 x.t, .int .u8 x.b, .int .i64 x.i, .string x.s]] W (JBool s g W false { σ with sz := σ.sz + x.s.size }) := fun hr W hW => by
    have := hasRoom_any x hW hsz hss; rw [decide_eq_false hr] at this; exact this
  have hD : (x.b = 91 ∨ x.b = 123 → x.k ≠ 3 → x.k ≠ 4 → σ.op < 32) → ¬ σ.nd = 4096 → σ.sz + x.s.size ≤ 65536 → jbuild (jarr s.data.toList (jelN s.data.toList n) n) (jobj s.data.toList (jelN s.data.toList n) n) x { σ with nd := σ.nd + 1, sz := σ.sz + x.s.size } = some (v, τ) → ∀ W, JAt s g W { σ with nd := σ.nd + 1, sz := σ.sz + x.s.size } → Calls Tryz.prog 155 #[.pointer (some ⟨g, 0, none⟩), .agg #[.int .i64 x.k, .int .i64 x.f, .int .i64 x.t, .int .u8 x.b, .int .i64 x.i, .string x.s]] W (JVal s g W v τ) := fun hop hn hr hj W hW =>
    build_any x hTx hA hO (fun ρ u ρ' hB h => (jarr_op (jelN_good n) hB h).1) (fun ρ u ρ' hB h => (jobj_op (jelN_good n) hB h).1) hW ⟨hB.1, fun _ => by have := (hB.2 he0).1; show σ.nd + 1 ≤ 4096 ∧ σ.sz + x.s.size ≤ 65536; omega⟩ (fun h3 h4 hb => hop hb h3 h4) hj
  by_cases k1 : x.k = 1
  · cases o1 : isSg x 91 with
    | true =>
      rw [o1] at S1
      have ho : opensB x = true := by unfold opensB; rw [o1]; rfl
      rw [if_neg (by rintro (h | h); exact k0 h; rw [ho] at h; cases h.2)] at h
      by_cases h32 : σ.op = 32
      · rw [if_pos ⟨ho, h32⟩] at h; obtain ⟨rfl, rfl⟩ := hz h; exact el_deep_a x b S1 k1 h32 hP
      rw [if_neg (fun h => h32 h.2)] at h
      by_cases hn : σ.nd = 4096
      · rw [if_pos (.inl hn)] at h; obtain ⟨rfl, rfl⟩ := hz h; exact el_many_a x b S1 k1 h32 hn hP
      by_cases hb2 : b = 1024
      · rw [if_pos (.inr hb2)] at h; obtain ⟨rfl, rfl⟩ := hz h; exact el_long_a x b S1 k1 h32 hn hb2 hP
      rw [if_neg (by omega)] at h
      by_cases hr : σ.sz + x.s.size ≤ 65536
      · rw [if_neg (by omega)] at h; exact el_good_a x b S1 k1 h32 hn hb2 (hRT hr) (hD (fun _ _ _ => by have := hB.1; omega) hn hr h) hP
      · rw [if_pos (by omega)] at h; obtain ⟨rfl, rfl⟩ := hz h; exact el_full_a x b S1 k1 h32 hn hb2 (hRF hr) hP
    | false =>
      rw [o1] at S1
      cases o2 : isSg x 123 with
      | true =>
        rw [o2] at S2
        have ho : opensB x = true := by unfold opensB; rw [o1, o2]; rfl
        rw [if_neg (by rintro (h | h); exact k0 h; rw [ho] at h; cases h.2)] at h
        by_cases h32 : σ.op = 32
        · rw [if_pos ⟨ho, h32⟩] at h; obtain ⟨rfl, rfl⟩ := hz h; exact el_deep_b x b S1 S2 k1 h32 hP
        rw [if_neg (fun h => h32 h.2)] at h
        by_cases hn : σ.nd = 4096
        · rw [if_pos (.inl hn)] at h; obtain ⟨rfl, rfl⟩ := hz h; exact el_many_b x b S1 S2 k1 h32 hn hP
        by_cases hb2 : b = 1024
        · rw [if_pos (.inr hb2)] at h; obtain ⟨rfl, rfl⟩ := hz h; exact el_long_b x b S1 S2 k1 h32 hn hb2 hP
        rw [if_neg (by omega)] at h
        by_cases hr : σ.sz + x.s.size ≤ 65536
        · rw [if_neg (by omega)] at h; exact el_good_b x b S1 S2 k1 h32 hn hb2 (hRT hr) (hD (fun _ _ _ => by have := hB.1; omega) hn hr h) hP
        · rw [if_pos (by omega)] at h; obtain ⟨rfl, rfl⟩ := hz h; exact el_full_b x b S1 S2 k1 h32 hn hb2 (hRF hr) hP
      | false =>
        rw [o2] at S2
        have ho : opensB x = false := by unfold opensB; rw [o1, o2]; rfl
        rw [if_pos (.inr ⟨k1, ho⟩)] at h
        obtain ⟨rfl, rfl⟩ := hz h
        exact el_shut x b S1 S2 k1 hP
  · have o1 : isSg x 91 = false := by unfold isSg; rw [decide_eq_false k1]; rfl
    have o2 : isSg x 123 = false := by unfold isSg; rw [decide_eq_false k1]; rfl
    have ho : opensB x = false := by unfold opensB; rw [o1, o2]; rfl
    rw [o1] at S1; rw [o2] at S2
    rw [if_neg (by rintro (h | h); exact k0 h; exact k1 h.1), if_neg (by rw [ho]; rintro ⟨h, _⟩; cases h)] at h
    by_cases hn : σ.nd = 4096
    · rw [if_pos (.inl hn)] at h; obtain ⟨rfl, rfl⟩ := hz h; exact el_many_n x b S1 S2 k0 k1 hn hP
    by_cases hb2 : b = 1024
    · rw [if_pos (.inr hb2)] at h; obtain ⟨rfl, rfl⟩ := hz h; exact el_long_n x b S1 S2 k0 k1 hn hb2 hP
    rw [if_neg (by omega)] at h
    by_cases hr : σ.sz + x.s.size ≤ 65536
    · rw [if_neg (by omega)] at h
      refine el_good_n x b S1 S2 k0 k1 hn hb2 (hRT hr) (hD (fun hb3 h3 h4 => ?_) hn hr h) hP
      exfalso
      have hle := hTx.le
      have h2 : x.k = 2 := by omega
      have := hTx.word h2
      omega
    · rw [if_pos (by omega)] at h; obtain ⟨rfl, rfl⟩ := hz h; exact el_full_n x b S1 S2 k0 k1 hn hb2 (hRF hr) hP
end Go.Proofs.YtfmpdcmedaiooaaGreatDoor
