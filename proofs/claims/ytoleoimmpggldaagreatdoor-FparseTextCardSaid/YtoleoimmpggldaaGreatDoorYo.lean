import Derived.Test.YtoleoimmpggldaaGreatDoorQD
import Derived.Test.YtoleoimmpggldaaGreatDoorQC
set_option linter.unusedVariables false
set_option linter.unusedSectionVars false
set_option linter.unusedSimpArgs false
namespace Go.Proofs.YtoleoimmpggldaaGreatDoor
open Go.RowKit
theorem noX_size (a e : Nat) : (noX a e).s.size ≤ 4096 := by show (⟨#[]⟩ : ByteArray).size ≤ 4096; decide
theorem strF_size (l : List UInt8) (k : Nat) : ∀ (m i : Nat) (out : List UInt8), (strF l k m i out).s.size ≤ 4096
 | 0, i, out => by rw [strF]; exact noX_size _ _
 | m + 1, i, out => by
  rw [strF]
  split
  · split
    · show (⟨out.toArray⟩ : ByteArray).size ≤ 4096
      simp [ByteArray.size]; assumption
    · exact noX_size _ _
  all_goals first | exact strF_size l k m _ _ | exact noX_size _ _
theorem e_size : (⟨#[]⟩ : ByteArray).size ≤ 4096 := by decide
theorem lexP_size (l : List UInt8) (a : Int) : (lexP l a).s.size ≤ 4096 := by
 unfold lexP
 split
 · exact noX_size _ _
 · unfold lexN
   split
   · exact e_size
   split
   · exact e_size
   split
   · unfold wordP
     repeat' split
     all_goals first | exact noX_size _ _ | exact e_size
   split
   · unfold numP
     repeat' split
     all_goals first | exact noX_size _ _ | exact e_size
   split
   · exact strF_size _ _ _ _ _
   · exact noX_size _ _
theorem sig_size : ∀ t ∈ signsL, t.length ≤ 2 := by decide
theorem tokP_size (l : List UInt8) (a : Nat) : (tokP l a).t.s.size ≤ 4096 := by
 have hn : ∀ k o f, (namedP l k o f).t.s.size ≤ 4096 := by
  intro k o f;unfold namedP
  split
  · exact e_size
  · show (bsF _).size ≤ 4096
    rw [bsF_size];unfold sub;rw [List.length_take];omega
 unfold tokP
 split
 · exact hn _ _ _
 split
 · exact hn _ _ _
 split
 · exact hn _ _ _
 split
 · unfold numFP
   repeat' split
   all_goals exact e_size
 split
 · unfold strFP
   split
   · exact lexP_size _ _
   · exact e_size
 · unfold signFP
   split
   · rename_i t ht
     show (bsF t).size ≤ 4096
     rw [bsF_size];have := sig_size t (List.mem_of_find?_eq_some ht);omega
   · exact e_size
theorem lexF_e {l : List UInt8} : ∀ (n a : Nat) (ts : List Fk), (∀ us, (lexF l n a ts).ts = some us → lexF l n a ts = ⟨some us, 0, 0⟩)
 | 0, a, ts => by intro us h; simp [lexF] at h
 | n + 1, a, ts => by
  intro us h;rw [lexF] at h ⊢
  split at h
  · split at h
    · simp at h
    · split at h
      · rw [if_pos (by assumption), if_neg (by assumption), if_pos (by assumption)];exact lexF_e n _ _ us h
      · simp at h
  · rw [if_neg (by assumption)];simp only [Option.some.injEq] at h;rw [h]
theorem lexFP_e {l : List UInt8} {us : List Fk} (h : (lexFP l).ts = some us) : lexFP l = ⟨some us, 0, 0⟩ := by
 unfold lexFP at h ⊢
 split at h
 · simp at h
 · rw [if_neg (by assumption)];exact lexF_e _ _ _ us h
theorem lexF_len {l : List UInt8} : ∀ (n a : Nat) (ts us : List Fk), a ≤ l.length → ts.length ≤ 2048 → lexF l n a ts = ⟨some us, 0, 0⟩ → us.length ≤ 2049 ∧ us.length ≤ ts.length + (l.length - a) + 1
 | 0, a, ts, us, ha, ht, h => by simp [lexF] at h
 | n + 1, a, ts, us, ha, ht, h => by
  rw [lexF] at h
  split at h
  · split at h
    · simp at h
    · split at h
      · rename_i h1 h2 h3
        have hp := tok_ok h1 h3;have hg : (tokP l a).p ≤ gapP l (tokP l a).p := gap_ge hp.2;have := lexF_len n _ _ us (gap_le _ _) (by rw [List.length_append]; simp; omega) h;rw [List.length_append] at this;simp at this;refine ⟨this.1, ?_⟩;have := this.2;omega
      · simp at h
  · simp only [Fr.mk.injEq, Option.some.injEq] at h;obtain ⟨rfl, -⟩ := h;rw [List.length_append]
    simp
    omega
theorem lexFP_len {l : List UInt8} {us : List Fk} (h : lexFP l = ⟨some us, 0, 0⟩) : us.length ≤ 2049 ∧ us.length ≤ l.length + 1 := by
 unfold lexFP at h
 split at h
 · simp at h
 · have := lexF_len _ _ _ us (gap_le _ _) (by simp) h;refine ⟨this.1, ?_⟩;have := this.2;simp at this;omega
theorem tk_last {vs : List Fk} {t : Fk} : tk (vs ++ [t]) vs.length = t := by unfold tk; simp
theorem lex_tok {l : List UInt8} {us : List Fk} (h : lexFP l = ⟨some us, 0, 0⟩) : EndL us ∧ (∀ k, (tk us k).s.size ≤ 1048576) ∧ us.length ≤ 2049 ∧ us.length ≤ l.length + 1 := by
 obtain ⟨vs, rfl, hO, hT⟩ := lexFP_toks h;have hle := lexFP_len h;have hk : ∀ k t, (vs ++ [endK l])[k]? = some t → (t.k = 0 → t.s = ⟨#[]⟩) ∧ t.s.size ≤ 1048576 ∧ (k < vs.length → t.k ≠ 0) := by
  intro k t ht;rcases Nat.lt_or_ge k vs.length with hlt | hge
  · rw [List.getElem?_append_left hlt] at ht;have h1 := hO k t ht;obtain ⟨-, h3, h4, -⟩ := hT k t ht;have h5 := tokP_size l t.o;rw [h4] at h5;exact ⟨fun e => absurd h1.low (by omega), by omega, fun _ => by have := h1.low; omega⟩
  · rw [List.getElem?_append_right hge] at ht;have hk0 : k - vs.length = 0 := by
     have := (gE.1 ht).1;simp at this;omega
    rw [hk0] at ht;simp at ht;subst ht;exact ⟨fun _ => rfl, by show (⟨#[]⟩ : ByteArray).size ≤ _; decide, fun h => by omega⟩
 refine ⟨⟨by simp, ?_, ?_⟩, ?_, hle.1, hle.2⟩
 · rw [List.length_append, show vs.length + [endK l].length - 1 = vs.length by simp, tk_last]; rfl
 · intro k h0;unfold tk at h0 ⊢
   cases hg : (vs ++ [endK l])[k]? with
   | none => rfl
   | some t => rw [hg] at h0; exact (hk k t hg).1 h0
 · intro k;unfold tk
   cases hg : (vs ++ [endK l])[k]? with
   | none => show (⟨#[]⟩ : ByteArray).size ≤ _; decide
   | some t => exact (hk k t hg).2.1
theorem parse_ends {L : List Fk} (hE : EndL L) : ∃ f σ, run L (40 * L.length) .filter ⟨0, 0, 0, false, 0⟩ = some (f, σ) ∧ σ.k < L.length := by
 obtain ⟨f, σ, h1, h2, h3⟩ := tm_run hE (40 * L.length) .filter ⟨0, 0, 0, false, 0⟩ hE.pos (by
  have := hE.pos
  show 40 * (L.length - 1 - 0) + 14 < 40 * L.length
  omega)
 exact ⟨f, σ, h1, h3⟩
