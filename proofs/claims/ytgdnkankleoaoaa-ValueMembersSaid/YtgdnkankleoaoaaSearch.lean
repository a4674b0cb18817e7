/- slices.BinarySearch at strings: where a key stands in an ascending list. -/
import Derived.Shelf.Spec.SearchS
import Derived.Ground.Names2Prog
import Derived.Test.YtgdnkankleoaoaaRows
import Derived.Test.YtgdnkankleoaoaaObjQ
import Derived.Lib.Hide
set_option linter.unusedVariables false
set_option linter.unusedSimpArgs false
namespace Go.Proofs
open Go.Shelf Go.RowKit
def Try.bsl_ren : Go.Shelf.Ren := ⟨fun | 26 => 30 | 33 => 51 | 34 => 52 | 38 => 64 | n => n, fun | 24 => 22 | 9 => 9 | 3 => 3 | 4 => 4 | 40 => 82 | 0 => 0 | n => n, fun | n => n⟩
theorem Try.bsl : Go.Proofs.Lays2.n26 Try.prog Try.bsl_ren := {
  mixed := by kernel_rfl
  f26 := Try.func30.trans (congrArg some (by kernel_rfl))
  f33 := Try.func51.trans (congrArg some (by kernel_rfl))
  f34 := Try.func52.trans (congrArg some (by kernel_rfl))
  f38 := Try.func64.trans (congrArg some (by kernel_rfl))
  t0 := Try.underlying0
  a0 := Try.isAgg0
  z0 := Try.sizeOf0
  v0 := Try.zeroValue0
  t3 := Try.underlying3
  a3 := Try.isAgg3
  z3 := Try.sizeOf3
  v3 := Try.zeroValue3
  t4 := Try.underlying4
  a4 := Try.isAgg4
  z4 := Try.sizeOf4
  v4 := Try.zeroValue4
  t9 := Try.underlying9
  a9 := Try.isAgg9
  z9 := Try.sizeOf9
  v9 := Try.zeroValue9
  t24 := Try.underlying22
  a24 := Try.isAgg22
  z24 := Try.sizeOf22
  v24 := Try.zeroValue22
  t40 := Try.underlying82
  a40 := Try.isAgg82
  z40 := Try.sizeOf82
  v40 := Try.zeroValue82 }

end Go.Proofs
namespace Go.Proofs.Ytgdnkankleoaoaa
open Go.RowKit Go.Sort
/-- Where the halving stands. -/
theorem halving {ks : List ByteArray} {key : ByteArray} (h : Asc ks) :
    ∃ m, m ≤ ks.length ∧ idxOf ks key = (if ks[m]? = some key then some m else none) ∧ Lib.bsGo (fun t => Op.bytesLess ((ks[t]?).getD key).toList key.toList) ks.length 0 ks.length = m := by
  obtain ⟨m, h0, h1, h2⟩ := split_asc (key := key) h
  refine ⟨m, h0, idxOf_split h h1 h2, Lib.bsGo_spec _ m (fun t ht => ?_) (fun t ht => ?_) _ _ _ (by omega) (by omega) h0⟩
  · have hx := List.getElem?_eq_getElem (show t < ks.length by omega)
    rw [hx, Option.getD_some, less_eq, decide_eq_true (h1 t _ hx ht)]
  · cases hx : ks[t]? with
    | none => rw [Option.getD_none, less_eq, scmp_self]; rfl
    | some x => rw [Option.getD_some, less_eq, decide_eq_false (h2 t x hx ht)]
theorem search_any (A : Option Addr) (a : Nat) (ks : List ByteArray) (key : ByteArray) (S : Nat → Prop) (w : World) (hA : Rs w S A (kv ks)) (hk : ks.length ≤ 1000000) (hs : Asc ks) :
    Calls Try.prog 30 #[.slice A ks.length a, .string key] w fun e w' =>
      (∃ p : Nat, e = .returned (.tuple #[.int .i64 p, .bool (idxOf ks key).isSome]) ∧ ∀ i, idxOf ks key = some i → p = i) ∧ ∃ q, w' = w.drewN q := by
  by_cases h0 : ks.length = 0
  · have hn : ks = [] := List.eq_nil_of_length_eq_zero h0
    subst hn
    refine (Any2.slices_BinarySearch_string_empty Try.bsl A a key w).mono ?_
    rintro e w' ⟨rfl, rfl⟩
    exact ⟨⟨0, rfl, fun i hi => by simp [idxOf] at hi⟩, 0, rfl⟩
  · obtain ⟨m, hm, hi, hb⟩ := halving (key := key) hs
    obtain ⟨b, o, rfl, hS, hc0⟩ := hA.at_ (kv_at (List.getElem?_eq_getElem (show 0 < ks.length by omega)))
    have hc : ∀ j, j < ks.length → w.cell? ⟨b, o + j, none⟩ = some (.string ((ks[j]?).getD key)) := by
      intro j hj
      have hx := List.getElem?_eq_getElem hj
      obtain ⟨b', o', he, _, hc⟩ := hA.at_ (kv_at hx)
      injection he with he
      injection he with e1 e2
      subst e1; subst e2
      rw [hx, Option.getD_some]
      exact hc
    refine (Any2.slices_BinarySearch_string Try.bsl b o ks.length a (fun t => (ks[t]?).getD key) key w (by omega) hc).mono ?_
    rintro e w' ⟨rfl, q, rfl⟩
    rw [hb, hi]
    refine ⟨⟨m, ?_, fun i h => ?_⟩, q, rfl⟩
    · have hd : decide (m < ks.length ∧ (ks[m]?).getD key = key) = (if ks[m]? = some key then some m else none).isSome := by
        by_cases hx : ks[m]? = some key
        · rw [if_pos hx, Option.isSome_some, decide_eq_true_iff, hx]
          exact ⟨(List.getElem?_eq_some_iff.1 hx).1, rfl⟩
        · rw [if_neg hx, Option.isSome_none, decide_eq_false_iff_not]
          rintro ⟨h1, h2⟩
          apply hx
          rw [List.getElem?_eq_getElem h1] at h2 ⊢
          rw [Option.getD_some] at h2
          rw [h2]
      rw [← hd]
    · by_cases hx : ks[m]? = some key
      · rw [if_pos hx] at h; injection h
      · rw [if_neg hx] at h; cases h
end Go.Proofs.Ytgdnkankleoaoaa
