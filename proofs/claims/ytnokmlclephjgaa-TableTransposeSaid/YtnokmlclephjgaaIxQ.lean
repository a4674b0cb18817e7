/- The stable order of indexes: ascending keys, equal keys in their old order, every index once. Plain. -/
import Derived.Test.YtnokmlclephjgaaIxL
set_option linter.unusedVariables false
set_option linter.unusedSimpArgs false
set_option linter.unusedSectionVars false
namespace Go.Proofs.Ytnokmlclephjgaa.Ix
open Go.Shelf Go.RowKit Go.Lib Go.Sort Go.Proofs.Ytnokmlclephjgaa
theorem idx_asc (K : List V) : (idxA K).toList.Pairwise fun x y => x.1 < y.1 := by
  refine List.pairwise_iff_getElem.2 fun i j hi hj hij => ?_
  have e : ∀ (i : Nat) (h : i < (idxA K).toList.length), ((idxA K).toList[i]).1 = i := fun i h => by
    have h2 : i < K.length := by rw [Array.length_toList, idxA_size] at h; exact h
    have e2 : (idxA K).toList[i]? = some (Ik.at K ⟨i, h2⟩) := by rw [Array.getElem?_toList]; unfold idxA; rw [Array.getElem?_ofFn, dif_pos h2]
    rw [List.getElem?_eq_getElem h] at e2
    injection e2 with e2
    rw [e2]
    rfl
  rw [e i hi, e j hj]
  exact hij
theorem ordA_stable (K : List V) [Inhabited (Ik K)] : (ordA K).toList.Pairwise fun x y => vcmp x.key y.key < 0 ∨ (x.key = y.key ∧ x.1 < y.1) := by
  obtain ⟨hs, hf⟩ := ins_so (idxA K)
  refine List.pairwise_iff_forall_sublist.2 fun {x y} hxy => ?_
  have h1 : lk y x = false := List.pairwise_iff_forall_sublist.1 hs hxy
  by_cases hk : x.key = y.key
  · refine .inr ⟨hk, ?_⟩
    have h2 : List.Sublist [x, y] (fk y.key (ordA K).toList) := by
      have h9 := hxy.filter (fun m => decide (m.key = y.key))
      unfold fk
      simpa [hk] using h9
    unfold ordA at h2
    rw [hf] at h2
    exact List.pairwise_iff_forall_sublist.1 (idx_asc K) (h2.trans List.filter_sublist)
  · have h2 : ¬ vcmp y.key x.key < 0 := of_decide_eq_false h1
    have h3 := vcmp_anti y.key x.key
    have h4 : ¬ vcmp x.key y.key = 0 := fun h => hk ((vcmp_zero _ _).1 h)
    exact .inl (by omega)
theorem ordL_stable : ∀ K : List V, (ordL K).Pairwise fun i j => ∃ x y, K[i]? = some x ∧ K[j]? = some y ∧ (vcmp x y < 0 ∨ (x = y ∧ i < j))
  | [] => List.Pairwise.nil
  | v :: r => by
    rw [ordL_cons]
    refine List.pairwise_map.2 ((ordA_stable (v :: r)).imp fun {x y} h => ⟨x.key, y.key, key_get x, key_get y, h⟩)
theorem ordL_nodup (K : List V) : (ordL K).Nodup := (ordL_stable K).imp fun {i j} ⟨x, y, hx, hy, h⟩ e => by
  subst e
  rw [hx] at hy
  injection hy with hy
  subst hy
  rcases h with h | h
  · rw [(vcmp_zero _ _).2 rfl] at h; omega
  · omega
end Go.Proofs.Ytnokmlclephjgaa.Ix
