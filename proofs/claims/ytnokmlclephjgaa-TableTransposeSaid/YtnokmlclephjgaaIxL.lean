/- table.ascending at any keys: the indexes in the stable order of the keys, as a list. -/
import Derived.Test.YtnokmlclephjgaaIxZ
set_option linter.unusedVariables false
set_option linter.unusedSimpArgs false
set_option linter.unusedSectionVars false
namespace Go.Proofs.Ytnokmlclephjgaa.Ix
open Go.Shelf Go.RowKit Go.Lib Go.Sort Go.Proofs.Ytnokmlclephjgaa
instance ikInh (v : V) (r : List V) : Inhabited (Ik (v :: r)) := ⟨⟨0, by simp⟩⟩
def Ik.ix {K : List V} (x : Ik K) : Nat := x.1
/-- The indexes in the stable order of the keys. -/
def ordL : List V → List Nat
  | [] => []
  | v :: r => (ordA (v :: r)).toList.map Ik.ix
theorem ordL_cons (v : V) (r : List V) : ordL (v :: r) = (ordA (v :: r)).toList.map Ik.ix := rfl
theorem ordL_len : ∀ K : List V, (ordL K).length = K.length
  | [] => rfl
  | v :: r => by
    rw [ordL_cons, List.length_map, Array.length_toList]
    unfold ordA
    rw [sort_size _ _ _ (Nat.zero_le _) (Nat.le_refl _), idxA_size]
theorem ordL_lt : ∀ (K : List V) (i : Nat), i ∈ ordL K → i < K.length
  | [], i, h => by simp [ordL] at h
  | v :: r, i, h => by
    rw [ordL_cons] at h
    obtain ⟨x, _, rfl⟩ := List.mem_map.1 h
    exact x.2
/-- What ascending hands back. -/
def AscPost (K : List V) (w : World) (e : Ending) (w' : World) : Prop :=
  Below w.heap.size w w' ∧ ∃ A : Option Addr, e = .returned (.slice A K.length K.length) ∧ Rs w' (fun b => w.heap.size ≤ b ∧ b < w'.heap.size) A ((ordL K).map fun i : Nat => Value.int .i64 (i : Int))
theorem ascending_all (K : List V) {c : Nat} {B : Option Addr} {xs : List Value} {S : Nat → Prop} {w : World} (hR : Rs w S B xs) (hL : LiesL w S K xs) (hS : ∀ b, S b → b < w.heap.size) (hval : K.all valid = true) (hlen : K.length ≤ 1000000) :
    Calls Try.prog 30 #[.slice B K.length c] w (AscPost K w) := by
  cases K with
  | nil =>
    refine (ascending_nil B c w).mono ?_
    rintro e w' ⟨rfl, hb⟩
    exact ⟨hb, _, rfl, Rs.nil _ _ _⟩
  | cons v r =>
    refine (ascending_any (v :: r) hR hL hS hval hlen).mono ?_
    rintro e w' ⟨rfl, hb, hH⟩
    refine ⟨hb, _, rfl, fun j u hj => ⟨w.heap.size + 1, 0, rfl, ?_, ?_⟩⟩
    · have h0 : 0 < (ordA (v :: r)).size := by
        unfold ordA
        rw [sort_size _ _ _ (Nat.zero_le _) (Nat.le_refl _), idxA_size]
        simp
      have hc := (hH 0 h0).1
      refine ⟨by omega, ?_⟩
      rcases Nat.lt_or_ge (w.heap.size + 1) w'.heap.size with h | h
      · exact h
      · simp [World.cell?, Array.getElem?_eq_none h] at hc
    · have hl := ordL_len (v :: r)
      rw [List.getElem?_map] at hj
      obtain ⟨i, hi, rfl⟩ := Option.map_eq_some_iff.1 hj
      rw [ordL_cons, List.getElem?_map] at hi
      obtain ⟨x, hx, rfl⟩ := Option.map_eq_some_iff.1 hi
      rw [Array.getElem?_toList] at hx
      obtain ⟨hjs, hxe⟩ := Array.getElem?_eq_some_iff.1 hx
      rw [(hH j hjs).1, getElem!_pos (ordA (v :: r)) j hjs, hxe]
      rfl
end Go.Proofs.Ytnokmlclephjgaa.Ix
