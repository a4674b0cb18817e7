/- The sanity check of the statements on flex. -/
import Derived.Test.YtgclmnlnbjjgkaaDoorFg
import Derived.Laws.StructEq
set_option linter.unusedVariables false
set_option linter.unusedSimpArgs false
namespace Go.Proofs.YtgclmnlnbjjgkaaDoor
open Go.RowKit
theorem own_row {w : World} {base : Nat} {e : TypeId} {n c size : Nat} {A : Option Addr} {xs : List Value} (h : w.ownsRow base e size (.slice A n c) n xs) (hn : 0 < n) :
    ∃ g, A = some ⟨g, 0, none⟩ ∧ base ≤ g ∧ g < w.heap.size ∧ ∀ j u, xs[j]? = some u → w.cell? ⟨g, j, none⟩ = some u := by
  have h2 := h
  rcases h.2 with ⟨e1, e2⟩ | ⟨g, cap, cur, e1, hb, hh, hnc, hcm, hcs, ht⟩
  · omega
  · injection e1 with e2 e3 e4
    subst e2; subst e4
    refine ⟨g, rfl, hb, (h2.lt g rfl).2, fun j u hj => ?_⟩
    have hjn : j < n * size := by
      rw [← h2.1]
      exact (List.getElem?_eq_some_iff.1 hj).1
    rw [h2.cellAt j hjn, hj]
theorem flex_open {r : Fr} {ts : List Fk} {w w' : World} {e : Ending} (h : FlexPost r w e w') (hr : r = ⟨some ts, 0, 0⟩) (hn : 0 < ts.length) :
    Below w.heap.size w w' ∧ ∃ g c, e = .returned (.tuple #[.slice (some ⟨g, 0, none⟩) ts.length c, .int .i64 0, .int .i64 0]) ∧ w.heap.size ≤ g ∧ g < w'.heap.size ∧ ∀ j u, (rowT ts)[j]? = some u → w'.cell? ⟨g, j, none⟩ = some u := by
  subst hr
  obtain ⟨hb, A, n, c, rfl, h1, h2⟩ := h
  subst h1
  obtain ⟨g, rfl, h3, h4, h5⟩ := own_row h2 hn
  exact ⟨hb, g, c, rfl, h3, h4, h5⟩
set_option maxHeartbeats 4000000 in
set_option maxRecDepth 100000 in
theorem fawake_any (w : World) (hE : ErrIn w) (hG : SgIn w) : Calls Tryd.prog 7 #[] w fun e w' => e = .returned (.bool true) ∧ Below w.heap.size w w' := by
  have HX := Lib.hid ((flex_any ⟨#[46, 97, 124, 61, 36, 120]⟩ (by decide) w hE hG).mono fun e w' h => flex_open h lex_filter (by decide))
  have hk : kwB (⟨#[97, 110, 100]⟩ : ByteArray).data.toList = true := by decide
  have HK := Lib.hid (fun W => kw_any ⟨#[97, 110, 100]⟩ W)
  rw [hk] at HK
  clear hE hG hk
  go_enter Tryd.func7, Tryd.ntmps7
  go_upto_region 2 with (go_at_call 6; refine HX.out.mono ?_; rintro e w' ⟨hb', g, c, rfl, -, hlt, hc⟩)
  have c0 := hc 0 _ rfl
  have c1 := hc 1 _ rfl
  have c2 := hc 2 _ rfl
  have c3 := hc 3 _ rfl
  have c6 := hc 6 _ rfl
  have c8 := hc 8 _ rfl
  have c12 := hc 12 _ rfl
  clear hc
  go_wp2_with (go_at_call 11; refine (HK.out _).mono ?_; rintro e w2 ⟨rfl, rfl⟩)
  all_goals go_ret
  all_goals exact ⟨rfl, hb'⟩
end Go.Proofs.YtgclmnlnbjjgkaaDoor
