/- The contracts of Append and of the reference's Append. -/
import Derived.Test.YtgclmnlnbjjgkaaDoorEncB
set_option linter.unusedVariables false
set_option linter.unusedSimpArgs false
namespace Go.Proofs.YtgclmnlnbjjgkaaDoor
open Go.RowKit
/-- What Append leaves. -/
def AppendPost (l : List UInt8) (r : Int) (w : World) (e : Ending) (w' : World) : Prop :=
  Below w.heap.size w w' ∧ match cp r with
  | false => e = .returned (.tuple #[.slice none 0 0, .bool false])
  | true => ∃ v, e = .returned (.tuple #[v, .bool true]) ∧ w'.ownsRow w.heap.size 5 1 v (l ++ enc r.toNat).length (bv (l ++ enc r.toNat))
theorem AppendPost.no {l : List UInt8} {r : Int} {w w' : World} {e : Ending} (hc : cp r = false) (hb : Below w.heap.size w w') (he : e = .returned (.tuple #[.slice none 0 0, .bool false])) : AppendPost l r w e w' := by
  refine ⟨hb, ?_⟩; rw [hc]; exact he
theorem AppendPost.yes {l : List UInt8} {r : Int} {w w' : World} {e : Ending} (hc : cp r = true) (hb : Below w.heap.size w w') {v : Value} (he : e = .returned (.tuple #[v, .bool true]))
    (ho : w'.ownsRow w.heap.size 5 1 v (l.length + (enc r.toNat).length) (bv l ++ bv (enc r.toNat))) : AppendPost l r w e w' := by
  refine ⟨hb, ?_⟩; rw [hc]; exact ⟨v, he, by rw [List.length_append, bv_append]; exact ho⟩
set_option maxRecDepth 100000 in
set_option maxHeartbeats 1000000 in
theorem append_any (A : Option Addr) (c : Nat) (l : List UInt8) (r : Int) (B : Nat) (w : World) (hr : Rd w B A (bv l)) (hB : B ≤ w.heap.size) (hnil : A = none → c = 0) (hlen : l.length ≤ 16777216) :
    Calls Tryd.prog 61 #[.slice A l.length c, .int .i64 r] w fun e w' => AppendPost l r w e w' := by
  have HR := Lib.hid hr
  have HN := Lib.hid hnil
  clear hr hnil
  obtain ⟨i0, hi, hz0, hz1, hz2⟩ := info_parts inf_u8
  cases hc : cp r with
  | false =>
    go_enter Tryd.func61, Tryd.ntmps61
    go_wp2_with (go_at_call 65; refine (isCp _ _).mono ?_; rintro e w' ⟨rfl, rfl⟩)
    go_ret2
    exact AppendPost.no hc (Below.refl _ _) rfl
  | true =>
    have hcr := cp_range_int hc
    have hlb := bv_length l
    have HL := Lib.hid hlb
    clear hlb
    go_enter Tryd.func61, Tryd.ntmps61
    go_wp2_with (first
      | (go_at_call 65; refine (isCp _ _).mono ?_; rintro e w' ⟨rfl, rfl⟩)
      | (at_make; refine wpList_make_own _ rfl _ _ 56 rfl w.heap.size 5 i0 (.int .u8 0) 1 Tryd.underlying56 hi hz0 hz1 .i64 .i64 _ (l.length + 4) rfl rfl (by omega) (by rw [hz2]; omega) (by unfold maxLen; omega) (Nat.le_refl _) ?_; intro w0 hown0 hgrow0)
      | (at_builtin; refine wpList_append_rd _ rfl _ _ 56 rfl w.heap.size 5 i0 (.int .u8 0) 1 Tryd.underlying56 hi hz0 hz1 hz2 rfl _ _ _ rfl hown0 B A c (bv l) (by rw [HL.out]; rfl) (HR.out.grown hgrow0 hB (fun _ h => by cases h)) HN.out (bv_one _) (by rw [HL.out]; unfold maxLen; omega) (by rw [HL.out]; omega) hgrow0.size ?_; intro v1 w1 hown1 hgrow1))
    have hb0 : Below w.heap.size w w0 := (Below.refl _ _).grown hgrow0 (Nat.le_refl _) (fun _ h => by cases h)
    have hb1 : Below w.heap.size w w1 := hb0.grown hgrow1 hgrow0.size (fun j hj => (hown0.lt j hj).1)
    rw [HL.out] at hown1
    simp only [Nat.zero_add, List.nil_append] at hown1
    clear hgrow0 hgrow1 hown0 hb0
    refine (app_any v1 r hcr.1 hcr.2 _ w.heap.size l.length (bv l) hown1 (by omega) hb1.size).mono ?_
    rintro e w2 ⟨v2, rfl, hown2, hb2⟩
    have hb3 := hb1.trans hb2
    clear hown1 hb1 hb2
    go_wp2
    go_ret2
    exact AppendPost.yes hc hb3 rfl hown2
end Go.Proofs.YtgclmnlnbjjgkaaDoor
