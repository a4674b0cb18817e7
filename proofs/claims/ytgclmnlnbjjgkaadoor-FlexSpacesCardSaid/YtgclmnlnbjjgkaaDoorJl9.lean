/- The end of a string, and what an escape appends. -/
import Derived.Test.YtgclmnlnbjjgkaaDoorJl8
import Derived.Test.YtgclmnlnbjjgkaaDoorEncD
import Derived.Lib.AppendStr
set_option linter.unusedVariables false
set_option linter.unusedSimpArgs false
namespace Go.Proofs.YtgclmnlnbjjgkaaDoor
open Go.RowKit
theorem own_belowJ {w w' : World} {base : Nat} {e : TypeId} {size n : Nat} {v : Value} {xs : List Value} (h : w.ownsRow base e size v n xs) (hb : Below w.heap.size w w') : w'.ownsRow base e size v n xs :=
  h.kept (below_grown hb none) (by cases v.ownBlock <;> simp)
def strEj (k t : Nat) (out : List UInt8) : Lx := if out.length ≤ 4096 then okX 4 k t 0 0 ⟨out.toArray⟩ else noX k 2
set_option maxHeartbeats 2000000 in
set_option maxRecDepth 100000 in
theorem finish_str (v : Value) (out : List UInt8) (k t base : Nat) (w : World) (hown : w.ownsRow base 5 1 v out.length (bv out)) (hlen : out.length ≤ 16777216) :
    Calls Tryd.prog 52 #[v, .int .i64 k, .int .i64 t] w (LexPost (strEj k t out) w) := by
  obtain ⟨W1, hW1⟩ : ∃ X, X = w.alloc (.cells #[.int .i64 0, .int .i64 0, .int .i64 0, .int .u8 0, .int .i64 0, .string ⟨#[]⟩] 49) := ⟨_, rfl⟩
  have hc := conv_own (w := W1) (by rw [hW1]; exact hown.alloc _)
  have HBX : Hid (Box W1 w.heap.size 49 #[.int .i64 0, .int .i64 0, .int .i64 0, .int .u8 0, .int .i64 0, .string ⟨#[]⟩]) := Lib.hid (by rw [hW1]; exact Box.laid w _ _)
  have HBL : Hid (Below w.heap.size w W1) := Lib.hid (by rw [hW1]; exact (Below.refl _ _).alloc (Nat.le_refl _) _)
  obtain ⟨A, c, rfl, hl, hr⟩ := own_slice hown
  have HW1 := Lib.hid hW1
  clear hW1 hl hr hown
  by_cases h : out.length ≤ 4096
  · have hx : strEj k t out = okX 4 k t 0 0 ⟨out.toArray⟩ := if_pos h
    rw [hx]
    clear hx
    have hi : ¬ (4096 : Int) < (out.length : Int) := by omega
    go_enter Tryd.func52, Tryd.ntmps52
    go_upto_region 1 with fail
    rw [← HW1.out]
    go_wp2_with (go_at_call 38; refine (found_any _ _ _ _ _ _ _).mono ?_; rintro e w' ⟨rfl, hb'⟩; have bx := HBX.out.below hb' HBX.out.lt; obtain ⟨t0, t1, t2, t3, t4, t5⟩ := box6 bx; obtain ⟨f0, f1, f2, f3, f4, f5⟩ := free6 bx)
    exact lex_ret Tryd.results52 rfl rfl rfl rfl (put6 bx _ _ _ _ _ _) (below_six (Nat.le_refl _) (HBL.out.trans (hb'.mono HBL.out.size)) _ _ _ _ _ _)
  · have hx : strEj k t out = noX k 2 := if_neg h
    rw [hx]
    clear hx
    have hi : (4096 : Int) < (out.length : Int) := by omega
    go_enter Tryd.func52, Tryd.ntmps52
    go_upto_region 1 with fail
    rw [← HW1.out]
    go_wp2_with (go_at_call 37; refine (fail_any _ _ _).mono ?_; rintro e w' ⟨rfl, hb'⟩; have bx := HBX.out.below hb' HBX.out.lt; obtain ⟨t0, t1, t2, t3, t4, t5⟩ := box6 bx; obtain ⟨f0, f1, f2, f3, f4, f5⟩ := free6 bx)
    exact lex_ret Tryd.results52 rfl rfl rfl rfl (put6 bx _ _ _ _ _ _) (below_six (Nat.le_refl _) (HBL.out.trans (hb'.mono HBL.out.size)) _ _ _ _ _ _)
theorem own_nil {w : World} {base n : Nat} {e : TypeId} {A : Option Addr} {m c : Nat} {xs : List Value} (h : w.ownsRow base e 1 (.slice A m c) n xs) : A = none → c = 0 := fun h0 => by
  subst h0
  rcases h.2 with ⟨h1, h2⟩ | ⟨g, cap, cur, h1, _⟩
  · first | (injection h1 with _ _ h3; exact h3) | (injection h2 with _ _ h3; exact h3) | (cases h1; rfl) | (cases h2; rfl)
  · cases h1
def PointPost (base : Nat) (out : List UInt8) (w : World) (e : Ending) (w' : World) : Prop := ∃ v, e = .returned v ∧ w'.ownsRow base 5 1 v out.length (bv out) ∧ Below base w w'
set_option maxHeartbeats 2000000 in
set_option maxRecDepth 100000 in
theorem point_any (v : Value) (out : List UInt8) (r base : Nat) (hc : cp (r : Int) = true) (w : World) (hown : w.ownsRow base 5 1 v out.length (bv out)) (hlen : out.length ≤ 16777216) (hB : base ≤ w.heap.size) :
    Calls Tryd.prog 54 #[v, .int .i64 r] w (PointPost base (out ++ enc r) w) := by
  have hA : Calls Tryd.prog 61 #[.slice none 0 0, .int .i64 r] w fun e w' => ∃ v, e = .returned (.tuple #[v, .bool true]) ∧ w'.ownsRow w.heap.size 5 1 v (enc r).length (bv (enc r)) ∧ Below w.heap.size w w' := by
    refine (append_any none 0 [] r w.heap.size w (Rd.nil _ _ _) (Nat.le_refl _) (fun _ => rfl) (by simp)).mono fun e w' h => ?_
    obtain ⟨hb, h⟩ := h
    rw [hc] at h
    obtain ⟨v, h1, h2⟩ := h
    exact ⟨v, h1, h2, hb⟩
  have HA := Lib.hid hA
  obtain ⟨A0, c0, rfl, hl0, -⟩ := own_slice hown
  have HO := Lib.hid hown
  clear hl0
  obtain ⟨i0, hi, hz0, hz1, hz2⟩ := info_parts inf_u8
  have hel := enc_len r
  clear hA hown
  go_enter Tryd.func54, Tryd.ntmps54
  go_wp2_with (first
    | (go_at_call 61; refine HA.out.mono ?_; rintro e w1 ⟨v1, rfl, hown1, hb1⟩; obtain ⟨A1, c1, rfl, hl1, hr1⟩ := own_slice hown1; have HO1 := Lib.hid (own_belowJ HO.out hb1); have HR := Lib.hid hr1; have HN := Lib.hid (own_nil hown1); have HLB := Lib.hid (bv_length (enc r)); have hB1 : base ≤ w1.heap.size := Nat.le_trans hB hb1.size; have HBL := Lib.hid (hb1.mono hB); clear hown1 hr1 hl1 hb1)
    | (at_builtin; refine wpList_append_rd _ rfl _ _ 56 rfl base 5 i0 (.int .u8 0) 1 Tryd.underlying56 hi hz0 hz1 hz2 rfl (.slice A0 out.length c0) out.length (bv out) rfl HO1.out w1.heap.size A1 c1 (bv (enc r)) (by rw [HLB.out]; rfl) HR.out HN.out (bv_one _) (by rw [HLB.out]; unfold maxLen; omega) (by rw [HLB.out]; omega) hB1 ?_; intro v2 w2 hown2 hgrow2; rw [HLB.out] at hown2))
  go_ret
  exact ⟨_, rfl, by rw [List.length_append, bv_append]; exact hown2, HBL.out.grown hgrow2 hB1 (fun j hj => (HO1.out.lt j hj).1)⟩
end Go.Proofs.YtgclmnlnbjjgkaaDoor
