/- The reference's Bool, Num, Text, Fit, Str, all. append(v, x...), v a row of the call's own, x any slice that reads as a list: nil, empty or not; elements of any size; at a plain list and at a step of a region that draws. Slices of slices. Nothing of the program is named here. The reference's List and Arr. -/
import Derived.Test.YtgdnkankleoaoaaMake2
import Derived.Test.YtgdnkankleoaoaaStrs
import Derived.Test.YtgdnkankleoaoaaG2
import Derived.Test.YtgdnkankleoaoaaG1
import Derived.Test.YtgdnkankleoaoaaUtf3
import Derived.Deep.QuietTactic
import Derived.BigQuiet
import Derived.Test.YtgdnkankleoaoaaMeas2
import Derived.Deep.DeepCutAuto
import Derived.Deep.RegionHeld3
import Derived.Deep.Light
import Derived.Test.YtgdnkankleoaoaaCmp2
import Derived.Test.YtgdnkankleoaoaaVal
import Derived.Laws.AppendOwnNone
import Derived.Laws.OwnMore
import Derived.RegionTactic
set_option linter.unusedVariables false
set_option linter.unusedSimpArgs false
namespace Go.Proofs.Ytgdnkankleoaoaa
open Go.RowKit
theorem below_five_at {w0 w : World} {B : Nat} (hB : w0.heap.size ≤ B) (h : Below w0.heap.size w0 w) (a b c d e : Value) :
    Below w0.heap.size w0 (((((w.setCell ⟨B, 0, none⟩ a).setCell ⟨B, 1, none⟩ b).setCell ⟨B, 2, none⟩ c).setCell ⟨B, 3, none⟩ d).setCell ⟨B, 4, none⟩ e) :=
  (((((h.setCell (by simpa using hB) _).setCell (by simpa using hB) _).setCell (by simpa using hB) _).setCell (by simpa using hB) _).setCell (by simpa using hB) _)
end Go.Proofs.Ytgdnkankleoaoaa
namespace Go.Proofs.Ytgdnkankleoaoaa
open Go.RowKit
theorem rs_none {w : World} {S : Nat → Prop} {xs : List Value} (h : Rs w S none xs) : xs = [] := by
  cases xs with
  | nil => rfl
  | cons u r => obtain ⟨b, o, e, _⟩ := h 0 u rfl; cases e
/-- The cells of values, each in one cell. -/
theorem liesL_one {w : World} {S : Nat → Prop} : ∀ {es : List V} {xs : List Value}, LiesL w S es xs → ∀ u ∈ xs, u.oneCell' = true
  | [], xs, h, u, hu => by rw [LiesL] at h; subst h; cases hu
  | e :: es, xs, h, u, hu => by
    rw [LiesL] at h
    obtain ⟨c, r, rfl, hc, hr⟩ := h
    rcases List.mem_append.1 hu with hu | hu
    · obtain ⟨k, n, s, ks, fs⟩ := e
      rw [Lies] at hc
      obtain ⟨_, A, a, B, b, ys, rfl, _⟩ := hc
      simp only [List.mem_cons, List.not_mem_nil, or_false] at hu
      rcases hu with rfl | rfl | rfl | rfl | rfl <;> rfl
    · exact liesL_one hr u hu
theorem kv_one (ks : List ByteArray) : ∀ u ∈ kv ks, u.oneCell' = true := by
  intro u hu
  simp only [kv, List.mem_map] at hu
  obtain ⟨x, _, rfl⟩ := hu
  rfl
/-- A beginning of a slice that reads as a list. -/
theorem Rs.take {w : World} {S : Nat → Prop} {A : Option Addr} {xs : List Value} (h : Rs w S A xs) (m : Nat) : Rs w S A (xs.take m) := by
  intro j u hj
  rw [List.getElem?_take] at hj
  split at hj
  · exact h j u hj
  · cases hj
/-- A rest of it: the address that the model gives. -/
def dropA (A : Option Addr) (c l s : Nat) : Option Addr := if c = l then A else A.map (·.add (l * s))
theorem dropA_none {A : Option Addr} {c l s : Nat} (h : dropA A c l s = none) : A = none := by
  unfold dropA at h
  split at h
  · exact h
  · cases A with
    | none => rfl
    | some a => cases h
theorem Rs.drop {w : World} {S : Nat → Prop} {A : Option Addr} {xs : List Value} (h : Rs w S A xs) (c l s n : Nat) (hn : xs.length = n * s) (hnc : n ≤ c) (hl : l ≤ n) : Rs w S (dropA A c l s) (xs.drop (l * s)) := by
  intro j u hj
  rw [List.getElem?_drop] at hj
  obtain ⟨b, o, e, hb, hc⟩ := h _ u hj
  have hlt : l * s + j < n * s := by
    rw [← hn]
    exact (List.getElem?_eq_some_iff.1 hj).1
  have hcl : ¬ c = l := by
    intro e2
    have : n ≤ l := by omega
    have := Nat.mul_le_mul_right s this
    omega
  refine ⟨b, o + l * s, ?_, hb, by rw [Nat.add_assoc]; exact hc⟩
  unfold dropA
  rw [if_neg hcl, e]
  simp only [Option.map_some]
  congr 1
  unfold Addr.add
  by_cases h0 : l * s = 0 <;> simp [h0]
theorem LiesL.take {w : World} {S : Nat → Prop} : ∀ {es : List V} {xs : List Value}, LiesL w S es xs → ∀ m, LiesL w S (es.take m) (xs.take (m * 5))
  | [], xs, h, m => by rw [LiesL] at h; subst h; simp; rw [LiesL]
  | e :: es, xs, h, 0 => by simp; rw [LiesL]
  | e :: es, xs, h, m + 1 => by
    rw [LiesL] at h
    obtain ⟨c, r, rfl, hc, hr⟩ := h
    have h5 := hc.five
    rw [List.take_succ_cons, LiesL]
    refine ⟨c, r.take (m * 5), ?_, hc, hr.take m⟩
    rw [List.take_append, h5, List.take_of_length_le (by omega), show (m + 1) * 5 - 5 = m * 5 from by omega]
theorem LiesL.drop {w : World} {S : Nat → Prop} : ∀ {es : List V} {xs : List Value}, LiesL w S es xs → ∀ m, LiesL w S (es.drop m) (xs.drop (m * 5))
  | [], xs, h, m => by rw [LiesL] at h; subst h; simp; rw [LiesL]
  | e :: es, xs, h, 0 => by simpa using h
  | e :: es, xs, h, m + 1 => by
    rw [LiesL] at h
    obtain ⟨c, r, rfl, hc, hr⟩ := h
    have h5 := hc.five
    rw [List.drop_succ_cons, show (m + 1) * 5 = 5 + m * 5 from by omega, ← List.drop_drop]
    have : (c ++ r).drop 5 = r := by rw [← h5]; simp
    rw [this]
    exact hr.drop m
/-- x[:i] of any slice. -/
theorem slice_to {P : Program} {w : World} {t e : TypeId} {A : Option Addr} {n c i : Nat} (ht : P.underlying t = some (.slice e)) (hz : ∃ s, ∀ w, (sizeOf e).run P w = .ok s w) (hi : i ≤ c) (hA : A = none → c = 0) :
    (Instr.sliceAt t (.slice A n c) none (some (.int .i64 (i : Int))) none).run P w = .ok (.slice A i c) w := by
  have he : P.elem t = e := by simp [Program.elem, ht]
  have ht2 : P.underlying t = some (.slice (P.elem t)) := by rw [he]; exact ht
  obtain ⟨s, hs⟩ := hz
  rw [run_sliceAt_slice w t _ _ _ _ ht2, run_slice_h w t A n c ht2 .i64 (i : Int) (by omega) (by omega), he, hs]
  simp only [Result.andThen_ok, sliced, Int.toNat_natCast, Nat.sub_zero, Nat.zero_mul]
  congr 2
  split
  · rfl
  · cases A with
    | none => rfl
    | some a => simp [Addr.add]
/-- x[i:] of any slice. -/
theorem slice_from {P : Program} {w : World} {t e : TypeId} {A : Option Addr} {n c i s : Nat} (ht : P.underlying t = some (.slice e)) (hs : ∀ w, (sizeOf e).run P w = .ok s w) (hi : i ≤ n) :
    (Instr.sliceAt t (.slice A n c) (some (.int .i64 (i : Int))) none none).run P w = .ok (.slice (dropA A c i s) (n - i) (c - i)) w := by
  have he : P.elem t = e := by simp [Program.elem, ht]
  have ht2 : P.underlying t = some (.slice (P.elem t)) := by rw [he]; exact ht
  rw [run_sliceAt_slice w t _ _ _ _ ht2, run_slice_l w t A n c ht2 .i64 (i : Int) (by omega) (by omega), he, hs]
  simp only [Result.andThen_ok, sliced, Int.toNat_natCast]
  rfl
end Go.Proofs.Ytgdnkankleoaoaa
namespace Go.Proofs.Ytgdnkankleoaoaa
open Go.RowKit
end Go.Proofs.Ytgdnkankleoaoaa
