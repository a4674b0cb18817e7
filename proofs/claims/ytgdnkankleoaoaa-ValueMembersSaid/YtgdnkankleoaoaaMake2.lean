/- The program's Arr. -/
import Derived.Test.YtgdnkankleoaoaaMake1
set_option linter.unusedVariables false
set_option linter.unusedSimpArgs false
namespace Go.Proofs.Ytgdnkankleoaoaa
open Go.RowKit
/-- A slice of values that came in. -/
structure SliceV (w : World) (A : Option Addr) (c : Nat) (l : List V) (xs : List Value) : Prop where
  row : Row w A l xs
  nil : A = none → c = 0
  le : l.length ≤ c
  cap : c ≤ maxLen
  lim : l.length ≤ 140737488355328
theorem SliceV.lies {w : World} {A : Option Addr} {c : Nat} {l : List V} {xs : List Value} (h : SliceV w A c l xs) : Lies w (· < w.heap.size) (arrV l) [.int .i64 5, .int .i64 0, .string ⟨#[]⟩, .slice none 0 0, .slice A l.length c] := by
  unfold arrV
  rw [Lies]
  exact ⟨⟨Nat.zero_le _, by simp, Nat.zero_le _, h.lim⟩, none, 0, A, c, xs, rfl, fun _ => rfl, h.nil, ⟨Nat.le_refl _, Nat.zero_le _⟩, ⟨h.le, h.cap⟩, Rs.nil _ _ _, h.row.rs, h.row.lies⟩
theorem SliceV.below {w w' : World} {A : Option Addr} {c : Nat} {l : List V} {xs : List Value} (h : SliceV w A c l xs) (hb : Below w.heap.size w w') : SliceV w' A c l xs := ⟨h.row.below hb, h.nil, h.le, h.cap, h.lim⟩
end Go.Proofs.Ytgdnkankleoaoaa
