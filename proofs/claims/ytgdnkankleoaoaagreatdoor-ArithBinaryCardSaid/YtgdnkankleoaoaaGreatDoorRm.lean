/- arith.remainder on any two valid values, and Binary at "%". -/
import Derived.Test.YtgdnkankleoaoaaGreatDoorA36
set_option linter.unusedVariables false
set_option linter.unusedSimpArgs false
namespace Go.Proofs.YtgdnkankleoaoaaGreatDoor
open Go.RowKit Go.Sort
set_option maxHeartbeats 4000000 in
set_option maxRecDepth 100000 in
theorem rem_left (k k2 : Int) (h : k ≠ 3) (n n2 : Int) (s s2 : ByteArray) (A B A2 B2 : Option Addr) (la a lb b la2 a2 lb2 b2 : Nat) (w : World) :
    Calls Tryz.prog 110 #[.agg #[.int .i64 k, .int .i64 n, .string s, .slice A la a, .slice B lb b], .agg #[.int .i64 k2, .int .i64 n2, .string s2, .slice A2 la2 a2, .slice B2 lb2 b2]] w (RetPost vnull 12 w) := by
  have q : (k == 3) = false := by simpa using h
  have H1 := Lib.hid (B3.start w #[.int .i64 k, .int .i64 n, .string s, .slice A la a, .slice B lb b] #[.int .i64 k2, .int .i64 n2, .string s2, .slice A2 la2 a2, .slice B2 lb2 b2])
  go_enter Tryz.func110, Tryz.ntmps110
  go_wp2_with fail
  refine bodyPost_ret (v := .tuple #[.agg #[.int .i64 0, .int .i64 0, .string ⟨#[]⟩, .slice none 0 0, .slice none 0 0], .int .i64 12]) (by simp [results, Tryz.results110, go_sem]) rfl ?_
  exact ret_of (ds := [.int .i64 0, .int .i64 0, .string ⟨#[]⟩, .slice none 0 0, .slice none 0 0]) H1.out.below (lies_null _ _)
set_option maxHeartbeats 4000000 in
set_option maxRecDepth 100000 in
theorem rem_right (k2 : Int) (h : k2 ≠ 3) (n n2 : Int) (s s2 : ByteArray) (A B A2 B2 : Option Addr) (la a lb b la2 a2 lb2 b2 : Nat) (w : World) :
    Calls Tryz.prog 110 #[.agg #[.int .i64 3, .int .i64 n, .string s, .slice A la a, .slice B lb b], .agg #[.int .i64 k2, .int .i64 n2, .string s2, .slice A2 la2 a2, .slice B2 lb2 b2]] w (RetPost vnull 12 w) := by
  have q : (k2 == 3) = false := by simpa using h
  have H1 := Lib.hid (B3.start w #[.int .i64 3, .int .i64 n, .string s, .slice A la a, .slice B lb b] #[.int .i64 k2, .int .i64 n2, .string s2, .slice A2 la2 a2, .slice B2 lb2 b2])
  go_enter Tryz.func110, Tryz.ntmps110
  go_wp2_with fail
  refine bodyPost_ret (v := .tuple #[.agg #[.int .i64 0, .int .i64 0, .string ⟨#[]⟩, .slice none 0 0, .slice none 0 0], .int .i64 12]) (by simp [results, Tryz.results110, go_sem]) rfl ?_
  exact ret_of (ds := [.int .i64 0, .int .i64 0, .string ⟨#[]⟩, .slice none 0 0, .slice none 0 0]) H1.out.below (lies_null _ _)
/-- What '%' is on valid values. -/
def remR : V → V → V × Int
  | .mk k n _ _ _, .mk k2 n2 _ _ _ => if k = 3 then (if k2 = 3 then (if n2 = 0 then (vnull, 13) else (numV (Int.tmod n n2), 0)) else (vnull, 12)) else (vnull, 12)
theorem remv_any (v u : V) (cs ds : List Value) (w : World) (h : Lies w (· < w.heap.size) v cs) (h' : Lies w (· < w.heap.size) u ds) :
    Calls Tryz.prog 110 #[.agg cs.toArray, .agg ds.toArray] w (RetPost (remR v u).1 (remR v u).2 w) := by
  obtain ⟨k, n, s, ks, es⟩ := v
  obtain ⟨k2, n2, s2, ks2, es2⟩ := u
  obtain ⟨A, a, B, b, xs, rfl, _⟩ := lies_open h
  obtain ⟨A2, a2, B2, b2', ys, rfl, _⟩ := lies_open h'
  have hd : remR (V.mk k n s ks es) (V.mk k2 n2 s2 ks2 es2) = if k = 3 then (if k2 = 3 then (if n2 = 0 then (vnull, 13) else (numV (Int.tmod n n2), 0)) else (vnull, 12)) else (vnull, 12) := rfl
  rw [hd]
  clear hd
  by_cases c3 : k = 3
  · rw [if_pos c3]
    subst c3
    by_cases c4 : k2 = 3
    · rw [if_pos c4]
      subst c4
      by_cases h0 : n2 = 0
      · rw [if_pos h0]
        subst h0
        exact rem_zero n s s2 A B A2 B2 _ a _ b _ a2 _ b2' w
      · rw [if_neg h0]
        exact rem_num n n2 s s2 A B A2 B2 _ a _ b _ a2 _ b2' w h0
    · rw [if_neg c4]
      exact rem_right k2 c4 n n2 s s2 A B A2 B2 _ a _ b _ a2 _ b2' w
  · rw [if_neg c3]
    exact rem_left k k2 c3 n n2 s s2 A B A2 B2 _ a _ b _ a2 _ b2' w
/-- Binary at "%". -/
theorem bin_remv (v u : V) (cs ds : List Value) (w : World) (h : Lies w (· < w.heap.size) v cs) (h' : Lies w (· < w.heap.size) u ds) (hv : valid v = true) (hu : valid u = true) :
    Calls Tryz.prog 14 #[.string ⟨#[37]⟩, .agg cs.toArray, .agg ds.toArray] w (RetPost (remR v u).1 (remR v u).2 w) :=
  bin_rem v u cs ds w h h' hv hu _ _ fun W hW => remv_any v u cs ds W (below_lies hW h) (below_lies hW h')
end Go.Proofs.YtgdnkankleoaoaaGreatDoor
