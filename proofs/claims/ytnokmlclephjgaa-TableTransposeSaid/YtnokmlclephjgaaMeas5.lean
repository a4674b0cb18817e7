/- The program's measure, Valid, Depth, Nodes. -/
import Derived.Test.YtnokmlclephjgaaMeas4
set_option linter.unusedVariables false
set_option linter.unusedSimpArgs false
namespace Go.Proofs.Ytnokmlclephjgaa
open Go.RowKit
/-- The program's measure of a value: depth, nodes, bytes, or none. -/
def meas (v : V) : Option (Int × Int × Int) := addP v 0 0 0 0
def measV : Option (Int × Int × Int) → Value
  | none => .tuple #[.agg #[.int .i64 0, .int .i64 0, .int .i64 0], .bool false]
  | some (d, m, b) => .tuple #[.agg #[.int .i64 d, .int .i64 m, .int .i64 b], .bool true]
set_option maxHeartbeats 1000000 in
set_option maxRecDepth 100000 in
theorem measure_any (v : V) (cs : List Value) (w : World) (h : Lies w (· < w.heap.size) v cs) :
    Calls Try.prog 40 #[.agg cs.toArray] w fun e w' => e = .returned (measV (meas v)) ∧ Below w.heap.size w w' := by
  generalize hq : meas v = o
  have HQ := Lib.hid hq
  clear hq
  have hl := Lib.hid h
  obtain ⟨k, n, s, ks, es⟩ := v
  obtain ⟨A, a, B, b, xs, rfl, _⟩ := lies_open h
  clear h
  show Calls _ _ #[.agg #[.int .i64 k, .int .i64 n, .string s, .slice A ks.length a, .slice B es.length b]] w _
  have hbx : ∀ (x y z : Obj), Lies (((w.alloc x).alloc y).alloc z) (· < w.heap.size) (.mk k n s ks es) [.int .i64 k, .int .i64 n, .string s, .slice A ks.length a, .slice B es.length b] := fun x y z =>
    hl.out.move fun i hi => ⟨hi, by rw [Below.heap_alloc _ _ _ (by simp; omega), Below.heap_alloc _ _ _ (by simp; omega), Below.heap_alloc _ _ _ hi]⟩
  have HL := Lib.hid hbx
  clear hbx
  have hcall : ∀ x y : Obj, Calls Try.prog 51 #[.pointer (some ⟨w.heap.size + 2, 0, none⟩), .agg #[.int .i64 k, .int .i64 n, .string s, .slice A ks.length a, .slice B es.length b], .int .i64 0]
      (((w.alloc x).alloc y).alloc (.cells #[.int .i64 0, .int .i64 0, .int .i64 0] 66)) (AddPost (w.heap.size + 2) o (((w.alloc x).alloc y).alloc (.cells #[.int .i64 0, .int .i64 0, .int .i64 0] 66))) := by
    intro x y
    have hb := Box.laid ((w.alloc x).alloc y) 66 #[.int .i64 0, .int .i64 0, .int .i64 0]
    have e : ((w.alloc x).alloc y).heap.size = w.heap.size + 2 := by simp
    rw [e] at hb
    rw [← HQ.out]
    exact add_any (.mk k n s ks es) (w.heap.size + 2) 0 0 0 0 [.int .i64 k, .int .i64 n, .string s, .slice A ks.length a, .slice B es.length b] (· < w.heap.size) _ hb (HL.out _ _ _) (fun b hb => ⟨by simp; omega, by omega⟩) (by omega) (by omega) (by omega) (by omega) (by omega) (by omega) (by omega) (by omega)
  have HC := Lib.hid hcall
  clear hcall
  cases o with
  | none =>
    go_enter Try.func40, Try.ntmps40
    go_wp2_with fail
    refine (HC.out _ _).mono ?_
    rintro e1 w1 ⟨hg, rfl⟩
    have hsz : w.heap.size + 2 < w1.heap.size := by have := hg.size; simp at this; omega
    have hres : Hid (Box w1 (w.heap.size + 1) 66 #[.int .i64 0, .int .i64 0, .int .i64 0]) := Lib.hid (by
      have h1 := Box.laid (w.alloc (.cells #[.int .i64 k, .int .i64 n, .string s, .slice A ks.length a, .slice B es.length b] 27)) 66 #[.int .i64 0, .int .i64 0, .int .i64 0]
      have e : (w.alloc (.cells #[.int .i64 k, .int .i64 n, .string s, .slice A ks.length a, .slice B es.length b] 27)).heap.size = w.heap.size + 1 := by simp
      rw [e] at h1
      exact (h1.alloc _).grown hg (by simp))
    have hb : Hid (Below w.heap.size w w1) := Lib.hid (((((Below.refl _ _).alloc (Nat.le_refl _) _).alloc (by simp) _).alloc (by simp; omega) _).trans ((grown_below hg (by simp)).mono (by omega)))
    obtain ⟨r0, r1, r2, f0, f1, f2⟩ := box3 hres.out
    go_wp2_with fail
    refine bodyPost_ret (v := .tuple #[.agg #[.int .i64 0, .int .i64 0, .int .i64 0], .bool false]) (by simp [results, Try.results40, go_sem, r0, r1, r2]) rfl ⟨rfl, ?_⟩
    exact ((hb.out.setCell (by simp) _).setCell (by simp) _).setCell (by simp) _
  | some q =>
    obtain ⟨d, m, c⟩ := q
    go_enter Try.func40, Try.ntmps40
    go_wp2_with fail
    refine (HC.out _ _).mono ?_
    rintro e1 w1 ⟨hg, rfl, hbx⟩
    have hsz : w.heap.size + 2 < w1.heap.size := by have := hg.size; simp at this; omega
    have hres : Hid (Box w1 (w.heap.size + 1) 66 #[.int .i64 0, .int .i64 0, .int .i64 0]) := Lib.hid (by
      have h1 := Box.laid (w.alloc (.cells #[.int .i64 k, .int .i64 n, .string s, .slice A ks.length a, .slice B es.length b] 27)) 66 #[.int .i64 0, .int .i64 0, .int .i64 0]
      have e : (w.alloc (.cells #[.int .i64 k, .int .i64 n, .string s, .slice A ks.length a, .slice B es.length b] 27)).heap.size = w.heap.size + 1 := by simp
      rw [e] at h1
      exact (h1.alloc _).grown hg (by simp))
    have hb : Hid (Below w.heap.size w w1) := Lib.hid (((((Below.refl _ _).alloc (Nat.le_refl _) _).alloc (by simp) _).alloc (by simp; omega) _).trans ((grown_below hg (by simp)).mono (by omega)))
    obtain ⟨r0, r1, r2, f0, f1, f2⟩ := box3 hres.out
    obtain ⟨q0, q1, q2, _, _, _⟩ := box3 hbx
    clear hbx
    go_wp2_with fail
    refine bodyPost_ret (v := .tuple #[.agg #[.int .i64 d, .int .i64 m, .int .i64 c], .bool true]) (by simp [results, Try.results40, go_sem, r0, r1, r2]) rfl ⟨rfl, ?_⟩
    exact ((hb.out.setCell (by simp) _).setCell (by simp) _).setCell (by simp) _
def valid (v : V) : Bool := (meas v).isSome
set_option maxHeartbeats 1000000 in
set_option maxRecDepth 100000 in
theorem valid_any (v : V) (cs : List Value) (w : World) (h : Lies w (· < w.heap.size) v cs) :
    Calls Try.prog 26 #[.agg cs.toArray] w fun e w' => e = .returned (.bool (valid v)) ∧ Below w.heap.size w w' := by
  have HC : Hid (∀ W, Below w.heap.size w W → Calls Try.prog 40 #[.agg cs.toArray] W fun e w' => e = .returned (measV (meas v)) ∧ Below W.heap.size W w') := Lib.hid fun W hW => measure_any v cs W (below_lies hW h)
  obtain ⟨k, n, s, ks, es⟩ := v
  obtain ⟨A, a, B, b, xs, rfl, _⟩ := lies_open h
  clear h
  show Calls _ _ #[.agg #[.int .i64 k, .int .i64 n, .string s, .slice A ks.length a, .slice B es.length b]] w _
  generalize hq : V.mk k n s ks es = v at HC ⊢
  clear hq
  unfold valid
  generalize meas v = o at HC ⊢
  rcases o with _ | ⟨d, m, c⟩
  all_goals
    simp only [measV] at HC
    go_enter Try.func26, Try.ntmps26
    go_wp2_with fail
    refine (HC.out _ ((Below.refl _ _).alloc (Nat.le_refl _) _)).mono ?_
    rintro e1 w1 ⟨rfl, hb⟩
    have hb2 := Lib.hid (((Below.refl w.heap.size w).alloc (Nat.le_refl _) _).trans (hb.mono (by simp)))
    go_wp2_with fail
    go_ret
    exact ⟨rfl, hb2.out.alloc (hb2.out.size) _⟩
end Go.Proofs.Ytnokmlclephjgaa
