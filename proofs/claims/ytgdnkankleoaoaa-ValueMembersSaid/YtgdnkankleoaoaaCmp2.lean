/- The program's Equal, Truthy, TypeName. -/
import Derived.Test.YtgdnkankleoaoaaCmp
set_option linter.unusedVariables false
set_option linter.unusedSimpArgs false
namespace Go.Proofs.Ytgdnkankleoaoaa
open Go.RowKit
theorem below_one {w w' : World} {o : Obj} (hb : Below (w.heap.size + 1) (w.alloc o) w') : Below w.heap.size w w' := below_old hb
theorem one_step {w w1 w2 : World} {o : Obj} (hb : Below (w.heap.size + 1) (w.alloc o) w1) (hc : Below w1.heap.size w1 w2) : Below (w.heap.size + 1) (w.alloc o) w2 :=
  hb.trans (hc.mono (by have := hb.size; simp at this; omega))
theorem below1 (w : World) (o : Obj) : Below w.heap.size w (w.alloc o) := (Below.refl _ _).alloc (Nat.le_refl _) o
set_option maxHeartbeats 1000000 in
set_option maxRecDepth 100000 in
theorem truthy_any (v : V) (cs : List Value) (w : World) (h : Lies w (· < w.heap.size) v cs) :
    Calls Try.prog 23 #[.agg cs.toArray] w fun e w' => e = .returned (.bool (truthP v)) ∧ Below w.heap.size w w' := by
  have q1 := Lib.hid (fun W (hW : Below w.heap.size w W) => valid_any v cs W (below_lies hW h))
  obtain ⟨k, n, s, ks, es⟩ := v
  obtain ⟨A, a, B, b, xs, rfl, _⟩ := lies_open h
  clear h
  show Calls _ _ #[.agg #[.int .i64 k, .int .i64 n, .string s, .slice A ks.length a, .slice B es.length b]] w _
  have hv : Hid (truthP (.mk k n s ks es) = (decide (k ≠ 0) && (decide (k ≠ 1) && valid (.mk k n s ks es)))) := Lib.hid rfl
  generalize truthP (.mk k n s ks es) = r at hv ⊢
  generalize valid (.mk k n s ks es) = x at q1 hv
  by_cases c0 : k = 0
  · have hr := Lib.hid (hv.out.trans (by rw [decide_eq_false (by simp [c0]), Bool.false_and]))
    have hq : (k != 0) = false := by simp [c0]
    clear c0
    go_enter Try.func23, Try.ntmps23
    go_wp2_with fail
    go_ret
    exact ⟨ret_bool hr.out.symm, below1 _ _⟩
  · have hq : (k != 0) = true := by simp [c0]
    by_cases c1 : k = 1
    · have hr := Lib.hid (hv.out.trans (by rw [decide_eq_false (p := k ≠ 1) (by simp [c1]), Bool.false_and, Bool.and_false]))
      have hq1 : (k != 1) = false := by simp [c1]
      clear c0 c1
      go_enter Try.func23, Try.ntmps23
      go_wp2_with fail
      go_ret
      exact ⟨ret_bool hr.out.symm, below1 _ _⟩
    · have hr := Lib.hid (hv.out.trans (by rw [decide_eq_true c0, decide_eq_true c1, Bool.true_and, Bool.true_and]))
      have hq1 : (k != 1) = true := by simp [c1]
      clear c0 c1
      go_enter Try.func23, Try.ntmps23
      go_wp2_with fail
      refine (q1.out _ (below1 _ _)).mono ?_
      rintro e1 w1 ⟨rfl, hb1⟩
      go_wp2_with fail
      go_ret
      exact ⟨ret_bool hr.out.symm, chain (below1 _ _) hb1⟩
/-- The name of a kind. -/
def kindName (k : Int) : ByteArray :=
  if k = 0 then ⟨#[110, 117, 108, 108]⟩ else if k = 3 then ⟨#[110, 117, 109, 98, 101, 114]⟩ else if k = 4 then ⟨#[115, 116, 114, 105, 110, 103]⟩ else if k = 5 then ⟨#[97, 114, 114, 97, 121]⟩ else if k = 6 then ⟨#[111, 98, 106, 101, 99, 116]⟩ else ⟨#[98, 111, 111, 108, 101, 97, 110]⟩
def nameP (v : V) : ByteArray := match v with | .mk k _ _ _ _ => if valid v = true then kindName k else ⟨#[]⟩
set_option maxHeartbeats 1000000 in
set_option maxRecDepth 100000 in
theorem typeName_any (v : V) (cs : List Value) (w : World) (h : Lies w (· < w.heap.size) v cs) :
    Calls Try.prog 24 #[.agg cs.toArray] w fun e w' => e = .returned (.string (nameP v)) ∧ Below w.heap.size w w' := by
  have q1 := Lib.hid (fun W (hW : Below w.heap.size w W) => valid_any v cs W (below_lies hW h))
  obtain ⟨k, n, s, ks, es⟩ := v
  obtain ⟨A, a, B, b, xs, rfl, _⟩ := lies_open h
  clear h
  show Calls _ _ #[.agg #[.int .i64 k, .int .i64 n, .string s, .slice A ks.length a, .slice B es.length b]] w _
  have hv : Hid (nameP (.mk k n s ks es) = if valid (.mk k n s ks es) = true then kindName k else ⟨#[]⟩) := Lib.hid rfl
  generalize nameP (.mk k n s ks es) = r at hv ⊢
  generalize valid (.mk k n s ks es) = x at q1 hv
  cases x with
  | false =>
    have hr := Lib.hid (hv.out.trans (if_neg (by decide)))
    go_enter Try.func24, Try.ntmps24
    go_wp2_with fail
    refine (q1.out _ (below1 _ _)).mono ?_
    rintro e1 w1 ⟨rfl, hb1⟩
    go_wp2_with fail
    go_ret
    exact ⟨by rw [hr.out]; rfl, chain (below1 _ _) hb1⟩
  | true =>
    have hr := Lib.hid (hv.out.trans (if_pos rfl))
    go_enter Try.func24, Try.ntmps24
    go_wp2_with fail
    refine (q1.out _ (below1 _ _)).mono ?_
    rintro e1 w1 ⟨rfl, hb1⟩
    have hB1 := Lib.hid (one_step (Below.refl _ _) hb1)
    have m0 := box_cell hB1.out 0 _ rfl
    go_wp2_with fail
    all_goals
      go_ret
      refine ⟨congrArg (fun q => Ending.returned (Value.string q)) (Eq.trans ?_ hr.out.symm), below_one hB1.out⟩
      clear hr hv q1
      simp_all [kindName]
end Go.Proofs.Ytgdnkankleoaoaa
