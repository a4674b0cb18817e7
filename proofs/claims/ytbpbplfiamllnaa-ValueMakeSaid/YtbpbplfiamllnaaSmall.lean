/- keep.Small: some answer, and nothing that was there has turned. -/
import Derived.Test.YtbpbplfiamllnaaAwake
import Derived.Test.YtbpbplfiamllnaaCnt
set_option linter.unusedVariables false
set_option linter.unusedSimpArgs false
namespace Go.Proofs.Ytbpbplfiamllnaa
open Go.RowKit Go.Sort
/-- What Small answers. -/
def smallP (m : Int) (l : List V) : Bool := l.all fun v => decide (cnt v m ≤ m)
def smallFrom (m : Int) (l : List V) (i : Nat) : Prop := smallP m l = smallP m (l.drop i)
theorem small_step {m : Int} {l : List V} {i : Nat} {e : V} (he : l[i]? = some e) (h : smallFrom m l i) : smallP m l = (decide (cnt e m ≤ m) && smallP m (l.drop (i + 1))) := by
  obtain ⟨h1, rfl⟩ := List.getElem?_eq_some_iff.1 he
  unfold smallFrom at h
  rw [h, List.drop_eq_getElem_cons h1]
  rfl
set_option maxHeartbeats 1000000 in
set_option maxRecDepth 100000 in
theorem small_any (m : Int) (l : List V) (A : Option Addr) (c : Nat) (xs : List Value) (w : World) (h : Row w A l xs) (hn : l.length ≤ 140737488355328) (hm0 : 0 ≤ m) (hm1 : m ≤ 1000000) :
    Calls Try.prog 10 #[.int .i64 m, .slice A l.length c] w fun e w' => e = .returned (.bool (smallP m l)) ∧ Below w.heap.size w w' := by
  have HR := Lib.hid h
  clear h
  go_enter Try.func10, Try.ntmps10
  go_wp2_with fail
  go_loopw [5] (fun t wr => ∃ i : Nat, i ≤ l.length ∧ t = .int .i64 i ∧ smallFrom m l i ∧ Below w.heap.size w wr) (fun t _ => l.length - (intOf t).toNat)
  case atStart => exact ⟨0, Nat.zero_le _, rfl, by unfold smallFrom; rw [List.drop_zero], Below.refl _ _⟩
  case round =>
    obtain ⟨i, hi, rfl, he0, hbel⟩ := hrel
    have HE := Lib.hid he0
    clear he0
    by_cases hlt : i < l.length
    · obtain ⟨e, he⟩ : ∃ e, l[i]? = some e := ⟨_, List.getElem?_eq_getElem hlt⟩
      have hst := Lib.hid (small_step he HE.out)
      have hv := count_any e
      obtain ⟨ek, en, es', eks, ees⟩ := e
      obtain ⟨bq, oq, A1, a1, C1, c1, rfl, hbq, hle, d0, d1, d2, d3, d4⟩ := elem_open HR.out.rs HR.out.lies he
      have q0 := below_cell hbel hbq d0
      have q1 := below_cell hbel hbq d1
      have q2 := below_cell hbel hbq d2
      have q3 := below_cell hbel hbq d3
      have q4 := below_cell hbel hbq d4
      clear d0 d1 d2 d3 d4
      have HC := Lib.hid (hv [.int .i64 ek, .int .i64 en, .string es', .slice A1 eks.length a1, .slice C1 ees.length c1] wr m (below_lies hbel hle) hm0 hm1)
      clear hv he hle
      generalize cnt (.mk ek en es' eks ees) m = x at HC hst
      by_cases hx : x ≤ m
      · have hst2 : Hid (smallFrom m l (i + 1)) := Lib.hid (by unfold smallFrom; rw [hst.out, decide_eq_true hx, Bool.true_and])
        have hx2 : ¬ m < x := by omega
        clear hst
        go_wp2_with fail
        refine HC.out.mono ?_
        rintro e1 w1 ⟨rfl, hb1⟩
        go_wp2_with fail
        go_roundw
        case rel => exact ⟨i + 1, by omega, by go_num, hst2.out, chain hbel hb1⟩
        case measure => simp [intOf]; omega
      · have hst2 : Hid (smallP m l = false) := Lib.hid (by rw [hst.out, decide_eq_false hx, Bool.false_and])
        have hx2 : m < x := by omega
        clear hst
        go_wp2_with fail
        refine HC.out.mono ?_
        rintro e1 w1 ⟨rfl, hb1⟩
        go_wp2_with fail
        go_ret
        exact ⟨ret_bool hst2.out.symm, chain hbel hb1⟩
    · have hend : Hid (smallP m l = true) := Lib.hid (by
        have := HE.out
        unfold smallFrom at this
        rw [this, List.drop_eq_nil_of_le (by omega)]
        rfl)
      go_wp2_with fail
      go_ret
      exact ⟨ret_bool hend.out.symm, hbel⟩
theorem one_row {w : World} {v : V} {k n : Int} {s : ByteArray} {ks : List ByteArray} {es : List V} {A C : Option Addr} {a c : Nat} {g : Nat}
    (h : Lies w (· < w.heap.size) v [.int .i64 k, .int .i64 n, .string s, .slice A ks.length a, .slice C es.length c]) (hg : Box w g 25 #[.int .i64 k, .int .i64 n, .string s, .slice A ks.length a, .slice C es.length c]) :
    Row w (some ⟨g, 0, none⟩) [v] [.int .i64 k, .int .i64 n, .string s, .slice A ks.length a, .slice C es.length c] := by
  refine ⟨rs_box (cs := [.int .i64 k, .int .i64 n, .string s, .slice A ks.length a, .slice C es.length c]) hg hg.lt, ?_⟩
  rw [LiesL]
  exact ⟨_, [], by simp, h, by rw [LiesL]⟩
end Go.Proofs.Ytbpbplfiamllnaa
