/- keep.Short at a list of strings. ValueMake answers true for every bool, int64, string, list of keys and list of values. Slices of strings and of values that came in; five arguments. -/
import Derived.Test.YtgdnkankleoaoaaStrs
import Derived.Test.YtgdnkankleoaoaaRPut
import Derived.Test.YtgdnkankleoaoaaG3
import Derived.Test.YtgdnkankleoaoaaG4
set_option linter.unusedVariables false
set_option linter.unusedSimpArgs false
namespace Go.Proofs.Ytgdnkankleoaoaa
open Go.RowKit
def shortP (m : Int) (ks : List ByteArray) : Bool := ks.all fun k => decide ((k.size : Int) ≤ m)
theorem shortP_mem {m : Int} {ks : List ByteArray} (h : shortP m ks = true) : ∀ k ∈ ks, (k.size : Int) ≤ m := by
  intro k hk
  unfold shortP at h
  exact of_decide_eq_true (List.all_eq_true.1 h k hk)
set_option maxHeartbeats 1000000 in
theorem short_any (m : Int) (A : Option Addr) (a : Nat) (ks : List ByteArray) (S : Nat → Prop) (w : World) (hA : Rs w S A (kv ks)) (hk : ks.length ≤ maxLen) (hs : ∀ k ∈ ks, k.size ≤ 140737488355328) (h0 : 0 ≤ m) (h1 : m ≤ 1000000) :
    Calls Try.prog 6 #[.int .i64 m, .slice A ks.length a] w fun e w' => e = .returned (.bool (shortP m ks)) ∧ Below w.heap.size w w' := by
  unfold maxLen at hk
  have HA := Lib.hid hA
  have HS := Lib.hid hs
  clear hA hs
  go_enter Try.func6, Try.ntmps6
  go_wp2_with fail
  go_loopw [5] (fun t wr => ∃ i : Nat, i ≤ ks.length ∧ t = .int .i64 i ∧ shortP m ks = shortP m (ks.drop i) ∧ Below w.heap.size w wr ∧ wr.heap = w.heap) (fun t _ => ks.length - (intOf t).toNat)
  case atStart => exact ⟨0, Nat.zero_le _, rfl, rfl, Below.refl _ _, rfl⟩
  case round =>
    obtain ⟨i, hi, rfl, he0, hbel, hheap⟩ := hrel
    have HE := Lib.hid he0
    have HB := Lib.hid hbel
    have HH := Lib.hid hheap
    clear he0 hbel hheap
    by_cases hlt : i < ks.length
    · obtain ⟨x, hx⟩ : ∃ x, ks[i]? = some x := ⟨_, List.getElem?_eq_getElem hlt⟩
      obtain ⟨b0, o0, hAe, hb0, hc0⟩ := HA.out.at_ (kv_at hx)
      have hc1 : wr.cell? ⟨b0, o0 + i, none⟩ = some (.string x) := (World.cell?_of_block (by rw [HH.out])).trans hc0
      have hxs := HS.out x (List.mem_of_getElem? hx)
      have hst : Hid (shortP m ks = (decide ((x.size : Int) ≤ m) && shortP m (ks.drop (i + 1)))) := Lib.hid (by
        obtain ⟨h1, rfl⟩ := List.getElem?_eq_some_iff.1 hx
        rw [HE.out, List.drop_eq_getElem_cons h1]
        rfl)
      subst hAe
      clear hc0 hx
      by_cases hxm : (x.size : Int) ≤ m
      · have hst2 : Hid (shortP m ks = shortP m (ks.drop (i + 1))) := Lib.hid (by rw [hst.out, decide_eq_true hxm, Bool.true_and])
        have hx2 : ¬ m < (x.size : Int) := by omega
        clear hst
        go_wp2_with fail
        go_roundw
        case rel => exact ⟨i + 1, by omega, by go_num, hst2.out, by first | exact HB.out | exact below_drew' HB.out, by first | exact HH.out | rfl⟩
        case measure => simp [intOf]; omega
      · have hst2 : Hid (shortP m ks = false) := Lib.hid (by rw [hst.out, decide_eq_false hxm, Bool.false_and])
        have hx2 : m < (x.size : Int) := by omega
        clear hst
        go_wp2_with fail
        go_ret
        exact ⟨ret_bool hst2.out.symm, HB.out⟩
    · have hend : Hid (shortP m ks = true) := Lib.hid (by rw [HE.out, List.drop_eq_nil_of_le (by omega)]; rfl)
      go_wp2_with fail
      go_ret
      exact ⟨ret_bool hend.out.symm, HB.out⟩
end Go.Proofs.Ytgdnkankleoaoaa
namespace Go.Proofs.Ytgdnkankleoaoaa
open Go.RowKit Go.Sort
/-- A call's answer, its value written out, wherever it lies. -/
def OpenedPost (v : V) (err : Int) (w : World) (e : Ending) (w' : World) : Prop :=
  ∃ (k n : Int) (s : ByteArray) (ks : List ByteArray) (es : List V) (A : Option Addr) (a : Nat) (C : Option Addr) (c : Nat), e = .returned (.tuple #[.agg #[.int .i64 k, .int .i64 n, .string s, .slice A ks.length a, .slice C es.length c], .int .i64 err]) ∧ Below w.heap.size w w' ∧
    Lies w' (· < w'.heap.size) v [.int .i64 k, .int .i64 n, .string s, .slice A ks.length a, .slice C es.length c]
theorem opened_p {f : FuncId} {args : Array Value} {w : World} {v : V} {err : Int} (h : Calls Try.prog f args w (RetPost v err w)) : Calls Try.prog f args w (OpenedPost v err w) :=
  (ret_open h).mono fun e w' ⟨k, n, s, ks, es, A, a, C, c, _, he, hb, hl⟩ => ⟨k, n, s, ks, es, A, a, C, c, he, hb, hl.move fun b hb => ⟨hb.2, rfl⟩⟩
/-- A value in a box. -/
structure Vb (w : World) (g : Nat) (v : V) (c : List Value) : Prop where
  box : Box w g 28 c.toArray
  lies : Lies w (· < w.heap.size) v c
theorem Vb.next {w w' : World} {g : Nat} {v : V} {c : List Value} (h : Vb w g v c) (hb : Below w.heap.size w w') : Vb w' g v c := ⟨box_below h.box hb, below_lies hb h.lies⟩
theorem Vb.new {w : World} {v : V} {c : List Value} (h : Lies w (· < w.heap.size) v c) : Vb (w.alloc (.cells c.toArray 28)) w.heap.size v c := ⟨Box.laid _ _ _, below_lies (below1 _ _) h⟩
theorem MAt.below {w w' : World} {B : Option Addr} {i : Nat} {m : Mb} (h : MAt w (· < w.heap.size) B i m) (hW : Below w.heap.size w w') : MAt w' (· < w'.heap.size) B i m := by
  obtain ⟨⟨p, o, e, hp, c0, c1, c2, c3, c4⟩, hl⟩ := h
  exact ⟨⟨p, o, e, Nat.lt_of_lt_of_le hp hW.size, below_cell hW hp c0, below_cell hW hp c1, below_cell hW hp c2, below_cell hW hp c3, below_cell hW hp c4⟩, below_lies hW hl⟩
/-- A slice of strings that came in. -/
structure SliceK (w : World) (A : Option Addr) (a : Nat) (ks : List ByteArray) : Prop where
  rs : Rs w (· < w.heap.size) A (kv ks)
  nil : A = none → a = 0
  le : ks.length ≤ a
  cap : a ≤ maxLen
  each : ∀ k ∈ ks, k.size ≤ 140737488355328
  lim : ks.length ≤ 140737488355328
theorem SliceK.below {w w' : World} {A : Option Addr} {a : Nat} {ks : List ByteArray} (h : SliceK w A a ks) (hb : Below w.heap.size w w') : SliceK w' A a ks :=
  ⟨h.rs.move fun b hlt => ⟨Nat.lt_of_lt_of_le hlt hb.size, hb.block b hlt⟩, h.nil, h.le, h.cap, h.each, h.lim⟩
theorem same_self {v : V} {cs ds : List Value} {W : World} (h : Lies W (· < W.heap.size) v cs) (k : Lies W (· < W.heap.size) v ds) : Calls Try.prog 11 #[.agg cs.toArray, .agg ds.toArray] W fun e w' => e = .returned (.bool true) ∧ Below W.heap.size W w' := by
  have := same_any v v cs ds W h k
  rw [(same_iff v v).2 rfl] at this
  exact this
end Go.Proofs.Ytgdnkankleoaoaa
namespace Go.Proofs.Ytgdnkankleoaoaa
open Go.ChangeShapes Go.WideShapes Go.ChangeAt Go.RowKit Go.ChangeMaps
section
variable {H : Type} {enc : TypeId × Value → H} {w : World}
set_option maxRecDepth 100000 in
theorem open_strings_arg {r : Reach} {b0 : Nat} {v : Value} {d : DataW H} {ps : List MemPlace} (hval : Value.okWide Try.prog w r b0 22 v) (h : DataW.Trod enc Try.prog w 0 (fun _ => true) true 22 v d ps) (hs : Slim Try.prog 22 d) :
    ∃ (A : Option Addr) (a : Nat) (ks : List ByteArray), v = .slice A ks.length a ∧ SliceK w A a ks := by
  obtain ⟨A0, len, cap, rfl⟩ := okWide_slice Try.underlying22 hval
  obtain ⟨fuel, hf⟩ := h
  obtain ⟨A, a, ks, hcs, h1, h2, h3, h4, h5⟩ := open_keys Try.underlying22 Try.underlying9 cells_facts.2.2.1 (by rw [bytes_facts.1]; omega) hf hs
  simp [Value.cells] at hcs
  obtain ⟨rfl, rfl, rfl⟩ := hcs
  exact ⟨A0, cap, ks, rfl, h3, h1, h2.1, h2.2, h4, h5⟩
set_option maxRecDepth 100000 in
theorem open_values_arg {r : Reach} {b0 : Nat} {v : Value} {d : DataW H} {ps : List MemPlace} (hval : Value.okWide Try.prog w r b0 23 v) (h : DataW.Trod enc Try.prog w 0 (fun _ => true) true 23 v d ps) (hs : Slim Try.prog 23 d) :
    ∃ (A : Option Addr) (a : Nat) (l : List V) (xs : List Value), v = .slice A l.length a ∧ SliceV w A a l xs := by
  obtain ⟨A0, len, cap, rfl⟩ := okWide_slice Try.underlying23 hval
  obtain ⟨fuel, hf⟩ := h
  obtain ⟨A, a, es, xs, hcs, h1, h2, h3, h4, h5⟩ := open_elems (fun n' _ => open_value_at n' n' (Nat.le_refl _)) hf hs
  simp [Value.cells] at hcs
  obtain ⟨rfl, rfl, rfl⟩ := hcs
  exact ⟨A0, cap, es, xs, rfl, ⟨h3, h4⟩, h1, h2.1, h2.2, h5⟩
end
end Go.Proofs.Ytgdnkankleoaoaa
