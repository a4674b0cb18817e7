/- The numbers of an argument lie in the range of 64 bits. -/
import Derived.Test.YtfmpdcmedaiooaaGreatDoorU36
import Derived.Test.YtfmpdcmedaiooaaGreatDoorU45
set_option linter.unusedVariables false
set_option linter.unusedSimpArgs false
namespace Go.Proofs.YtfmpdcmedaiooaaGreatDoor
open Go.ChangeShapes Go.WideShapes Go.ChangeAt Go.RowKit
theorem in64_of {n : Int} (h : (Lit.int .i64 n).wf = true) : in64 n := by
  have e1 : IntKind.i64.min = -9223372036854775808 := rfl
  have e2 : IntKind.i64.max = 9223372036854775807 := rfl
  unfold in64
  simp [Lit.wf, e1, e2] at h
  omega
section
variable {H : Type} {enc : TypeId × Value → H} {w : World}
theorem rngs_at {n0 : Nat} (ihm : ∀ n, n < n0 → ∀ (cs : List Value) (x : DataW H × List MemPlace) (S : Nat → Prop) (v : V), DataW.trod enc Tryz.prog w 0 (fun _ => true) true n 25 cs = some x → Lies w S v cs → rng v)
    {S : Nat → Prop} {B : Option Addr} {b : Nat} {ves : List V} {xs' : List Value} {x : DataW H × List MemPlace} (g4 : DataW.trod enc Tryz.prog w 0 (fun _ => true) true n0 23 [.slice B ves.length b] = some x) (hB : Rs w S B xs') (hL : LiesL w S ves xs') :
    ∀ e ∈ ves, rng e := by
  obtain ⟨-, -, -, -, -, c5⟩ := cells_facts
  intro e he
  obtain ⟨i, hi⟩ := List.getElem?_of_mem he
  rcases DataW.trod_slice Tryz.underlying23 g4 with ⟨h1, -⟩ | ⟨ad, len, cap, elems, rest, n', hn', h1, -, -, hl', hm', hlen', hel, -⟩
  · simp only [List.cons.injEq, and_true, Value.slice.injEq] at h1
    have := List.eq_nil_of_length_eq_zero h1.2.1
    subst this
    simp at hi
  · simp only [List.cons.injEq, and_true, Value.slice.injEq] at h1
    obtain ⟨rfl, h1, rfl⟩ := h1
    have hlt : i < ves.length := (List.getElem?_eq_some_iff.1 hi).1
    obtain ⟨y, hy⟩ : ∃ y, elems[i]? = some y := ⟨_, List.getElem?_eq_getElem (by omega)⟩
    have h2 := hel i (by omega)
    rw [hy, c5] at h2
    obtain ⟨c, hc, ht⟩ := Option.bind_eq_some_iff.1 h2
    obtain ⟨-, h5, hcell⟩ := World.cells?_some hc
    obtain ⟨b1, o1, v0, v1, v2, v3, v4, hBe, -, hl5, q0, q1, q2, q3, q4⟩ := elem_cells hB hL hi
    injection hBe with hBe
    subst hBe
    have hc5 : c = [v0, v1, v2, v3, v4] := by
      have k0 := hcell 0 (by omega)
      have k1 := hcell 1 (by omega)
      have k2 := hcell 2 (by omega)
      have k3 := hcell 3 (by omega)
      have k4 := hcell 4 (by omega)
      rw [add_off, add_off] at k0 k1 k2 k3 k4
      rw [Nat.add_zero, q0] at k0
      rw [q1] at k1
      rw [q2] at k2
      rw [q3] at k3
      rw [q4] at k4
      match c, h5 with
      | [u0, u1, u2, u3, u4], _ =>
        simp at k0 k1 k2 k3 k4
        rw [k0, k1, k2, k3, k4]
    subst hc5
    exact ihm n' (by omega) _ _ S e ht hl5
set_option maxRecDepth 100000 in
theorem rng_at : ∀ m n0 : Nat, n0 ≤ m → ∀ (cs : List Value) (x : DataW H × List MemPlace) (S : Nat → Prop) (v : V), DataW.trod enc Tryz.prog w 0 (fun _ => true) true n0 25 cs = some x → Lies w S v cs → rng v := by
  intro m
  induction m with
  | zero =>
    intro n0 h0 cs x S v h _
    obtain rfl : n0 = 0 := by omega
    simp [DataW.trod] at h
  | succ m ihm =>
    intro n0 h0 cs x S v h hLv
    obtain ⟨vk, vn, vs, vks, ves⟩ := v
    obtain ⟨A, a, B, b, xs', rfl, _, _, _, _, _, hB, hL⟩ := lies_open hLv
    obtain ⟨f0, f1, f2, f3, f4, hU, ⟨t0, o0⟩, ⟨t1, o1⟩, ⟨t2, o2⟩, ⟨t3, o3⟩, ⟨t4, o4⟩⟩ := struct_value
    obtain ⟨c0, c1, c2, c3, c4, c5⟩ := cells_facts
    obtain ⟨xs, n, rfl, rfl, hl, hlen, hf⟩ := DataW.trod_struct hU h
    match xs, hlen with
    | [y0, y1, y2, y3, y4], _ =>
      have g1 := hf 1 f1 rfl
      have g4 := hf 4 f4 rfl
      rw [t1, o1, c1] at g1
      rw [t4, o4, c4] at g4
      simp only [List.drop_zero, List.drop_succ_cons, List.take_succ_cons, List.take_zero, List.getElem?_cons_zero, List.getElem?_cons_succ] at g1 g4
      obtain ⟨z, e1, -, hz⟩ := DataW.trod_int Tryz.underlying2 g1
      simp only [List.cons.injEq, and_true, Value.int.injEq, true_and] at e1
      subst e1
      rw [rng, rngL_iff]
      exact ⟨in64_of (by first | exact hz | exact hz.1 | exact hz.2), rngs_at (fun n' hn' => ihm n' (by omega)) g4 hB hL⟩
/-- Of an argument. -/
theorem rng_of {v : Value} {d : DataW H} {ps : List MemPlace} {S : Nat → Prop} {u : V} (h : DataW.Trod enc Tryz.prog w 0 (fun _ => true) true 25 v d ps) (hl : Lies w S u v.cells.toList) : rng u := by
  obtain ⟨fuel, hf⟩ := h
  exact rng_at fuel fuel (Nat.le_refl _) _ _ S u hf hl
end
end Go.Proofs.YtfmpdcmedaiooaaGreatDoor
