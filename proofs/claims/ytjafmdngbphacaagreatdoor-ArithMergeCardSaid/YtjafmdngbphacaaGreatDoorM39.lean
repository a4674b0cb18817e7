/- slices.BinarySearch at strings: where a key stands in an ascending list. The program's Get. -/
import Derived.Shelf.Spec.SearchS
import Derived.Ground.Names2Prog
import Derived.Test.YtjafmdngbphacaaGreatDoorRows
import Derived.Test.YtjafmdngbphacaaGreatDoorM22
import Derived.Lib.Hide
import Derived.Test.YtjafmdngbphacaaGreatDoorM21
set_option linter.unusedVariables false
set_option linter.unusedSimpArgs false
namespace Go.Proofs
open Go.Shelf Go.RowKit
def Tryz.bsl_ren : Go.Shelf.Ren := ⟨fun | 26 => 97 | 33 => 147 | 34 => 148 | 38 => 188 | n => n, fun | 24 => 22 | 9 => 9 | 3 => 3 | 4 => 4 | 40 => 111 | 0 => 0 | n => n, fun | n => n⟩
theorem Tryz.bsl : Go.Proofs.Lays2.n26 Tryz.prog Tryz.bsl_ren := {
  mixed := by kernel_rfl
  f26 := Tryz.func97.trans (congrArg some (by kernel_rfl))
  f33 := Tryz.func147.trans (congrArg some (by kernel_rfl))
  f34 := Tryz.func148.trans (congrArg some (by kernel_rfl))
  f38 := Tryz.func188.trans (congrArg some (by kernel_rfl))
  t0 := Tryz.underlying0
  a0 := Tryz.isAgg0
  z0 := Tryz.sizeOf0
  v0 := Tryz.zeroValue0
  t3 := Tryz.underlying3
  a3 := Tryz.isAgg3
  z3 := Tryz.sizeOf3
  v3 := Tryz.zeroValue3
  t4 := Tryz.underlying4
  a4 := Tryz.isAgg4
  z4 := Tryz.sizeOf4
  v4 := Tryz.zeroValue4
  t9 := Tryz.underlying9
  a9 := Tryz.isAgg9
  z9 := Tryz.sizeOf9
  v9 := Tryz.zeroValue9
  t24 := Tryz.underlying22
  a24 := Tryz.isAgg22
  z24 := Tryz.sizeOf22
  v24 := Tryz.zeroValue22
  t40 := Tryz.underlying111
  a40 := Tryz.isAgg111
  z40 := Tryz.sizeOf111
  v40 := Tryz.zeroValue111 }

end Go.Proofs
namespace Go.Proofs.YtjafmdngbphacaaGreatDoor
open Go.RowKit Go.Sort
/-- Where the halving stands. -/
theorem halving {ks : List ByteArray} {key : ByteArray} (h : Asc ks) :
    ∃ m, m ≤ ks.length ∧ idxOf ks key = (if ks[m]? = some key then some m else none) ∧ Lib.bsGo (fun t => Op.bytesLess ((ks[t]?).getD key).toList key.toList) ks.length 0 ks.length = m := by
  obtain ⟨m, h0, h1, h2⟩ := split_asc (key := key) h
  refine ⟨m, h0, idxOf_split h h1 h2, Lib.bsGo_spec _ m (fun t ht => ?_) (fun t ht => ?_) _ _ _ (by omega) (by omega) h0⟩
  · have hx := List.getElem?_eq_getElem (show t < ks.length by omega)
    rw [hx, Option.getD_some, less_eq, decide_eq_true (h1 t _ hx ht)]
  · cases hx : ks[t]? with
    | none => rw [Option.getD_none, less_eq, scmp_self]; rfl
    | some x => rw [Option.getD_some, less_eq, decide_eq_false (h2 t x hx ht)]
theorem search_any (A : Option Addr) (a : Nat) (ks : List ByteArray) (key : ByteArray) (S : Nat → Prop) (w : World) (hA : Rs w S A (kv ks)) (hk : ks.length ≤ 1000000) (hs : Asc ks) :
    Calls Tryz.prog 97 #[.slice A ks.length a, .string key] w fun e w' =>
      (∃ p : Nat, e = .returned (.tuple #[.int .i64 p, .bool (idxOf ks key).isSome]) ∧ ∀ i, idxOf ks key = some i → p = i) ∧ ∃ q, w' = w.drewN q := by
  by_cases h0 : ks.length = 0
  · have hn : ks = [] := List.eq_nil_of_length_eq_zero h0
    subst hn
    refine (Any2.slices_BinarySearch_string_empty Tryz.bsl A a key w).mono ?_
    rintro e w' ⟨rfl, rfl⟩
    exact ⟨⟨0, rfl, fun i hi => by simp [idxOf] at hi⟩, 0, rfl⟩
  · obtain ⟨m, hm, hi, hb⟩ := halving (key := key) hs
    obtain ⟨b, o, rfl, hS, hc0⟩ := hA.at_ (kv_at (List.getElem?_eq_getElem (show 0 < ks.length by omega)))
    have hc : ∀ j, j < ks.length → w.cell? ⟨b, o + j, none⟩ = some (.string ((ks[j]?).getD key)) := by
      intro j hj
      have hx := List.getElem?_eq_getElem hj
      obtain ⟨b', o', he, _, hc⟩ := hA.at_ (kv_at hx)
      injection he with he
      injection he with e1 e2
      subst e1; subst e2
      rw [hx, Option.getD_some]
      exact hc
    refine (Any2.slices_BinarySearch_string Tryz.bsl b o ks.length a (fun t => (ks[t]?).getD key) key w (by omega) hc).mono ?_
    rintro e w' ⟨rfl, q, rfl⟩
    rw [hb, hi]
    refine ⟨⟨m, ?_, fun i h => ?_⟩, q, rfl⟩
    · have hd : decide (m < ks.length ∧ (ks[m]?).getD key = key) = (if ks[m]? = some key then some m else none).isSome := by
        by_cases hx : ks[m]? = some key
        · rw [if_pos hx, Option.isSome_some, decide_eq_true_iff, hx]
          exact ⟨(List.getElem?_eq_some_iff.1 hx).1, rfl⟩
        · rw [if_neg hx, Option.isSome_none, decide_eq_false_iff_not]
          rintro ⟨h1, h2⟩
          apply hx
          rw [List.getElem?_eq_getElem h1] at h2 ⊢
          rw [Option.getD_some] at h2
          rw [h2]
      rw [← hd]
    · by_cases hx : ks[m]? = some key
      · rw [if_pos hx] at h; injection h
      · rw [if_neg hx] at h; cases h
end Go.Proofs.YtjafmdngbphacaaGreatDoor
namespace Go.Proofs.YtjafmdngbphacaaGreatDoor
open Go.RowKit Go.Sort
/-- The same, the value in new memory. -/
def GetPostF (o : Option V) (w : World) (e : Ending) (w' : World) : Prop := Below w.heap.size w w' ∧ ∃ ds : List Value, e = .returned (.tuple #[.agg ds.toArray, .bool o.isSome]) ∧ Lies w' (fun b => w.heap.size ≤ b ∧ b < w'.heap.size) (o.getD vnull) ds
theorem get_noneF {w w' : World} {o : Option V} (ho : o = none) (hb : Below w.heap.size w w') : GetPostF o w (.returned (.tuple #[.agg #[.int .i64 0, .int .i64 0, .string ⟨#[]⟩, .slice none 0 0, .slice none 0 0], .bool false])) w' := by
  subst ho
  exact ⟨hb, [.int .i64 0, .int .i64 0, .string ⟨#[]⟩, .slice none 0 0, .slice none 0 0], rfl, lies_null _ _⟩
theorem get_someF {w w' : World} {o : Option V} {v : V} {ds : List Value} (ho : o = some v) (hb : Below w.heap.size w w') (hl : Lies w' (fun b => w.heap.size ≤ b ∧ b < w'.heap.size) v ds) : GetPostF o w (.returned (.tuple #[.agg ds.toArray, .bool true])) w' := by
  subst ho
  exact ⟨hb, ds, rfl, hl⟩
theorem getP_no {k n : Int} {s : ByteArray} {ks : List ByteArray} {es : List V} {key : ByteArray} (h : ¬ (valid (.mk k n s ks es) = true ∧ k = 6)) : getP (.mk k n s ks es) key = none := by unfold getP; simp only []; rw [if_neg h]
theorem getP_yes {k n : Int} {s : ByteArray} {ks : List ByteArray} {es : List V} {key : ByteArray} (h : valid (.mk k n s ks es) = true) (h6 : k = 6) : getP (.mk k n s ks es) key = (idxOf ks key).bind fun i => es[i]? := by unfold getP; simp only []; rw [if_pos ⟨h, h6⟩]
theorem below_drewN1 (w : World) (q : Nat) : Below w.heap.size w (w.drewN q) := below_drewN (Below.refl _ _) q
set_option maxHeartbeats 2000000 in
set_option maxRecDepth 100000 in
theorem get_fresh (v : V) (key : ByteArray) (cs : List Value) (w : World) (h : Lies w (· < w.heap.size) v cs) :
    Calls Tryz.prog 30 #[.agg cs.toArray, .string key] w (GetPostF (getP v key) w) := by
  have HV := Lib.hid (fun W (hW : Below w.heap.size w W) => valid_any v cs W (below_lies hW h))
  have HL := Lib.hid h
  obtain ⟨k, n, s, ks, es⟩ := v
  obtain ⟨A, a, B, b, xs, rfl, _, _, _, _, hA, hB, hLL⟩ := lies_open h
  clear h
  show Calls _ _ #[.agg #[.int .i64 k, .int .i64 n, .string s, .slice A ks.length a, .slice B es.length b], .string key] w _
  have hb2 : Hid (∀ W, Below (w.heap.size + 2) ((w.alloc (.cells #[.int .i64 k, .int .i64 n, .string s, .slice A ks.length a, .slice B es.length b] 25)).alloc (.cells #[.int .i64 0, .int .i64 0, .string ⟨#[]⟩, .slice none 0 0, .slice none 0 0] 25)) W →
      Box W (w.heap.size + 1) 25 #[.int .i64 0, .int .i64 0, .string ⟨#[]⟩, .slice none 0 0, .slice none 0 0]) := Lib.hid fun W hW => by
    have h1 := Box.laid (w.alloc (.cells #[.int .i64 k, .int .i64 n, .string s, .slice A ks.length a, .slice B es.length b] 25)) 25 #[.int .i64 0, .int .i64 0, .string ⟨#[]⟩, .slice none 0 0, .slice none 0 0]
    have e : (w.alloc (.cells #[.int .i64 k, .int .i64 n, .string s, .slice A ks.length a, .slice B es.length b] 25)).heap.size = w.heap.size + 1 := by simp
    rw [e] at h1
    exact h1.below hW (by omega)
  by_cases c6 : k = 6
  · have hq : (k != 6) = false := by simp [c6]
    cases hx : valid (.mk k n s ks es) with
    | false =>
      have ho := Lib.hid (getP_no (key := key) (show ¬ (valid (.mk k n s ks es) = true ∧ k = 6) by rw [hx]; simp))
      rw [hx] at HV
      clear hx c6
      go_enter Tryz.func30, Tryz.ntmps30
      go_wp2_with fail
      refine (HV.out _ (below2 _ _ _)).mono ?_
      rintro e1 w1 ⟨rfl, hb1⟩
      have hB1 := Lib.hid (two_step (Below.refl _ _) hb1)
      have hres := Lib.hid (hb2.out _ hB1.out)
      obtain ⟨t0, t1, t2, t3, t4⟩ := box5 hres.out
      have z0 := hres.out.free 0
      have z1 := hres.out.free 1
      have z2 := hres.out.free 2
      have z3 := hres.out.free 3
      have z4 := hres.out.free 4
      go_wp2_with fail
      refine bodyPost_ret (v := .tuple #[.agg #[.int .i64 0, .int .i64 0, .string ⟨#[]⟩, .slice none 0 0, .slice none 0 0], .bool false]) (by simp [results, Tryz.results30, go_sem, t0, t1, t2, t3, t4]) rfl ?_
      exact get_noneF ho.out ((((((below_two hB1.out).setCell (by simp) _).setCell (by simp) _).setCell (by simp) _).setCell (by simp) _).setCell (by simp) _)
    | true =>
      have ho := Lib.hid (getP_yes (key := key) hx c6)
      obtain ⟨hasc, hkl, hk1, he1⟩ := valid_keys hx
      have hlen := hkl c6
      have HO := Lib.hid ((valid_iff _).1 hx)
      have HE : Hid (∀ e ∈ es, Ok e) := Lib.hid (ok_elem HO.out (.inr c6))
      have HS := Lib.hid (fun W (hW : Below w.heap.size w W) => search_any A a ks key (fun b => b < w.heap.size) W (hA.move fun b hb => ⟨hb, hW.block b hb⟩) (by omega) hasc)
      rw [hx] at HV
      have HLN := Lib.hid hlen
      clear hx c6 hasc hkl hlen
      go_enter Tryz.func30, Tryz.ntmps30
      go_wp2_with fail
      refine (HV.out _ (below2 _ _ _)).mono ?_
      rintro e1 w1 ⟨rfl, hb1⟩
      have hB1 := Lib.hid (two_step (Below.refl _ _) hb1)
      have m3 := (box_two hB1.out 3).1
      have m4 := (box_two hB1.out 4).1
      simp only [List.getElem?_toArray, List.getElem?_cons_succ, List.getElem?_cons_zero] at m3 m4
      go_wp2_with fail
      refine (HS.out _ (below_two hB1.out)).mono ?_
      cases hi : idxOf ks key with
      | none =>
        have ho2 : Hid (getP (.mk k n s ks es) key = none) := Lib.hid (by rw [ho.out, hi]; rfl)
        clear hi
        rintro e2 w2 ⟨⟨p, rfl, _⟩, q, rfl⟩
        have hres := Lib.hid (hb2.out _ hB1.out)
        obtain ⟨t0, t1, t2, t3, t4⟩ := box5 hres.out
        have z0 := hres.out.free 0
        have z1 := hres.out.free 1
        have z2 := hres.out.free 2
        have z3 := hres.out.free 3
        have z4 := hres.out.free 4
        simp only [Option.isSome_none]
        go_wp2_with fail
        refine bodyPost_ret (v := .tuple #[.agg #[.int .i64 0, .int .i64 0, .string ⟨#[]⟩, .slice none 0 0, .slice none 0 0], .bool false]) (by simp [results, Tryz.results30, go_sem, t0, t1, t2, t3, t4]) rfl ?_
        exact get_noneF ho2.out ((((((below_drewN (below_two hB1.out) q).setCell (by simp) _).setCell (by simp) _).setCell (by simp) _).setCell (by simp) _).setCell (by simp) _)
      | some i =>
        obtain ⟨hi1, _⟩ := idxOf_some hi
        have hil : i < es.length := by have := (List.getElem?_eq_some_iff.1 hi1).1; have := HLN.out; omega
        have he : es[i]? = some es[i] := List.getElem?_eq_getElem hil
        have ho2 : Hid (getP (.mk k n s ks es) key = some es[i]) := Lib.hid (by rw [ho.out, hi]; exact he)
        have hgood := (HE.out es[i] (List.getElem_mem hil)).1
        generalize es[i] = e at he ho2 hgood
        clear hi hi1
        obtain ⟨ek, en, es', eks, ees⟩ := e
        obtain ⟨bq, oq, A1, a1, C1, c1, rfl, hbq, hle, d0, d1, d2, d3, d4⟩ := elem_open hB hLL he
        have q0 := below_cell (below_two hB1.out) hbq d0
        have q1 := below_cell (below_two hB1.out) hbq d1
        have q2 := below_cell (below_two hB1.out) hbq d2
        have q3 := below_cell (below_two hB1.out) hbq d3
        have q4 := below_cell (below_two hB1.out) hbq d4
        have hle1 := below_lies (below_two hB1.out) hle
        have HC := Lib.hid (fun q => clone_any _ _ (w1.drewN q) hgood (below_lies (below_drewN1 w1 q) hle1))
        clear d0 d1 d2 d3 d4 he hle hle1 hgood
        rintro e2 w2 ⟨⟨p, rfl, hp⟩, q, rfl⟩
        obtain rfl := hp i rfl
        clear hp
        simp only [Option.isSome_some]
        go_wp2_with fail
        refine (clone_open (w := w1) (below_drewN1 w1 q) (HC.out q)).mono ?_
        rintro e3 w3 ⟨hb3, DA, da, DC, dc, rfl, hl3⟩
        have hB2 := Lib.hid (two_step hB1.out hb3)
        have hw1 : w.heap.size + 2 ≤ w1.heap.size := by have := hB1.out.size; simp at this; omega
        have hw3 : w1.heap.size ≤ w3.heap.size := hb3.size
        have hres := Lib.hid (hb2.out _ hB2.out)
        have HL3 := Lib.hid hl3
        clear hl3 m3 m4 hb3 q0 q1 q2 q3 q4
        obtain ⟨t0, t1, t2, t3, t4⟩ := box5 hres.out
        have z0 := hres.out.free 0
        have z1 := hres.out.free 1
        have z2 := hres.out.free 2
        have z3 := hres.out.free 3
        have z4 := hres.out.free 4
        go_wp2_with fail
        refine bodyPost_ret (v := .tuple #[.agg #[.int .i64 ek, .int .i64 en, .string es', .slice DA eks.length da, .slice DC ees.length dc], .bool true]) (by simp [results, Tryz.results30, go_sem, t0, t1, t2, t3, t4]) rfl ?_
        refine get_someF (ds := [.int .i64 ek, .int .i64 en, .string es', .slice DA eks.length da, .slice DC ees.length dc]) ho2.out ((((((below_two hB2.out).setCell (by simp) _).setCell (by simp) _).setCell (by simp) _).setCell (by simp) _).setCell (by simp) _) ?_
        refine HL3.out.move fun b hb => ⟨⟨by have := hb.1; omega, by have := hb.2; simp [World.setCell]; omega⟩, ?_⟩
        have hb1 := hb.1
        rw [Below.heap_setCell _ _ _ _ (by simp; omega), Below.heap_setCell _ _ _ _ (by simp; omega), Below.heap_setCell _ _ _ _ (by simp; omega), Below.heap_setCell _ _ _ _ (by simp; omega), Below.heap_setCell _ _ _ _ (by simp; omega)]
  · have ho := Lib.hid (getP_no (n := n) (s := s) (ks := ks) (es := es) (key := key) (show ¬ (valid (.mk k n s ks es) = true ∧ k = 6) from fun h => c6 h.2))
    have hq : (k != 6) = true := by simp [c6]
    clear c6
    have hres := Lib.hid (hb2.out _ (Below.refl _ _))
    go_enter Tryz.func30, Tryz.ntmps30
    go_wp2_with fail
    refine bodyPost_ret (v := .tuple #[.agg #[.int .i64 0, .int .i64 0, .string ⟨#[]⟩, .slice none 0 0, .slice none 0 0], .bool false]) (by simp [results, Tryz.results30, go_sem]) rfl ?_
    exact get_noneF ho.out (below2 _ _ _)
end Go.Proofs.YtjafmdngbphacaaGreatDoor
