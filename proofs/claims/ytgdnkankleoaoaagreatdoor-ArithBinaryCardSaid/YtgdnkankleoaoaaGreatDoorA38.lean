/- Binary at values that are not valid; "+" at all values; ArithSums answers true for every three values. ArithStrings. arith.merge: what stands between two rounds. slices.BinarySearch at strings: where a key stands in an ascending list. arith.merge: the walk. -/
import Derived.Test.YtgdnkankleoaoaaGreatDoorA33
import Derived.Test.YtgdnkankleoaoaaGreatDoorA37
import Derived.Test.YtgdnkankleoaoaaGreatDoorA35
import Derived.Test.YtgdnkankleoaoaaGreatDoorA02
import Derived.Test.YtgdnkankleoaoaaGreatDoorA34
import Derived.Deep.RegionHeld3
import Derived.Test.YtgdnkankleoaoaaGreatDoorA36
import Derived.Shelf.Spec.SearchS
import Derived.Ground.Names2Prog
import Derived.Test.YtgdnkankleoaoaaGreatDoorRows
import Derived.Test.YtgdnkankleoaoaaGreatDoorA26
import Derived.Lib.Hide
set_option linter.unusedVariables false
set_option linter.unusedSimpArgs false
namespace Go.Proofs.YtgdnkankleoaoaaGreatDoor
open Go.RowKit Go.Sort
set_option maxHeartbeats 20000000 in
set_option maxRecDepth 100000 in
theorem bin_inv (op : ByteArray) (v u : V) (cs ds : List Value) (w : World) (h : Lies w (· < w.heap.size) v cs) (h' : Lies w (· < w.heap.size) u ds) (hn : (valid v && valid u) = false) :
    Calls Tryz.prog 14 #[.string op, .agg cs.toArray, .agg ds.toArray] w (RetPost vnull 1 w) := by
  have HV := Lib.hid (fun W (hW : Below w.heap.size w W) => valid_any v cs W (below_lies hW h))
  have HU := Lib.hid (fun W (hW : Below w.heap.size w W) => valid_any u ds W (below_lies hW h'))
  generalize valid v = x at HV hn
  generalize valid u = y at HU hn
  obtain ⟨k1, n1, s1, ks1, es1⟩ := v
  obtain ⟨A1, a1, B1, b1, xs1, rfl, _⟩ := lies_open h
  obtain ⟨k2, n2, s2, ks2, es2⟩ := u
  obtain ⟨A2, a2, B2, b2, xs2, rfl, _⟩ := lies_open h'
  clear h h'
  generalize ks1.length = l1 at *
  generalize es1.length = m1 at *
  generalize ks2.length = l2 at *
  generalize es2.length = m2 at *
  show Calls _ _ #[_, .agg #[.int .i64 k1, .int .i64 n1, .string s1, .slice A1 l1 a1, .slice B1 m1 b1], .agg #[.int .i64 k2, .int .i64 n2, .string s2, .slice A2 l2 a2, .slice B2 m2 b2]] w _
  have H0 := Lib.hid (B3.start w #[.int .i64 k1, .int .i64 n1, .string s1, .slice A1 l1 a1, .slice B1 m1 b1] #[.int .i64 k2, .int .i64 n2, .string s2, .slice A2 l2 a2, .slice B2 m2 b2])
  cases x with
  | false =>
    go_enter Tryz.func14, Tryz.ntmps14
    go_wp2_with fail
    refine (HV.out _ H0.out.below).mono ?_
    rintro e1 w1 ⟨rfl, hb1⟩
    have H1 := Lib.hid (H0.out.next hb1)
    obtain ⟨t0, t1, t2, t3, t4⟩ := box5 H1.out.r
    have z0 := H1.out.r.free 0
    have z1 := H1.out.r.free 1
    have z2 := H1.out.r.free 2
    have z3 := H1.out.r.free 3
    have z4 := H1.out.r.free 4
    clear hb1 H0
    go_wp2_with fail
    refine bodyPost_ret (v := .tuple #[.agg #[.int .i64 0, .int .i64 0, .string ⟨#[]⟩, .slice none 0 0, .slice none 0 0], .int .i64 1]) (by simp [results, Tryz.results14, go_sem, t0, t1, t2, t3, t4]) rfl ?_
    exact ret_put H1.out.below (by omega) H1.out.r.lt (lies_null _ _)
  | true =>
    have hy : y = false := by simpa using hn
    subst hy
    go_enter Tryz.func14, Tryz.ntmps14
    go_wp2_with fail
    refine (HV.out _ H0.out.below).mono ?_
    rintro e1 w1 ⟨rfl, hb1⟩
    have H1 := Lib.hid (H0.out.next hb1)
    obtain ⟨y0, y1, y2, y3, y4⟩ := box5 H1.out.y
    clear hb1 H0
    go_wp2_with fail
    refine (HU.out _ H1.out.below).mono ?_
    rintro e2 w2 ⟨rfl, hb2⟩
    have H2 := Lib.hid (H1.out.next hb2)
    clear hb2 y0 y1 y2 y3 y4
    obtain ⟨t0, t1, t2, t3, t4⟩ := box5 H2.out.r
    have z0 := H2.out.r.free 0
    have z1 := H2.out.r.free 1
    have z2 := H2.out.r.free 2
    have z3 := H2.out.r.free 3
    have z4 := H2.out.r.free 4
    go_wp2_with fail
    refine bodyPost_ret (v := .tuple #[.agg #[.int .i64 0, .int .i64 0, .string ⟨#[]⟩, .slice none 0 0, .slice none 0 0], .int .i64 1]) (by simp [results, Tryz.results14, go_sem, t0, t1, t2, t3, t4]) rfl ?_
    exact ret_put H2.out.below (by omega) H2.out.r.lt (lies_null _ _)
/-- The sum of two values. -/
def sumF (v u : V) : V × Int := if (valid v && valid u) = true then sumR v u else (vnull, 1)
theorem sumF_ok {v u : V} (h : valid v = true) (k : valid u = true) : sumF v u = sumR v u := by unfold sumF; rw [h, k]; rfl
/-- A value in a box. -/
structure Vx (w : World) (g : Nat) (v : V) (c : List Value) : Prop where
  box : Box w g 25 c.toArray
  lies : Lies w (· < w.heap.size) v c
theorem Vx.next {w w' : World} {g : Nat} {v : V} {c : List Value} (h : Vx w g v c) (hb : Below w.heap.size w w') : Vx w' g v c := ⟨h.box.below hb h.box.lt, below_lies hb h.lies⟩
theorem Vx.new {w : World} {v : V} {c : List Value} (h : Lies w (· < w.heap.size) v c) : Vx (w.alloc (.cells c.toArray 25)) w.heap.size v c := ⟨Box.laid _ _ _, below_lies (below1 _ _) h⟩
theorem same_selfx {v : V} {cs ds : List Value} {W : World} (h : Lies W (· < W.heap.size) v cs) (k : Lies W (· < W.heap.size) v ds) : Calls Tryz.prog 16 #[.agg cs.toArray, .agg ds.toArray] W fun e w' => e = .returned (.bool true) ∧ Below W.heap.size W w' := by
  have := same_any v v cs ds W h k
  rw [(same_iff v v).2 rfl] at this
  exact this
end Go.Proofs.YtgdnkankleoaoaaGreatDoor
namespace Go.Proofs.YtgdnkankleoaoaaGreatDoor
open Go.RowKit Go.Sort
theorem below_dr {w0 W : World} (h : Below w0.heap.size w0 W) : Below w0.heap.size w0 W.drew := h.drew
/-- What stands in the middle of a region that lays one value's box: nothing old has turned; the box, if it is laid, is zero. -/
structure Sb (w0 W : World) (z : Option Nat) : Prop where
  below : Below w0.heap.size w0 W
  box : ∀ g, z = some g → w0.heap.size ≤ g ∧ Box W g 25 #[.int .i64 0, .int .i64 0, .string ⟨#[]⟩, .slice none 0 0, .slice none 0 0]
theorem Sb.start (w : World) : Sb w w none := ⟨Below.refl _ _, fun g h => by cases h⟩
theorem Sb.drew {w0 W : World} {z : Option Nat} (h : Sb w0 W z) : Sb w0 W.drew z := ⟨below_dr h.below, fun g e => h.box g e⟩
theorem Sb.zbox {w0 W : World} (h : Sb w0 W none) : Sb w0 (W.alloc (.cells #[.int .i64 0, .int .i64 0, .string ⟨#[]⟩, .slice none 0 0, .slice none 0 0] 25)) (some W.heap.size) :=
  ⟨chain h.below (below1 _ _), fun g e => by injection e with e; subst e; exact ⟨h.below.size, Box.laid _ _ _⟩⟩
theorem Sb.call {w0 W W' : World} {z : Option Nat} (hb : Below W.heap.size W W') (h : Sb w0 W z) : Sb w0 W' z :=
  ⟨chain h.below hb, fun g e => ⟨(h.box g e).1, (h.box g e).2.below hb (h.box g e).2.lt⟩⟩
theorem valid_str {s : ByteArray} (h : okS s = true) (hs : s.size ≤ 4096) : valid (strV s) = true := by
  rw [valid_iff]
  unfold strV
  refine ⟨?_, ?_, ?_, ?_⟩
  · rw [good, goodL]
    have h1 : fits 4 0 s ([] : List ByteArray).length ([] : List V).length = true := by
      unfold fits
      simp
    rw [h1]
    simp [h, hs, keysOk]
  · rw [dep]; simp
  · rw [V.sz, V.szL]; decide
  · rw [vbyt, vbytL]; simp [kb]; omega
end Go.Proofs.YtgdnkankleoaoaaGreatDoor
namespace Go.Proofs.YtgdnkankleoaoaaGreatDoor
open Go.RowKit Go.Shelf Go.Sort
structure MgSt (g n cap : Nat) (ks : List ByteArray) (es : List V) (ks2 : List ByteArray) (es2 : List V) (cs ds : Array Value) (w wr : World) (i : Nat) (l : List V) (ys : List Fv) : Prop where
  plain : MgP ks es ks2 es2 i l
  own : wr.ownsRow w.heap.size 25 5 (.slice (some ⟨g, 0, none⟩) n cap) n (ys.flatMap Fv.cs)
  ylen : ys.length = n
  llen : l.length = n
  lies : ∀ (j : Nat) (p : V) (x : Fv), l[j]? = some p → ys[j]? = some x → Lies wr (fun b => b < wr.heap.size ∧ b ≠ g) p x.cs
  b3 : B3 w cs ds wr
  far : w.heap.size + 3 ≤ g
namespace MgSt
variable {g n cap : Nat} {ks ks2 : List ByteArray} {es es2 : List V} {cs ds : Array Value} {w wr w2 : World} {i : Nat} {l : List V} {ys : List Fv}
theorem glt (h : MgSt g n cap ks es ks2 es2 cs ds w wr i l ys) : g < wr.heap.size := (h.own.lt g rfl).2
theorem next (h : MgSt g n cap ks es ks2 es2 cs ds w wr i l ys) (hb : Below wr.heap.size wr w2) : MgSt g n cap ks es ks2 es2 cs ds w w2 i l ys :=
  ⟨h.plain, own_belowV h.own hb, h.ylen, h.llen, fun j p x hp hx => (h.lies j p x hp hx).move fun b hlt => ⟨⟨Nat.lt_of_lt_of_le hlt.1 hb.size, hlt.2⟩, hb.block b hlt.1⟩, h.b3.next hb, h.far⟩
theorem five (h : MgSt g n cap ks es ks2 es2 cs ds w wr i l ys) {j : Nat} {x : Fv} (hx : ys[j]? = some x) : FiveAt wr g (j * 5) x := by
  obtain ⟨b, o, e, _, hf⟩ := row_own h.own j x hx
  injection e with e
  injection e with e1 e2
  subst e1 e2
  rw [Nat.zero_add] at hf
  exact hf
theorem free (h : MgSt g n cap ks es ks2 es2 cs ds w wr i l ys) (k : Nat) : wr.frozen? ⟨g, k, none⟩ = false := by
  rcases h.own.2 with ⟨h0, _⟩ | ⟨g', cap', cur, hv, hbg, hgg, _⟩
  · cases h0
  · cases hv
    exact (show Box wr g _ cur from hgg).free k
theorem skip (h : MgSt g n cap ks es ks2 es2 cs ds w wr i l ys) {k : ByteArray} {e : V} (hk : ks2[i]? = some k) (he : es2[i]? = some e) (hh : hit ks es k e = none) : MgSt g n cap ks es ks2 es2 cs ds w wr (i + 1) l ys :=
  ⟨h.plain.skip hk he hh, h.own, h.ylen, h.llen, h.lies, h.b3, h.far⟩
theorem put (h : MgSt g n cap ks es ks2 es2 cs ds w wr i l ys) {k : ByteArray} {e x : V} (hk : ks2[i]? = some k) (he : es2[i]? = some e) (hh : hit ks es k e = some x) (h0 : (mrg x e).2 = 0) (r : Fv) (hr : Lies wr (fun b => b < wr.heap.size ∧ b ≠ g) (mrg x e).1 r.cs) :
    MgSt g n cap ks es ks2 es2 cs ds w (((((wr.setCell ⟨g, i * 5, none⟩ (.int .i64 r.k)).setCell ⟨g, i * 5 + 1, none⟩ (.int .i64 r.n)).setCell ⟨g, i * 5 + 2, none⟩ (.string r.s)).setCell ⟨g, i * 5 + 3, none⟩ (.slice r.A r.la r.a)).setCell ⟨g, i * 5 + 4, none⟩ (.slice r.C r.lc r.c)) (i + 1) (l.set i (mrg x e).1) (ys.set i r) := by
  have hl := h.llen
  have hy := h.ylen
  have hf := h.far
  have hi : i < n := by
    have := (List.getElem?_eq_some_iff.1 (h.plain.elem he)).1
    omega
  have hg : w.heap.size ≤ g := by omega
  have hsz : (((((wr.setCell ⟨g, i * 5, none⟩ (.int .i64 r.k)).setCell ⟨g, i * 5 + 1, none⟩ (.int .i64 r.n)).setCell ⟨g, i * 5 + 2, none⟩ (.string r.s)).setCell ⟨g, i * 5 + 3, none⟩ (.slice r.A r.la r.a)).setCell ⟨g, i * 5 + 4, none⟩ (.slice r.C r.lc r.c)).heap.size = wr.heap.size := by simp [World.setCell]
  have hmv : ∀ b, b < wr.heap.size ∧ b ≠ g → (b < (((((wr.setCell ⟨g, i * 5, none⟩ (.int .i64 r.k)).setCell ⟨g, i * 5 + 1, none⟩ (.int .i64 r.n)).setCell ⟨g, i * 5 + 2, none⟩ (.string r.s)).setCell ⟨g, i * 5 + 3, none⟩ (.slice r.A r.la r.a)).setCell ⟨g, i * 5 + 4, none⟩ (.slice r.C r.lc r.c)).heap.size ∧ b ≠ g) ∧ (((((wr.setCell ⟨g, i * 5, none⟩ (.int .i64 r.k)).setCell ⟨g, i * 5 + 1, none⟩ (.int .i64 r.n)).setCell ⟨g, i * 5 + 2, none⟩ (.string r.s)).setCell ⟨g, i * 5 + 3, none⟩ (.slice r.A r.la r.a)).setCell ⟨g, i * 5 + 4, none⟩ (.slice r.C r.lc r.c)).heap[b]? = wr.heap[b]? := fun b hb => by
    refine ⟨⟨by rw [hsz]; exact hb.1, hb.2⟩, ?_⟩
    have hne := hb.2
    rw [Below.heap_setCell _ _ _ _ (by simpa using hne), Below.heap_setCell _ _ _ _ (by simpa using hne), Below.heap_setCell _ _ _ _ (by simpa using hne), Below.heap_setCell _ _ _ _ (by simpa using hne), Below.heap_setCell _ _ _ _ (by simpa using hne)]
  have fx : ∀ {t : TypeId} {q : Nat} {vs : Array Value}, Box wr q t vs → q ≠ g → Box (((((wr.setCell ⟨g, i * 5, none⟩ (.int .i64 r.k)).setCell ⟨g, i * 5 + 1, none⟩ (.int .i64 r.n)).setCell ⟨g, i * 5 + 2, none⟩ (.string r.s)).setCell ⟨g, i * 5 + 3, none⟩ (.slice r.A r.la r.a)).setCell ⟨g, i * 5 + 4, none⟩ (.slice r.C r.lc r.c)) q t vs := fun hx hne => ((((hx.far hne _).far hne _).far hne _).far hne _).far hne _
  refine ⟨h.plain.put hk he hh h0, ?_, by rw [List.length_set]; exact hy, by rw [List.length_set]; exact hl, fun j p x' hp hx' => ?_, ⟨((((h.b3.below.setCell hg _).setCell hg _).setCell hg _).setCell hg _).setCell hg _, fx h.b3.x (by omega), fx h.b3.y (by omega), fx h.b3.r (by omega)⟩, hf⟩
  · rw [← flat_set r ys i (by omega)]
    exact own_set (own_set (own_set (own_set (own_set h.own (i := i * 5) (by omega) _) (i := i * 5 + 1) (by omega) _) (i := i * 5 + 2) (by omega) _) (i := i * 5 + 3) (by omega) _) (i := i * 5 + 4) (by omega) _
  · by_cases hj : j = i
    · subst hj
      rw [List.getElem?_set_self (by omega)] at hp hx'
      injection hp with hp
      injection hx' with hx'
      subst hp hx'
      exact hr.move hmv
    · rw [List.getElem?_set_ne (fun e => hj e.symm)] at hp hx'
      exact (h.lies j p x' hp hx').move hmv
end MgSt
end Go.Proofs.YtgdnkankleoaoaaGreatDoor
namespace Go.Proofs
open Go.Shelf Go.RowKit
def Tryz.bsl_ren : Go.Shelf.Ren := ⟨fun | 26 => 178 | 33 => 225 | 34 => 226 | 38 => 276 | n => n, fun | 24 => 22 | 9 => 9 | 3 => 3 | 4 => 4 | 40 => 133 | 0 => 0 | n => n, fun | n => n⟩
theorem Tryz.bsl : Go.Proofs.Lays2.n26 Tryz.prog Tryz.bsl_ren := {
  mixed := by kernel_rfl
  f26 := Tryz.func178.trans (congrArg some (by kernel_rfl))
  f33 := Tryz.func225.trans (congrArg some (by kernel_rfl))
  f34 := Tryz.func226.trans (congrArg some (by kernel_rfl))
  f38 := Tryz.func276.trans (congrArg some (by kernel_rfl))
  t0 := Tryz.underlying0
  a0 := Tryz.isAgg0
  z0 := Tryz.sizeOf0
  v0 := Tryz.zeroValue0
  t3 := Tryz.underlying3
  a3 := Tryz.isAgg3
  z3 := Tryz.sizeOf3
  v3 := Tryz.zeroValue3
  t4 := Tryz.underlying4
  a4 := Tryz.isAgg4
  z4 := Tryz.sizeOf4
  v4 := Tryz.zeroValue4
  t9 := Tryz.underlying9
  a9 := Tryz.isAgg9
  z9 := Tryz.sizeOf9
  v9 := Tryz.zeroValue9
  t24 := Tryz.underlying22
  a24 := Tryz.isAgg22
  z24 := Tryz.sizeOf22
  v24 := Tryz.zeroValue22
  t40 := Tryz.underlying133
  a40 := Tryz.isAgg133
  z40 := Tryz.sizeOf133
  v40 := Tryz.zeroValue133 }

end Go.Proofs
namespace Go.Proofs.YtgdnkankleoaoaaGreatDoor
open Go.RowKit Go.Sort
/-- Where the halving stands. -/
theorem halving {ks : List ByteArray} {key : ByteArray} (h : Asc ks) :
    ∃ m, m ≤ ks.length ∧ idxOf ks key = (if ks[m]? = some key then some m else none) ∧ Lib.bsGo (fun t => Op.bytesLess ((ks[t]?).getD key).toList key.toList) ks.length 0 ks.length = m := by
  obtain ⟨m, h0, h1, h2⟩ := split_asc (key := key) h
  refine ⟨m, h0, idxOf_split h h1 h2, Lib.bsGo_spec _ m (fun t ht => ?_) (fun t ht => ?_) _ _ _ (by omega) (by omega) h0⟩
  · have hx := List.getElem?_eq_getElem (show t < ks.length by omega)
    rw [hx, Option.getD_some, less_eq, decide_eq_true (h1 t _ hx ht)]
  · cases hx : ks[t]? with
    | none => rw [Option.getD_none, less_eq, scmp_self]; rfl
    | some x => rw [Option.getD_some, less_eq, decide_eq_false (h2 t x hx ht)]
theorem search_any (A : Option Addr) (a : Nat) (ks : List ByteArray) (key : ByteArray) (S : Nat → Prop) (w : World) (hA : Rs w S A (kv ks)) (hk : ks.length ≤ 1000000) (hs : Asc ks) :
    Calls Tryz.prog 178 #[.slice A ks.length a, .string key] w fun e w' =>
      (∃ p : Nat, e = .returned (.tuple #[.int .i64 p, .bool (idxOf ks key).isSome]) ∧ ∀ i, idxOf ks key = some i → p = i) ∧ ∃ q, w' = w.drewN q := by
  by_cases h0 : ks.length = 0
  · have hn : ks = [] := List.eq_nil_of_length_eq_zero h0
    subst hn
    refine (Any2.slices_BinarySearch_string_empty Tryz.bsl A a key w).mono ?_
    rintro e w' ⟨rfl, rfl⟩
    exact ⟨⟨0, rfl, fun i hi => by simp [idxOf] at hi⟩, 0, rfl⟩
  · obtain ⟨m, hm, hi, hb⟩ := halving (key := key) hs
    obtain ⟨b, o, rfl, hS, hc0⟩ := hA.at_ (kv_at (List.getElem?_eq_getElem (show 0 < ks.length by omega)))
    have hc : ∀ j, j < ks.length → w.cell? ⟨b, o + j, none⟩ = some (.string ((ks[j]?).getD key)) := by
      intro j hj
      have hx := List.getElem?_eq_getElem hj
      obtain ⟨b', o', he, _, hc⟩ := hA.at_ (kv_at hx)
      injection he with he
      injection he with e1 e2
      subst e1; subst e2
      rw [hx, Option.getD_some]
      exact hc
    refine (Any2.slices_BinarySearch_string Tryz.bsl b o ks.length a (fun t => (ks[t]?).getD key) key w (by omega) hc).mono ?_
    rintro e w' ⟨rfl, q, rfl⟩
    rw [hb, hi]
    refine ⟨⟨m, ?_, fun i h => ?_⟩, q, rfl⟩
    · have hd : decide (m < ks.length ∧ (ks[m]?).getD key = key) = (if ks[m]? = some key then some m else none).isSome := by
        by_cases hx : ks[m]? = some key
        · rw [if_pos hx, Option.isSome_some, decide_eq_true_iff, hx]
          exact ⟨(List.getElem?_eq_some_iff.1 hx).1, rfl⟩
        · rw [if_neg hx, Option.isSome_none, decide_eq_false_iff_not]
          rintro ⟨h1, h2⟩
          apply hx
          rw [List.getElem?_eq_getElem h1] at h2 ⊢
          rw [Option.getD_some] at h2
          rw [h2]
      rw [← hd]
    · by_cases hx : ks[m]? = some key
      · rw [if_pos hx] at h; injection h
      · rw [if_neg hx] at h; cases h
end Go.Proofs.YtgdnkankleoaoaaGreatDoor
namespace Go.Proofs.YtgdnkankleoaoaaGreatDoor
open Go.RowKit Go.Shelf Go.Sort
def MergeOk (u : V) : Prop := ∀ (v : V) (cs ds : List Value) (w : World), Lies w (· < w.heap.size) v cs → Lies w (· < w.heap.size) u ds → valid v = true → valid u = true → kd v = 6 → kd u = 6 →
  Calls Tryz.prog 120 #[.agg cs.toArray, .agg ds.toArray] w (RetPost (mrg v u).1 (mrg v u).2 w)
/-- The call of union behind the loop. -/
theorem mg_union {n n2 : Int} {s s2 : ByteArray} {ks ks2 : List ByteArray} {es es2 : List V} (hv : valid (.mk 6 n s ks es) = true) (hu : valid (.mk 6 n2 s2 ks2 es2) = true) {A A2 B C : Option Addr} {a a2 b cap : Nat} {xs : List Value} {w wr : World}
    (hA : Rs w (· < w.heap.size) A (kv ks)) (hA0 : A = none → a = 0) (hA2 : Rs w (· < w.heap.size) A2 (kv ks2)) (hA20 : A2 = none → a2 = 0) (hB : Rs w (· < w.heap.size) B xs) (hB0 : B = none → b = 0) (hL : LiesL w (· < w.heap.size) es xs)
    (hb : Below w.heap.size w wr) {l : List V} {zs : List Fv} (hown : wr.ownsRow w.heap.size 25 5 (.slice C es2.length cap) es2.length (zs.flatMap Fv.cs)) (hl : l.length = es2.length) (hok : l.all valid = true) (hLl : LiesL wr (· < wr.heap.size) l (zs.flatMap Fv.cs)) (hres : mrgL ks es ks2 es2 = (l, 0)) :
    Calls Tryz.prog 193 #[.agg #[.int .i64 6, .int .i64 n, .string s, .slice A ks.length a, .slice B es.length b], .agg #[.int .i64 6, .int .i64 0, .string ⟨#[]⟩, .slice A2 ks2.length a2, .slice C es2.length cap]] wr (RetPost (mrg (.mk 6 n s ks es) (.mk 6 n2 s2 ks2 es2)).1 (mrg (.mk 6 n s ks es) (.mk 6 n2 s2 ks2 es2)).2 wr) := by
  have hlen : ks.length = es.length := (valid_keys hv).2.1 rfl
  have hlen2 : ks2.length = es2.length := (valid_keys hu).2.1 rfl
  have hz1 := (valid_keys hv).2.2
  have hz2 := (valid_keys hu).2.2
  have hel := valid_elems hv
  have hko := valid_keysok hv
  have hko2 := valid_keysok hu
  obtain ⟨C', c', he, hcn, hcl, hcm, hrs⟩ := own_open hown
  cases he
  rw [mrg_eq, hres, if_pos rfl]
  refine union_over _ _ n 0 s ⟨#[]⟩ A B A2 C _ a _ b _ a2 _ cap wr (ks.length + ks2.length) (es.length + es2.length) (kv ks ++ kv ks2) (xs ++ zs.flatMap Fv.cs) _ _ (fun W g hW' q0 q1 => ?_) (fun W g hW' q0 q1 => ?_) (fun W D d E e hW' ho1 ho2 => ?_)
  · have hW := chain hb hW'
    exact concatS_any g A A2 ks.length ks2.length a a2 (kv ks) (kv ks2) W q0 q1 (hA.move fun x hx => ⟨Nat.lt_of_lt_of_le hx hW.size, hW.block x hx⟩) (hA2.move fun x hx => ⟨Nat.lt_of_lt_of_le hx hW.size, hW.block x hx⟩) hA0 hA20 (by rw [kv_length]; omega) (by rw [kv_length]; omega) (by omega) (by omega) (kv_one _) (kv_one _)
  · have hW := chain hb hW'
    exact concatV_any g B C es.length es2.length b cap xs (zs.flatMap Fv.cs) W q0 q1 ((Row.mk hB hL).below hW).rs (hrs.move fun x hx => ⟨Nat.lt_of_lt_of_le hx.2.1 hW'.size, hW'.block x hx.2.1⟩) hB0 hcn hL.len (by rw [hLl.len, hl]) (by omega) (by omega) (liesL_one hL) (liesL_one hLl)
  · have hW := chain hb hW'
    obtain ⟨D', d', he, -, -, -, hr1⟩ := own_open ho1
    cases he
    obtain ⟨E', e', he, -, -, -, hr2⟩ := own_open ho2
    cases he
    have := obj_rows (ks ++ ks2) (es ++ l) (by simp; omega) (by simp; omega) (by rw [List.all_append, hko.1, hko2.1]; rfl) (fun x hx => by rcases List.mem_append.1 hx with q | q; (· exact hko.2 x q); exact hko2.2 x q) (by rw [List.all_append, hel, hok]; rfl) D E d e (xs ++ zs.flatMap Fv.cs) W
      (by rw [kv_append]; exact hr1.move fun x hx => ⟨hx.2.1, rfl⟩) ⟨hr2.move fun x hx => ⟨hx.2.1, rfl⟩, ((Row.mk hB hL).below hW).lies.append (hLl.move fun x hx => ⟨Nat.lt_of_lt_of_le hx hW'.size, hW'.block x hx⟩)⟩
    have hz : putL [] ((ks ++ ks2).zip (es ++ l)) = putL (ks.zip es) (ks2.zip l) := by
      rw [List.zip_append hlen]
      unfold putL
      rw [List.foldl_append]
      have := putL_nil_asc (qs := ks.zip es) (prs_asc hv)
      unfold putL at this
      rw [this]
    rw [hz, List.length_append, List.length_append, hl] at this
    exact this
end Go.Proofs.YtgdnkankleoaoaaGreatDoor
