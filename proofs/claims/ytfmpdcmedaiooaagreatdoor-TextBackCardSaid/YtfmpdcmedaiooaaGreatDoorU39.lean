/- slices.Clone at values, and arith.without. Package arith, plain: what the sum of two values is. Nothing of the program is named here. Package arith: boxes of arguments, what a call hands back. arith: sums, differences, products, quotients and remainders of numbers; negatives; messages. arith.subtract on any two valid values, and Binary at "-". arith.stringArray. slices.ContainsFunc over the test whether an element is no number. strings.HasPrefix, HasSuffix, TrimPrefix, TrimSuffix and slices.Equal at int: the library's contracts, laid at this program. Beginnings and ends of joined strings, plain. strings.Split: the library's contract, laid at this program. strings.explode, and strings.Split at the empty separator, at every string: the library's own text walked, over any program that lays it. arith.Split at every string. The laws' sanity check: the chapter's second example. -/
import Derived.Test.YtfmpdcmedaiooaaGreatDoorU38
import Derived.Test.YtfmpdcmedaiooaaGreatDoorU01
import Derived.Lib.AppendZerosOnto
import Derived.WalkSpells
import Derived.WalkLawsBesides
import Derived.Outline
import Derived.Lib.SliceRun
import Derived.Test.YtfmpdcmedaiooaaGreatDoorU31
import Derived.Test.YtfmpdcmedaiooaaGreatDoorU30
import Derived.Test.YtfmpdcmedaiooaaGreatDoorU28
import Derived.Test.YtfmpdcmedaiooaaGreatDoorU12
import Derived.Deep.RegionHeld3
import Derived.Laws.MakeOwn
import Derived.Shelf.Lays
import Derived.Shelf.Strings.Prefix
import Derived.Shelf.Slices.Equal
import Derived.Ground.NamesProg
import Derived.Test.YtfmpdcmedaiooaaGreatDoorRows
import Derived.Test.YtfmpdcmedaiooaaGreatDoorU09
import Derived.WalkKit
import Derived.Lib.Strings
import Derived.Shelf.LaysM
import Derived.Shelf.Strings.Split
import Derived.Shelf.Utf8.RuneCount
import Derived.Shelf.Unicode.DecodeAny
import Derived.Lib.SplitLaws
import Derived.Lib.Hide
import Derived.Deep.LoopGhost
import Derived.Test.YtfmpdcmedaiooaaGreatDoorU10
import Derived.Lib.IndexMore
import Derived.Lib.RepeatB
set_option linter.unusedVariables false
set_option linter.unusedSimpArgs false
namespace Go.Proofs.YtfmpdcmedaiooaaGreatDoor
open Go.RowKit Go.Shelf Go.Sort
/-- The cells of values, five by five. -/
theorem lies_fv {w : World} {S : Nat → Prop} {v : V} {cs : List Value} (h : Lies w S v cs) : ∃ x : Fv, cs = x.cs := by
  obtain ⟨k, n, s, ks, es⟩ := v
  obtain ⟨A, a, B, b, xs, rfl, _⟩ := lies_open h
  exact ⟨⟨k, n, s, A, ks.length, a, B, es.length, b⟩, rfl⟩
theorem liesL_fv {w : World} {S : Nat → Prop} : ∀ (es : List V) (xs : List Value), LiesL w S es xs → ∃ l : List (V × Fv), l.map Prod.fst = es ∧ xs = (l.map Prod.snd).flatMap Fv.cs ∧ ∀ p ∈ l, Lies w S p.1 p.2.cs
  | [], xs, h => by rw [LiesL] at h; subst h; exact ⟨[], rfl, rfl, fun p hp => by cases hp⟩
  | e :: es, xs, h => by
    rw [LiesL] at h
    obtain ⟨c, r, rfl, hc, hr⟩ := h
    obtain ⟨x, rfl⟩ := lies_fv hc
    obtain ⟨l, h1, rfl, h3⟩ := liesL_fv es r hr
    refine ⟨(e, x) :: l, by rw [List.map_cons, h1], rfl, fun p hp => ?_⟩
    rcases List.mem_cons.1 hp with rfl | hp
    · exact hc
    · exact h3 p hp
theorem rs_row {w : World} {B : Nat} {A : Option Addr} {zs : List Fv} (h : Rs w (· < B) A (zs.flatMap Fv.cs)) : FvRow B w A zs := by
  intro j x hx
  have hjl : j < zs.length := (List.getElem?_eq_some_iff.1 hx).1
  have hyy : zs[j]! = x := by rw [getElem!_def, hx]
  have c : ∀ c, c < 5 → ∃ b o, A = some ⟨b, o, none⟩ ∧ b < B ∧ w.cell? ⟨b, o + (j * 5 + c), none⟩ = some (x.cs[c]!) := fun c hc =>
    h (j * 5 + c) _ (by rw [flat_get _ _ (by omega), show (j * 5 + c) / 5 = j by omega, show (j * 5 + c) % 5 = c by omega, hyy])
  obtain ⟨b, o, rfl, hb, h0⟩ := c 0 (by omega)
  have c' : ∀ k, k < 5 → w.cell? ⟨b, o + j * 5 + k, none⟩ = some (x.cs[k]!) := fun k hk => by
    obtain ⟨b', o', e, _, h1⟩ := c k hk
    injection e with e
    injection e with e1 e2
    subst e1 e2
    rw [Nat.add_assoc]
    exact h1
  exact ⟨b, o, rfl, hb, c' 0 (by omega), c' 1 (by omega), c' 2 (by omega), c' 3 (by omega), c' 4 (by omega)⟩
end Go.Proofs.YtfmpdcmedaiooaaGreatDoor
namespace Go.Proofs.YtfmpdcmedaiooaaGreatDoor
open Go.RowKit Go.Sort
theorem valid_parts {k n : Int} {s : ByteArray} {ks : List ByteArray} {es : List V} (h : valid (.mk k n s ks es) = true) : s.size ≤ 4096 ∧ okS s = true ∧ es.length ≤ 1024 ∧ keysOk none ks = true := by
  have h0 := ((valid_iff _).1 h).1
  rw [good] at h0
  simp only [Bool.and_eq_true, decide_eq_true_eq] at h0
  exact ⟨h0.2.1, h0.2.2.1, h0.2.2.2.1, h0.2.2.2.2.1⟩
theorem keysOk_all : ∀ {ks : List ByteArray} {p : Option ByteArray}, keysOk p ks = true → ks.all okS = true ∧ ∀ k ∈ ks, k.size ≤ 4096
  | [], p, h => ⟨rfl, fun k hk => by cases hk⟩
  | x :: r, p, h => by
    have hx : keyOk x = true ∧ keysOk (some x) r = true := by
      cases p with
      | none => rw [keysOk] at h; simpa using h
      | some q => rw [keysOk] at h; simp only [Bool.and_eq_true] at h; exact ⟨h.1, h.2.2⟩
    obtain ⟨h1, h2⟩ := hx
    obtain ⟨h3, h4⟩ := keysOk_all h2
    unfold keyOk at h1
    simp only [Bool.and_eq_true, decide_eq_true_eq] at h1
    refine ⟨by rw [List.all_cons, h3, h1.2]; rfl, fun k hk => ?_⟩
    rcases List.mem_cons.1 hk with rfl | hk
    · exact h1.1
    · exact h4 k hk
theorem finV_ok {v : V} (h : valid v = true) : finV v = v := by unfold finV; rw [if_pos h]
theorem finE_ok {v : V} (h : valid v = true) : finE v = 0 := by unfold finE; rw [if_pos h]
theorem finE_zero {v : V} (h : finE v = 0) : valid v = true := by
  unfold finE at h
  split at h
  · assumption
  · cases h
theorem strR_ok {s : ByteArray} (h : okS s = true) : strR s = finV (strV s) ∧ strE s = finE (strV s) := by
  unfold strR strE
  rw [if_pos h, if_pos h]
  exact ⟨rfl, rfl⟩
theorem arrR_ok {l : List V} (h : l.all valid = true) : arrR l = finV (arrV l) ∧ arrE l = finE (arrV l) := by
  unfold arrR arrE
  rw [if_pos h, if_pos h]
  exact ⟨rfl, rfl⟩
/-- Members set one after another. -/
def putL (ps qs : PL) : PL := qs.foldl (fun ps p => putP ps p.1 p.2) ps
def kd : V → Int | .mk k _ _ _ _ => k
def stv : V → ByteArray | .mk _ _ s _ _ => s
/-- Within the limits or not. -/
def lim (v : V) : V × Int := (finV v, finE v)

theorem valid_num (n : Int) : valid (numV n) = true := by
  rw [valid_iff]
  unfold numV
  refine ⟨?_, ?_, ?_, ?_⟩
  · rw [good, goodL]
    have h1 : fits 3 n ⟨#[]⟩ ([] : List ByteArray).length ([] : List V).length = true := rfl
    rw [h1]
    decide +kernel
  · rw [dep]; simp
  · rw [V.sz, V.szL]; decide
  · rw [vbyt, vbytL]; decide
end Go.Proofs.YtfmpdcmedaiooaaGreatDoor
namespace Go.Proofs.YtfmpdcmedaiooaaGreatDoor
open Go.RowKit Go.Sort
/-- A result stored into its block. -/
theorem ret_put {w W : World} {g : Nat} {v : V} {err : Int} {r0 r1 r2 r3 r4 : Value} (hB : Below w.heap.size w W) (hg : w.heap.size ≤ g) (hgW : g < W.heap.size) (hl : Lies W (fun b => w.heap.size ≤ b ∧ b < W.heap.size ∧ b ≠ g) v [r0, r1, r2, r3, r4]) :
    RetPost v err w (.returned (.tuple #[.agg #[r0, r1, r2, r3, r4], .int .i64 err])) (((((W.setCell ⟨g, 0, none⟩ r0).setCell ⟨g, 1, none⟩ r1).setCell ⟨g, 2, none⟩ r2).setCell ⟨g, 3, none⟩ r3).setCell ⟨g, 4, none⟩ r4) := by
  refine ret_of (ds := [r0, r1, r2, r3, r4]) (((((hB.setCell (by exact hg) _).setCell (by exact hg) _).setCell (by exact hg) _).setCell (by exact hg) _).setCell (by exact hg) _) ?_
  refine hl.move fun b hb => ⟨⟨hb.1, by simp [World.setCell]; omega⟩, ?_⟩
  have hne := hb.2.2
  rw [Below.heap_setCell _ _ _ _ (by simpa using hne), Below.heap_setCell _ _ _ _ (by simpa using hne), Below.heap_setCell _ _ _ _ (by simpa using hne), Below.heap_setCell _ _ _ _ (by simpa using hne), Below.heap_setCell _ _ _ _ (by simpa using hne)]
theorem lies_numv (w : World) (S : Nat → Prop) (n : Int) : Lies w S (numV n) [.int .i64 3, .int .i64 n, .string ⟨#[]⟩, .slice none 0 0, .slice none 0 0] := by
  unfold numV
  rw [Lies]
  exact ⟨⟨Nat.zero_le _, by simp, Nat.zero_le _, Nat.zero_le _⟩, none, 0, none, 0, [], rfl, fun _ => rfl, fun _ => rfl, ⟨Nat.le_refl _, Nat.zero_le _⟩, ⟨Nat.le_refl _, Nat.zero_le _⟩, Rs.nil _ _ _, Rs.nil _ _ _, by rw [LiesL]⟩
/-- The blocks of a function with two values and a result. -/
structure B3 (w : World) (cs ds : Array Value) (W : World) : Prop where
  below : Below w.heap.size w W
  x : Box W w.heap.size 25 cs
  y : Box W (w.heap.size + 1) 25 ds
  r : Box W (w.heap.size + 1 + 1) 25 #[.int .i64 0, .int .i64 0, .string ⟨#[]⟩, .slice none 0 0, .slice none 0 0]
theorem box_at (W : World) (t : TypeId) (cs : Array Value) (p : Nat) (hp : W.heap.size = p) : Box (W.alloc (.cells cs t)) p t cs := by
  subst hp
  exact Box.laid W t cs
theorem B3.start (w : World) (cs ds : Array Value) : B3 w cs ds (((w.alloc (.cells cs 25)).alloc (.cells ds 25)).alloc (.cells #[.int .i64 0, .int .i64 0, .string ⟨#[]⟩, .slice none 0 0, .slice none 0 0] 25)) := by
  exact ⟨((((Below.refl _ _).alloc (Nat.le_refl _) _).alloc (by simp) _).alloc (by simp; omega) _), ((Box.laid w _ cs).alloc _).alloc _, (box_at _ _ _ _ (by simp)).alloc _, box_at _ _ _ _ (by simp)⟩
theorem B3.next {w W W' : World} {cs ds : Array Value} (h : B3 w cs ds W) (hb : Below W.heap.size W W') : B3 w cs ds W' :=
  ⟨chain h.below hb, h.x.below hb h.x.lt, h.y.below hb h.y.lt, h.r.below hb h.r.lt⟩
end Go.Proofs.YtfmpdcmedaiooaaGreatDoor
namespace Go.Proofs.YtfmpdcmedaiooaaGreatDoor
open Go.RowKit Go.Sort
/-- The blocks of a function with one value and a result. -/
structure B2 (w : World) (cs : Array Value) (W : World) : Prop where
  below : Below w.heap.size w W
  x : Box W w.heap.size 25 cs
  r : Box W (w.heap.size + 1) 25 #[.int .i64 0, .int .i64 0, .string ⟨#[]⟩, .slice none 0 0, .slice none 0 0]
theorem B2.start (w : World) (cs : Array Value) : B2 w cs ((w.alloc (.cells cs 25)).alloc (.cells #[.int .i64 0, .int .i64 0, .string ⟨#[]⟩, .slice none 0 0, .slice none 0 0] 25)) :=
  ⟨(((Below.refl _ _).alloc (Nat.le_refl _) _).alloc (by simp) _), (Box.laid w _ cs).alloc _, box_at _ _ _ _ (by simp)⟩
theorem B2.next {w W W' : World} {cs : Array Value} (h : B2 w cs W) (hb : Below W.heap.size W W') : B2 w cs W' :=
  ⟨chain h.below hb, h.x.below hb h.x.lt, h.r.below hb h.r.lt⟩
end Go.Proofs.YtfmpdcmedaiooaaGreatDoor
namespace Go.Proofs.YtfmpdcmedaiooaaGreatDoor
open Go.RowKit Go.Shelf Go.Sort
theorem liesL_of {w : World} {S : Nat → Prop} : ∀ (l : List (V × Fv)), (∀ p ∈ l, Lies w S p.1 p.2.cs) → LiesL w S (l.map Prod.fst) ((l.map Prod.snd).flatMap Fv.cs)
  | [], _ => by rw [List.map_nil, LiesL]; rfl
  | p :: r, h => by
    rw [List.map_cons, LiesL]
    exact ⟨p.2.cs, _, rfl, h p (by simp), liesL_of r fun q hq => h q (by simp [hq])⟩
end Go.Proofs.YtfmpdcmedaiooaaGreatDoor
namespace Go.Proofs.YtfmpdcmedaiooaaGreatDoor
open Go.RowKit Go.Shelf Go.Sort
def zl : Nat → List Value
  | 0 => []
  | n + 1 => [.int .i64 0, .int .i64 0, .string ⟨#[]⟩, .slice none 0 0, .slice none 0 0] ++ zl n
theorem zl_len : ∀ n, (zl n).length = n * 5
  | 0 => rfl
  | n + 1 => by rw [zl, List.length_append, zl_len n]; simp; omega
theorem zl_get : ∀ (n j : Nat), j < n * 5 → (zl n)[j]? = ([Value.int .i64 0, .int .i64 0, .string ⟨#[]⟩, .slice none 0 0, .slice none 0 0] : List Value)[j % 5]?
  | 0, j, h => by omega
  | n + 1, j, h => by
    rw [zl]
    by_cases hj : j < 5
    · rw [List.getElem?_append_left (by simpa using hj), Nat.mod_eq_of_lt hj]
    · rw [List.getElem?_append_right (by simp; omega), zl_get n _ (by simp; omega)]
      congr 1
      simp
      omega
set_option maxRecDepth 100000 in
theorem made_nulls (n : Nat) (hn : n ≤ 1000000) : ∀ W, (Instr.makeSlice 23 (.int .i64 (n : Int)) (.int .i64 (n : Int))).run Tryz.prog W = .ok (.slice (some ⟨W.heap.size, 0, none⟩) n n) (W.alloc (.cells (zl n).toArray 25)) := by
  obtain ⟨i, hi, hz, hs, hb⟩ := info_parts inf_value
  intro W
  have := run_make W 23 25 i zeroVal Tryz.underlying23 hi hz .i64 .i64 n n (by omega) (by omega) (by rw [hb]; omega) (by omega)
  rw [hs] at this
  have hC : madeCells zeroVal.cells (n * 5) = (zl n).toArray := by
    refine Array.ext (by simp [madeCells, zl_len]) fun j h1 h2 => ?_
    have hj : j < n * 5 := by simpa [madeCells] using h1
    have hm : j % 5 < 5 := Nat.mod_lt _ (by omega)
    have hz2 := zl_get n j hj
    have : (madeCells zeroVal.cells (n * 5))[j] = ([Value.int .i64 0, .int .i64 0, .string ⟨#[]⟩, .slice none 0 0, .slice none 0 0] : List Value)[j % 5] := by
      simp only [madeCells, zeroVal, Value.cells]
      simp
      rw [List.getElem?_eq_getElem hm, Option.getD_some]
    rw [this]
    rw [List.getElem?_eq_getElem (by rw [zl_len]; exact hj), List.getElem?_eq_getElem hm] at hz2
    injection hz2 with hz2
    rw [← hz2]
    simp
  simp only [Int.toNat_natCast] at this
  rw [hC] at this
  exact this
/-- The cells of a string as a value. -/
def strFv (s : ByteArray) : Fv := ⟨4, 0, s, none, 0, 0, none, 0, 0⟩
theorem zl_flat : ∀ n, zl n = (List.replicate n fvZero).flatMap Fv.cs
  | 0 => rfl
  | n + 1 => by
    rw [List.replicate_succ, List.flatMap_cons, ← zl_flat n]
    rfl
/-- Between two rounds. -/
structure SaSt (g n : Nat) (ps : List ByteArray) (w0 w : World) (i : Nat) (ys : List Fv) : Prop where
  own : w.ownsRow w0.heap.size 25 5 (.slice (some ⟨g, 0, none⟩) n n) n (ys.flatMap Fv.cs)
  len : ys.length = n
  head : ys.take i = (ps.take i).map strFv
  res : Box w w0.heap.size 25 #[.int .i64 0, .int .i64 0, .string ⟨#[]⟩, .slice none 0 0, .slice none 0 0]
  ne : w0.heap.size < g
  below : Below w0.heap.size w0 w
theorem SaSt.put {g n i : Nat} {ps : List ByteArray} {w0 w : World} {ys : List Fv} {s : ByteArray} (h : SaSt g n ps w0 w i ys) (hs : ps[i]? = some s) (hi : i < n) :
    SaSt g n ps w0 (((((w.setCell ⟨g, i * 5, none⟩ (.int .i64 4)).setCell ⟨g, i * 5 + 1, none⟩ (.int .i64 0)).setCell ⟨g, i * 5 + 2, none⟩ (.string s)).setCell ⟨g, i * 5 + 3, none⟩ (.slice none 0 0)).setCell ⟨g, i * 5 + 4, none⟩ (.slice none 0 0)) (i + 1) (ys.set i (strFv s)) := by
  have hl := h.len
  have hg : w0.heap.size ≤ g := Nat.le_of_lt h.ne
  have hne : w0.heap.size ≠ g := Nat.ne_of_lt h.ne
  refine ⟨?_, by rw [List.length_set]; exact hl, ?_, ((((h.res.far hne _).far hne _).far hne _).far hne _).far hne _, h.ne, ((((h.below.setCell hg _).setCell hg _).setCell hg _).setCell hg _).setCell hg _⟩
  · rw [← flat_set (strFv s) ys i (by omega)]
    exact own_set (own_set (own_set (own_set (own_set h.own (i := i * 5) (by omega) _) (i := i * 5 + 1) (by omega) _) (i := i * 5 + 2) (by omega) _) (i := i * 5 + 3) (by omega) _) (i := i * 5 + 4) (by omega) _
  · rw [List.take_add_one, List.getElem?_set_self (by omega), List.take_set_of_le (Nat.le_refl _), h.head, List.take_add_one, hs, List.map_append]
    rfl
theorem SaSt.free {g n i : Nat} {ps : List ByteArray} {w0 w : World} {ys : List Fv} (h : SaSt g n ps w0 w i ys) (k : Nat) : w.frozen? ⟨g, k, none⟩ = false := by
  rcases h.own.2 with ⟨h0, _⟩ | ⟨g', cap', cur, hv, hbg, hgg, _⟩
  · cases h0
  · cases hv
    exact (show Box w g _ cur from hgg).free k
theorem SaSt.there {g n i : Nat} {ps : List ByteArray} {w0 w : World} {ys : List Fv} (h : SaSt g n ps w0 w i ys) (k : Nat) (hk : k < n * 5) : ∃ u, w.cell? ⟨g, k, none⟩ = some u := by
  have h1 := h.own.1
  rw [h.own.cellAt k hk]
  exact ⟨_, List.getElem?_eq_getElem (by omega)⟩
end Go.Proofs.YtfmpdcmedaiooaaGreatDoor
namespace Go.Proofs.YtfmpdcmedaiooaaGreatDoor
open Go.RowKit Go.Shelf Go.Sort
def nonumK (k : Int) : Bool := k != 3
set_option maxHeartbeats 1000000 in
theorem nonum_any (k n : Int) (s : ByteArray) (A C : Option Addr) (la a lc c : Nat) (w : World) : Calls Tryz.prog 23 #[.agg #[.int .i64 k, .int .i64 n, .string s, .slice A la a, .slice C lc c]] w fun e w' => e = .returned (.bool (nonumK k)) ∧ Below w.heap.size w w' := by
  unfold nonumK
  go_enter Tryz.func23, Tryz.ntmps23
  go_wp2_with fail
  go_ret
  exact ⟨rfl, below1 _ _⟩
set_option maxHeartbeats 4000000 in
set_option maxRecDepth 100000 in
theorem idxn_any (A : Option Addr) (cap : Nat) (l : List Fv) (w : World) (hrow : FvRow w.heap.size w A l) (hlen : l.length ≤ 1000000) :
    Calls Tryz.prog 33 #[.slice A l.length cap, .func (.func 23) #[] #[]] w fun e w' => (∃ i : Int, e = .returned (.int .i64 i) ∧ decide (0 ≤ i) = l.any fun x => nonumK x.k) ∧ Below w.heap.size w w' := by
  have HR := Lib.hid hrow
  have HG := Lib.hid (fun k n s A C la a lc c W => nonum_any k n s A C la a lc c W)
  clear hrow
  go_enter Tryz.func33, Tryz.ntmps33
  go_wp2_with fail
  go_loopg [5, 8] l.length (fun gg _ s8 wr => ∃ k : Nat, k ≤ l.length ∧ l.length - k ≤ gg ∧ s8 = .int .i64 k ∧ Hid (Below w.heap.size w wr) ∧ Hid (∀ (j : Nat) (p : Fv), j < k → l[j]? = some p → nonumK p.k = false))
  case atStart => exact ⟨0, Nat.zero_le _, by omega, rfl, Lib.hid (Below.refl _ _), Lib.hid fun j p hj => absurd hj (Nat.not_lt_zero _)⟩
  case round =>
    obtain ⟨k, hk, hg, rfl, HW, HI⟩ := hrel
    by_cases hlt : k < l.length
    · obtain ⟨⟨xk, xn, xs, xA, xla, xa, xC, xlc, xc⟩, hp⟩ : ∃ p, l[k]? = some p := ⟨_, List.getElem?_eq_getElem hlt⟩
      have HP := Lib.hid hp
      obtain ⟨b, o, rfl, hb, hf⟩ := HR.out k ⟨xk, xn, xs, xA, xla, xa, xC, xlc, xc⟩ hp
      obtain ⟨f0, f1, f2, f3, f4⟩ := hf.below HW.out hb
      simp only at f0 f1 f2 f3 f4
      have HC := Lib.hid (fun W => HG.out xk xn xs xA xC xla xa xlc xc W)
      have hk0 : (0 : Int) ≤ (k : Int) := by omega
      have hkl : (k : Int) < (l.length : Int) := by omega
      clear hf hp
      obtain ⟨c, hcc⟩ : ∃ c, nonumK xk = c := ⟨_, rfl⟩
      have HCC := Lib.hid hcc
      rw [hcc] at HC
      clear hcc
      cases c with
      | true =>
        go_wp2_with fail
        refine (HC.out _).mono ?_
        rintro e w2 ⟨rfl, hb2⟩
        go_wp2_with fail
        (try simp only [Exit.inBlock, Exit.then])
        go_ret
        refine ⟨⟨k, rfl, ?_⟩, HW.out.trans (hb2.mono HW.out.size)⟩
        rw [decide_eq_true hk0]
        exact (List.any_eq_true.2 ⟨_, List.mem_of_getElem? HP.out, HCC.out⟩).symm
      | false =>
        go_wp2_with fail
        refine (HC.out _).mono ?_
        rintro e w2 ⟨rfl, hb2⟩
        go_wp2_with fail
        go_roundg (l.length - (k + 1))
        case measure => omega
        case rel =>
          refine ⟨k + 1, by omega, Nat.le_refl _, by first | rfl | go_num, Lib.hid (HW.out.trans (hb2.mono HW.out.size)), Lib.hid fun j p hj hp => ?_⟩
          rcases Nat.lt_or_ge j k with h | h
          · exact HI.out j p h hp
          · obtain rfl : j = k := by omega
            have := HP.out
            rw [hp] at this
            injection this with this
            subst this
            exact HCC.out
    · have hkl : ¬ ((k : Int) < (l.length : Int)) := by omega
      obtain rfl : k = l.length := by omega
      go_wp2_with fail
      (try simp only [Exit.inBlock, Exit.then])
      go_ret
      refine ⟨⟨-1, rfl, ?_⟩, HW.out⟩
      have hall : (l.any fun x => nonumK x.k) = false := by
        rw [List.any_eq_false]
        intro x hx
        obtain ⟨j, hj⟩ := List.getElem?_of_mem hx
        have hlt2 : j < l.length := (List.getElem?_eq_some_iff.1 hj).1
        rw [HI.out j x hlt2 hj]
        exact Bool.false_ne_true
      rw [hall]
      rfl
set_option maxHeartbeats 1000000 in
theorem containsn_any (A : Option Addr) (cap : Nat) (l : List Fv) (w : World) (hrow : FvRow w.heap.size w A l) (hlen : l.length ≤ 1000000) :
    Calls Tryz.prog 22 #[.slice A l.length cap, .func (.func 23) #[] #[]] w fun e w' => e = .returned (.bool (l.any fun x => nonumK x.k)) ∧ Below w.heap.size w w' := by
  have HC := Lib.hid (idxn_any A cap l w hrow hlen)
  generalize (l.any fun x => nonumK x.k) = r at HC ⊢
  clear hrow
  go_enter Tryz.func22, Tryz.ntmps22
  go_wp2_with fail
  refine HC.out.mono ?_
  rintro e1 w1 ⟨⟨i, rfl, hi⟩, hb⟩
  cases r with
  | true =>
    have h0 : (0 : Int) ≤ i := of_decide_eq_true hi
    go_wp2_with fail
    go_ret
    exact ⟨by first | rfl | simp [h0], hb⟩
  | false =>
    have h0 : ¬ (0 : Int) ≤ i := of_decide_eq_false hi
    go_wp2_with fail
    go_ret
    exact ⟨by first | rfl | simp [h0], hb⟩
end Go.Proofs.YtfmpdcmedaiooaaGreatDoor
namespace Go.Proofs
open Go.Shelf Go.RowKit
def Tryz.tpx101_ren : Go.Shelf.Ren := ⟨fun | 101 => 85 | 208 => 124 | 206 => 122 | n => n, fun | 9 => 9 | 4 => 4 | 3 => 3 | n => n, fun | n => n⟩
theorem Tryz.tpx101 : Go.Proofs.Lays.n101 Tryz.prog Tryz.tpx101_ren := {
  mixed := by kernel_rfl
  f101 := Tryz.func85.trans (congrArg some (by kernel_rfl))
  f206 := Tryz.func122.trans (congrArg some (by kernel_rfl))
  f208 := Tryz.func124.trans (congrArg some (by kernel_rfl))
  t3 := Tryz.underlying3
  a3 := Tryz.isAgg3
  z3 := Tryz.sizeOf3
  v3 := Tryz.zeroValue3
  t4 := Tryz.underlying4
  a4 := Tryz.isAgg4
  z4 := Tryz.sizeOf4
  v4 := Tryz.zeroValue4
  t9 := Tryz.underlying9
  a9 := Tryz.isAgg9
  z9 := Tryz.sizeOf9
  v9 := Tryz.zeroValue9 }

def Tryz.teq111_ren : Go.Shelf.Ren := ⟨fun | 111 => 127 | n => n, fun | 28 => 47 | 3 => 3 | 4 => 4 | 0 => 0 | n => n, fun | n => n⟩
theorem Tryz.teq111 : Go.Proofs.Lays.n111 Tryz.prog Tryz.teq111_ren := {
  mixed := by kernel_rfl
  f111 := Tryz.func127.trans (congrArg some (by kernel_rfl))
  t0 := Tryz.underlying0
  a0 := Tryz.isAgg0
  z0 := Tryz.sizeOf0
  v0 := Tryz.zeroValue0
  t3 := Tryz.underlying3
  a3 := Tryz.isAgg3
  z3 := Tryz.sizeOf3
  v3 := Tryz.zeroValue3
  t4 := Tryz.underlying4
  a4 := Tryz.isAgg4
  z4 := Tryz.sizeOf4
  v4 := Tryz.zeroValue4
  t28 := Tryz.underlying47
  a28 := Tryz.isAgg47
  z28 := Tryz.sizeOf47
  v28 := Tryz.zeroValue47 }


end Go.Proofs
namespace Go.Proofs.YtfmpdcmedaiooaaGreatDoor
open Go.RowKit
theorem trimPre_lib (s p : ByteArray) (w : World) : Calls Tryz.prog 85 #[.string s, .string p] w fun e w' => e = .returned (.string ⟨(Lib.trimPrefix s.data.toList p.data.toList).toArray⟩) ∧ w' = w :=
  Go.Proofs.Any.strings_TrimPrefix { Tryz.tpx101 with } s p w
theorem eqInt_lib (b1 o1 n c b2 o2 m d : Nat) (xs ys : List Int) (w : World) (hx : n ≤ xs.length) (hy : m ≤ ys.length) (hbig : n ≤ 9223372036854775807) (hbig2 : m ≤ 9223372036854775807) (hc1 : ∀ j, j < xs.length → w.cell? ⟨b1, o1 + j, none⟩ = some (.int .i64 (xs.getD j 0))) (hc2 : ∀ j, j < ys.length → w.cell? ⟨b2, o2 + j, none⟩ = some (.int .i64 (ys.getD j 0))) :
    Calls Tryz.prog 127 #[.slice (some ⟨b1, o1, none⟩) n c, .slice (some ⟨b2, o2, none⟩) m d] w fun e w' => e = .returned (.bool (xs.take n == ys.take m)) ∧ ∃ q, w' = w.drewN q :=
  Go.Proofs.Any.slices_Equal_int { Tryz.teq111 with } b1 o1 n c b2 o2 m d xs ys w hx hy hbig hbig2 hc1 hc2
end Go.Proofs.YtfmpdcmedaiooaaGreatDoor
namespace Go.Proofs.YtfmpdcmedaiooaaGreatDoor
open Go.RowKit
theorem cat_list (a b : ByteArray) : (a ++ b).data.toList = a.data.toList ++ b.data.toList := by simp
theorem cat_pre (a b : ByteArray) : Lib.hasPrefix (a ++ b).data.toList a.data.toList = true := by
  rw [cat_list]
  unfold Lib.hasPrefix
  rw [List.isPrefixOf_iff_prefix]
  exact List.prefix_append _ _
theorem cat_cutp (a b : ByteArray) : (⟨(Lib.trimPrefix (a ++ b).data.toList a.data.toList).toArray⟩ : ByteArray) = b := by
  have h := cat_pre a b
  unfold Lib.trimPrefix
  rw [if_pos h, cat_list, List.drop_left]
end Go.Proofs.YtfmpdcmedaiooaaGreatDoor
namespace Go.Proofs
open Go.Shelf Go.RowKit
end Go.Proofs
namespace Go.Proofs.YtfmpdcmedaiooaaGreatDoor
open Go.RowKit
/-- internal/bytealg.MaxLen holds some int. -/
def MaxL (w : World) : Prop := ∃ m, w.cell? ⟨2, 0, none⟩ = some (.int .i64 m)
theorem MaxL.next {w W : World} (h : MaxL w) (hb : Below w.heap.size w W) : MaxL W := by
  obtain ⟨m, hm⟩ := h
  have hl := World.block_lt_of_cell? w _ hm
  exact ⟨m, (hb.cell (p := ⟨2, 0, none⟩) hl).trans hm⟩
end Go.Proofs.YtfmpdcmedaiooaaGreatDoor
namespace Go.Proofs.YtfmpdcmedaiooaaGreatDoor
open Go.Shelf Go.RowKit Go.Lib Go.Proofs
variable {P : Program} {ρ : Ren}
theorem tabs_below {g3 g4 : Nat} {w w' : World} (h : Lib.Utf8Tabs g3 g4 w) (hb : Below w.heap.size w w') : Lib.Utf8Tabs g3 g4 w' := by
  refine ⟨fun c hc => ?_, fun i hi => ⟨?_, ?_⟩⟩
  · exact (hb.cell (p := ⟨g3, c, none⟩) (World.block_lt_of_cell? w _ (h.1 c hc))).trans (h.1 c hc)
  · exact (hb.cell (p := ⟨g4, 2 * i, none⟩) (World.block_lt_of_cell? w _ (h.2 i hi).1)).trans (h.2 i hi).1
  · exact (hb.cell (p := ⟨g4, 2 * i + 1, none⟩) (World.block_lt_of_cell? w _ (h.2 i hi).2)).trans (h.2 i hi).2
end Go.Proofs.YtfmpdcmedaiooaaGreatDoor
namespace Go.Proofs.YtfmpdcmedaiooaaGreatDoor
open Go.RowKit Go.Sort
/-- The two tables of unicode/utf8 hold what their initialisers lay. -/
def Tabs (w : World) : Prop := Lib.Utf8Tabs 0 1 w
theorem Tabs.next {w W : World} (h : Tabs w) (hb : Below w.heap.size w W) : Tabs W := tabs_below h hb
end Go.Proofs.YtfmpdcmedaiooaaGreatDoor
namespace Go.Proofs.YtfmpdcmedaiooaaGreatDoor
open Go.RowKit Go.Sort
theorem rs_box {w : World} {g : Nat} {t : TypeId} {cs : List Value} {S : Nat → Prop} (h : Box w g t cs.toArray) (hg : S g) : Rs w S (some ⟨g, 0, none⟩) cs := fun j u hj => ⟨g, 0, rfl, hg, by rw [Nat.zero_add]; exact h.cell (by simpa using hj)⟩
end Go.Proofs.YtfmpdcmedaiooaaGreatDoor
