/- ArithStrings. arith.merge: what stands between two rounds. arith.merge: the walk. -/
import Derived.Test.YtjafmdngbphacaaGreatDoorM43
import Derived.Test.YtjafmdngbphacaaGreatDoorM41
import Derived.Test.YtjafmdngbphacaaGreatDoorRows
import Derived.WalkKit
import Derived.Lib.Hide
import Derived.WalkSpells
import Derived.WalkLawsBesides
import Derived.Test.YtjafmdngbphacaaGreatDoorM38
import Derived.Deep.RegionHeld3
import Derived.Test.YtjafmdngbphacaaGreatDoorM30
import Derived.Shelf.Spec.SearchS
import Derived.Ground.Names2Prog
import Derived.Test.YtjafmdngbphacaaGreatDoorM22
import Derived.Test.YtjafmdngbphacaaGreatDoorM21
import Derived.Test.YtjafmdngbphacaaGreatDoorM29
import Derived.Test.YtjafmdngbphacaaGreatDoorM39
set_option linter.unusedVariables false
set_option linter.unusedSimpArgs false
namespace Go.Proofs.YtjafmdngbphacaaGreatDoor
open Go.RowKit Go.Sort
theorem below_dr {w0 W : World} (h : Below w0.heap.size w0 W) : Below w0.heap.size w0 W.drew := h.drew
/-- What stands in the middle of a region that lays one value's box: nothing old has turned; the box, if it is laid, is zero. -/
structure Sb (w0 W : World) (z : Option Nat) : Prop where
  below : Below w0.heap.size w0 W
  box : ∀ g, z = some g → w0.heap.size ≤ g ∧ Box W g 25 #[.int .i64 0, .int .i64 0, .string ⟨#[]⟩, .slice none 0 0, .slice none 0 0]
theorem Sb.start (w : World) : Sb w w none := ⟨Below.refl _ _, fun g h => by cases h⟩
theorem Sb.drew {w0 W : World} {z : Option Nat} (h : Sb w0 W z) : Sb w0 W.drew z := ⟨below_dr h.below, fun g e => h.box g e⟩
theorem Sb.zbox {w0 W : World} (h : Sb w0 W none) : Sb w0 (W.alloc (.cells #[.int .i64 0, .int .i64 0, .string ⟨#[]⟩, .slice none 0 0, .slice none 0 0] 25)) (some W.heap.size) :=
  ⟨chain h.below (below1 _ _), fun g e => by injection e with e; subst e; exact ⟨h.below.size, Box.laid _ _ _⟩⟩
theorem Sb.call {w0 W W' : World} {z : Option Nat} (hb : Below W.heap.size W W') (h : Sb w0 W z) : Sb w0 W' z :=
  ⟨chain h.below hb, fun g e => ⟨(h.box g e).1, (h.box g e).2.below hb (h.box g e).2.lt⟩⟩
/-- A value that a call has handed back lies in a box of its own. -/
def GotB (w0 : World) (r : V) (er : Int) (t u : Value) (wx : World) : Prop :=
  Below w0.heap.size w0 wx ∧ u = .int .i64 er ∧ ∃ (g : Nat) (k n : Int) (s : ByteArray) (A : Option Addr) (la a : Nat) (C : Option Addr) (lc c : Nat), t = .pointer (some ⟨g, 0, none⟩) ∧ Vx wx g r [.int .i64 k, .int .i64 n, .string s, .slice A la a, .slice C lc c]
/-- What a call hands back in the middle of such a region. -/
def OpS (w0 : World) (z : Option Nat) (r : V) (er : Int) (e : Ending) (w' : World) : Prop :=
  ∃ (k n : Int) (s : ByteArray) (A : Option Addr) (la a : Nat) (C : Option Addr) (lc c : Nat), e = .returned (.tuple #[.agg #[.int .i64 k, .int .i64 n, .string s, .slice A la a, .slice C lc c], .int .i64 er]) ∧ Sb w0 w' z ∧
    Lies w' (fun b => (∀ g, z = some g → b ≠ g) ∧ b < w'.heap.size) r [.int .i64 k, .int .i64 n, .string s, .slice A la a, .slice C lc c]
theorem opS_of {w0 W : World} {z : Option Nat} {r : V} {er : Int} {f : FuncId} {args : Array Value} (h : Sb w0 W z) (hc : Calls Tryz.prog f args W (RetPost r er W)) : Calls Tryz.prog f args W (OpS w0 z r er) := by
  refine (ret_open hc).mono fun e w' hp => ?_
  obtain ⟨k, n, s, ks, es, A, a, C, c, hv, rfl, hb, hl⟩ := hp
  exact ⟨k, n, s, A, ks.length, a, C, es.length, c, rfl, Sb.call hb h, hl.move fun b hb => ⟨⟨fun g e => by have := (h.box g e).2.lt; omega, hb.2⟩, rfl⟩⟩
theorem gotB_last {w0 w3 : World} {r : V} {er k n : Int} {s : ByteArray} {A C : Option Addr} {la a lc c : Nat} {z : Option Nat} (hs : Sb w0 w3 z)
    (hl : Lies w3 (fun b => (∀ g, z = some g → b ≠ g) ∧ b < w3.heap.size) r [.int .i64 k, .int .i64 n, .string s, .slice A la a, .slice C lc c]) :
    GotB w0 r er (.pointer (some ⟨w3.heap.size, 0, none⟩)) (.int .i64 er) (w3.alloc (.cells #[.int .i64 k, .int .i64 n, .string s, .slice A la a, .slice C lc c] 25)) :=
  ⟨chain hs.below (below1 _ _), rfl, _, k, n, s, A, la, a, C, lc, c, rfl, Vx.new (hl.move fun b hb => ⟨hb.2, rfl⟩)⟩
theorem gotB_fill {w0 w3 : World} {r : V} {er k n : Int} {s : ByteArray} {A C : Option Addr} {la a lc c g : Nat} (hs : Sb w0 w3 (some g))
    (hl : Lies w3 (fun b => (∀ g', some g = some g' → b ≠ g') ∧ b < w3.heap.size) r [.int .i64 k, .int .i64 n, .string s, .slice A la a, .slice C lc c]) :
    GotB w0 r er (.pointer (some ⟨g, 0, none⟩)) (.int .i64 er) (((((w3.setCell ⟨g, 0, none⟩ (.int .i64 k)).setCell ⟨g, 1, none⟩ (.int .i64 n)).setCell ⟨g, 2, none⟩ (.string s)).setCell ⟨g, 3, none⟩ (.slice A la a)).setCell ⟨g, 4, none⟩ (.slice C lc c)) := by
  have hx := (hs.box g rfl).2
  have hz := (hs.box g rfl).1
  refine ⟨below_five_m hz hs.below _ _ _ _ _, rfl, g, k, n, s, A, la, a, C, lc, c, rfl, ((((hx.put 0 _).put 1 _).put 2 _).put 3 _).put 4 _, ?_⟩
  refine hl.move fun b hb => ⟨by simp [World.setCell]; exact hb.2, ?_⟩
  have hne : b ≠ g := hb.1 g rfl
  rw [Below.heap_setCell _ _ _ _ hne, Below.heap_setCell _ _ _ _ hne, Below.heap_setCell _ _ _ _ hne, Below.heap_setCell _ _ _ _ hne, Below.heap_setCell _ _ _ _ hne]
theorem valid_str {s : ByteArray} (h : okS s = true) (hs : s.size ≤ 4096) : valid (strV s) = true := by
  rw [valid_iff]
  unfold strV
  refine ⟨?_, ?_, ?_, ?_⟩
  · rw [good, goodL]
    have h1 : fits 4 0 s ([] : List ByteArray).length ([] : List V).length = true := by
      unfold fits
      simp
    rw [h1]
    simp [h, hs, keysOk]
  · rw [dep]; simp
  · rw [V.sz, V.szL]; decide
  · rw [vbyt, vbytL]; simp [kb]; omega
theorem str_ok {s : ByteArray} (h : okS s = true) (hs : s.size ≤ 4096) : strR s = strV s ∧ strE s = 0 := by
  rw [(strR_ok h).1, (strR_ok h).2, finV_ok (valid_str h hs), finE_ok (valid_str h hs)]
  exact ⟨rfl, rfl⟩
/-- A string that a call hands back. -/
theorem str_open {f : FuncId} {args : Array Value} {w : World} {s : ByteArray} {err : Int} (h : Calls Tryz.prog f args w (RetPost (strV s) err w)) :
    Calls Tryz.prog f args w fun e w' => ∃ (A : Option Addr) (a : Nat) (B : Option Addr) (b : Nat), e = .returned (.tuple #[.agg #[.int .i64 4, .int .i64 0, .string s, .slice A 0 a, .slice B 0 b], .int .i64 err]) ∧ Below w.heap.size w w' ∧
      Lies w' (· < w'.heap.size) (strV s) [.int .i64 4, .int .i64 0, .string s, .slice A 0 a, .slice B 0 b] := by
  refine h.mono fun e w' hp => ?_
  obtain ⟨hb, ds, rfl, hl⟩ := hp
  have hl2 := hl
  unfold strV at hl2
  obtain ⟨A, a, B, b, xs, rfl, _⟩ := lies_open hl2
  exact ⟨A, a, B, b, rfl, hb, hl.move fun b hb => ⟨hb.2, rfl⟩⟩
/-- The product of a string and a number, both ways round. -/
theorem bin_sn (s : ByteArray) (n : Int) (hn : n ≤ 9223372036854775807) (h : okS s = true) (hs : s.size ≤ 4096) (cs ds : List Value) (w : World) (hl : Lies w (· < w.heap.size) (strV s) cs) (hd : Lies w (· < w.heap.size) (numV n) ds) :
    Calls Tryz.prog 15 #[.string ⟨#[42]⟩, .agg cs.toArray, .agg ds.toArray] w (RetPost (repR s n).1 (repR s n).2 w) :=
  bin_mulm (strV s) (numV n) cs ds w hl hd (valid_str h hs) (valid_num _) _ _ fun W hW => by
    have h1 := hl
    have h2 := hd
    unfold numV at h2
    unfold strV at h1
    obtain ⟨A, a, B, b, xs, rfl, _⟩ := lies_open h1
    obtain ⟨A2, a2, B2, b2, xs2, rfl, _⟩ := lies_open h2
    exact mul_sn 0 n s ⟨#[]⟩ A B A2 B2 _ a _ b _ a2 _ b2 W _ _ (fun W' _ => repeat_any s n hn W' hs)
theorem bin_ns (s : ByteArray) (n : Int) (hn : n ≤ 9223372036854775807) (h : okS s = true) (hs : s.size ≤ 4096) (cs ds : List Value) (w : World) (hl : Lies w (· < w.heap.size) (strV s) cs) (hd : Lies w (· < w.heap.size) (numV n) ds) :
    Calls Tryz.prog 15 #[.string ⟨#[42]⟩, .agg ds.toArray, .agg cs.toArray] w (RetPost (repR s n).1 (repR s n).2 w) :=
  bin_mulm (numV n) (strV s) ds cs w hd hl (valid_num _) (valid_str h hs) _ _ fun W hW => by
    have h1 := hl
    have h2 := hd
    unfold numV at h2
    unfold strV at h1
    obtain ⟨A, a, B, b, xs, rfl, _⟩ := lies_open h1
    obtain ⟨A2, a2, B2, b2, xs2, rfl, _⟩ := lies_open h2
    exact mul_ns n 0 ⟨#[]⟩ s A2 B2 A B _ a2 _ b2 _ a _ b W _ _ (fun W' _ => repeat_any s n hn W' hs)
theorem prefix_any (s t : ByteArray) (w : World) (hs : s.size ≤ 1048576) (ht : t.size ≤ 1048576) (hp : s.size ≤ t.size ∧ t.extract 0 s.size = s) : Calls Tryz.prog 66 #[.string s, .string t] w fun e w' => e = .returned (.bool true) ∧ w' = w := by
  obtain ⟨h1, h2⟩ := hp
  have f1 : (s.toList == s.toList) = true := by simp
  have f2 : (s.size : Int) ≤ (t.size : Int) := by omega
  go_enter Tryz.func66, Tryz.ntmps66
  go_wp2_with fail
  go_ret
  exact ⟨rfl, rfl⟩
theorem rep_prefix (s : ByteArray) (n : Nat) (hn : 1 ≤ n) : s.size ≤ (rep s n).size ∧ (rep s n).extract 0 s.size = s := by
  obtain ⟨m, rfl⟩ : ∃ m, n = m + 1 := ⟨n - 1, by omega⟩
  rw [rep_succ]
  refine ⟨by simp, ?_⟩
  apply bytes_ext
  rw [Lib.extract_from_zero, app_data, Lib.size_eq, List.take_left]
theorem repR_low (s : ByteArray) (n : Int) (h : n < 1) : repR s n = (vnull, 0) := by unfold repR; rw [if_pos h]
theorem repR_big {s : ByteArray} {n : Int} (h : ¬ n < 1) (hb : 4096 < (s.size : Int) * n) : repR s n = (vnull, 2) := by
  unfold repR
  have h0 : s.size ≠ 0 := fun e => by rw [e] at hb; simp at hb
  rw [if_neg h, if_neg h0, if_pos]
  show 4096 / (s.size : Int) < n
  refine Int.ediv_lt_of_lt_mul (by omega) ?_
  rw [Int.mul_comm]
  exact hb
theorem repR_mid {s : ByteArray} {n : Int} (h : ¬ n < 1) (hb : (s.size : Int) * n ≤ 4096) (ho : okS s = true) : repR s n = (strV (rep s n.toNat), 0) := by
  unfold repR
  rw [if_neg h]
  obtain ⟨m, rfl⟩ : ∃ m : Nat, n = m := ⟨n.toNat, by omega⟩
  have hz : (rep s (m : Int).toNat).size ≤ 4096 := by
    rw [rep_size, Int.toNat_natCast]
    have : ((s.size * m : Nat) : Int) ≤ 4096 := by rw [Int.natCast_mul]; exact hb
    omega
  have hk := str_ok (rep_ok ho (m : Int).toNat) hz
  by_cases h0 : s.size = 0
  · rw [if_pos h0]
    have e1 : rep s (m : Int).toNat = ⟨#[]⟩ := size0 (by rw [rep_size, h0, Nat.zero_mul])
    rw [e1] at hk ⊢
    rw [hk.1, hk.2]
  · rw [if_neg h0, if_neg, hk.1, hk.2]
    show ¬ (4096 / (s.size : Int) < (m : Int))
    have : (m : Int) ≤ 4096 / (s.size : Int) := by
      rw [Int.le_ediv_iff_mul_le (by omega), Int.mul_comm]
      exact hb
    omega
end Go.Proofs.YtjafmdngbphacaaGreatDoor
namespace Go.Proofs.YtjafmdngbphacaaGreatDoor
open Go.RowKit Go.Shelf Go.Sort
structure MgSt (g n cap : Nat) (ks : List ByteArray) (es : List V) (ks2 : List ByteArray) (es2 : List V) (cs ds : Array Value) (w wr : World) (i : Nat) (l : List V) (ys : List Fv) : Prop where
  plain : MgP ks es ks2 es2 i l
  own : wr.ownsRow w.heap.size 25 5 (.slice (some ⟨g, 0, none⟩) n cap) n (ys.flatMap Fv.cs)
  ylen : ys.length = n
  llen : l.length = n
  lies : ∀ (j : Nat) (p : V) (x : Fv), l[j]? = some p → ys[j]? = some x → Lies wr (fun b => b < wr.heap.size ∧ b ≠ g) p x.cs
  b3 : B3 w cs ds wr
  far : w.heap.size + 3 ≤ g
namespace MgSt
variable {g n cap : Nat} {ks ks2 : List ByteArray} {es es2 : List V} {cs ds : Array Value} {w wr w2 : World} {i : Nat} {l : List V} {ys : List Fv}
theorem glt (h : MgSt g n cap ks es ks2 es2 cs ds w wr i l ys) : g < wr.heap.size := (h.own.lt g rfl).2
theorem next (h : MgSt g n cap ks es ks2 es2 cs ds w wr i l ys) (hb : Below wr.heap.size wr w2) : MgSt g n cap ks es ks2 es2 cs ds w w2 i l ys :=
  ⟨h.plain, own_belowV h.own hb, h.ylen, h.llen, fun j p x hp hx => (h.lies j p x hp hx).move fun b hlt => ⟨⟨Nat.lt_of_lt_of_le hlt.1 hb.size, hlt.2⟩, hb.block b hlt.1⟩, h.b3.next hb, h.far⟩
theorem five (h : MgSt g n cap ks es ks2 es2 cs ds w wr i l ys) {j : Nat} {x : Fv} (hx : ys[j]? = some x) : FiveAt wr g (j * 5) x := by
  obtain ⟨b, o, e, _, hf⟩ := row_own h.own j x hx
  injection e with e
  injection e with e1 e2
  subst e1 e2
  rw [Nat.zero_add] at hf
  exact hf
theorem free (h : MgSt g n cap ks es ks2 es2 cs ds w wr i l ys) (k : Nat) : wr.frozen? ⟨g, k, none⟩ = false := by
  rcases h.own.2 with ⟨h0, _⟩ | ⟨g', cap', cur, hv, hbg, hgg, _⟩
  · cases h0
  · cases hv
    exact (show Box wr g _ cur from hgg).free k
theorem skip (h : MgSt g n cap ks es ks2 es2 cs ds w wr i l ys) {k : ByteArray} {e : V} (hk : ks2[i]? = some k) (he : es2[i]? = some e) (hh : hit ks es k e = none) : MgSt g n cap ks es ks2 es2 cs ds w wr (i + 1) l ys :=
  ⟨h.plain.skip hk he hh, h.own, h.ylen, h.llen, h.lies, h.b3, h.far⟩
theorem put (h : MgSt g n cap ks es ks2 es2 cs ds w wr i l ys) {k : ByteArray} {e x : V} (hk : ks2[i]? = some k) (he : es2[i]? = some e) (hh : hit ks es k e = some x) (h0 : (mrg x e).2 = 0) (r : Fv) (hr : Lies wr (fun b => b < wr.heap.size ∧ b ≠ g) (mrg x e).1 r.cs) :
    MgSt g n cap ks es ks2 es2 cs ds w (((((wr.setCell ⟨g, i * 5, none⟩ (.int .i64 r.k)).setCell ⟨g, i * 5 + 1, none⟩ (.int .i64 r.n)).setCell ⟨g, i * 5 + 2, none⟩ (.string r.s)).setCell ⟨g, i * 5 + 3, none⟩ (.slice r.A r.la r.a)).setCell ⟨g, i * 5 + 4, none⟩ (.slice r.C r.lc r.c)) (i + 1) (l.set i (mrg x e).1) (ys.set i r) := by
  have hl := h.llen
  have hy := h.ylen
  have hf := h.far
  have hi : i < n := by
    have := (List.getElem?_eq_some_iff.1 (h.plain.elem he)).1
    omega
  have hg : w.heap.size ≤ g := by omega
  have hsz : (((((wr.setCell ⟨g, i * 5, none⟩ (.int .i64 r.k)).setCell ⟨g, i * 5 + 1, none⟩ (.int .i64 r.n)).setCell ⟨g, i * 5 + 2, none⟩ (.string r.s)).setCell ⟨g, i * 5 + 3, none⟩ (.slice r.A r.la r.a)).setCell ⟨g, i * 5 + 4, none⟩ (.slice r.C r.lc r.c)).heap.size = wr.heap.size := by simp [World.setCell]
  have hmv : ∀ b, b < wr.heap.size ∧ b ≠ g → (b < (((((wr.setCell ⟨g, i * 5, none⟩ (.int .i64 r.k)).setCell ⟨g, i * 5 + 1, none⟩ (.int .i64 r.n)).setCell ⟨g, i * 5 + 2, none⟩ (.string r.s)).setCell ⟨g, i * 5 + 3, none⟩ (.slice r.A r.la r.a)).setCell ⟨g, i * 5 + 4, none⟩ (.slice r.C r.lc r.c)).heap.size ∧ b ≠ g) ∧ (((((wr.setCell ⟨g, i * 5, none⟩ (.int .i64 r.k)).setCell ⟨g, i * 5 + 1, none⟩ (.int .i64 r.n)).setCell ⟨g, i * 5 + 2, none⟩ (.string r.s)).setCell ⟨g, i * 5 + 3, none⟩ (.slice r.A r.la r.a)).setCell ⟨g, i * 5 + 4, none⟩ (.slice r.C r.lc r.c)).heap[b]? = wr.heap[b]? := fun b hb => by
    refine ⟨⟨by rw [hsz]; exact hb.1, hb.2⟩, ?_⟩
    have hne := hb.2
    rw [Below.heap_setCell _ _ _ _ (by simpa using hne), Below.heap_setCell _ _ _ _ (by simpa using hne), Below.heap_setCell _ _ _ _ (by simpa using hne), Below.heap_setCell _ _ _ _ (by simpa using hne), Below.heap_setCell _ _ _ _ (by simpa using hne)]
  have fx : ∀ {t : TypeId} {q : Nat} {vs : Array Value}, Box wr q t vs → q ≠ g → Box (((((wr.setCell ⟨g, i * 5, none⟩ (.int .i64 r.k)).setCell ⟨g, i * 5 + 1, none⟩ (.int .i64 r.n)).setCell ⟨g, i * 5 + 2, none⟩ (.string r.s)).setCell ⟨g, i * 5 + 3, none⟩ (.slice r.A r.la r.a)).setCell ⟨g, i * 5 + 4, none⟩ (.slice r.C r.lc r.c)) q t vs := fun hx hne => ((((hx.far hne _).far hne _).far hne _).far hne _).far hne _
  refine ⟨h.plain.put hk he hh h0, ?_, by rw [List.length_set]; exact hy, by rw [List.length_set]; exact hl, fun j p x' hp hx' => ?_, ⟨((((h.b3.below.setCell hg _).setCell hg _).setCell hg _).setCell hg _).setCell hg _, fx h.b3.x (by omega), fx h.b3.y (by omega), fx h.b3.r (by omega)⟩, hf⟩
  · rw [← flat_set r ys i (by omega)]
    exact own_set (own_set (own_set (own_set (own_set h.own (i := i * 5) (by omega) _) (i := i * 5 + 1) (by omega) _) (i := i * 5 + 2) (by omega) _) (i := i * 5 + 3) (by omega) _) (i := i * 5 + 4) (by omega) _
  · by_cases hj : j = i
    · subst hj
      rw [List.getElem?_set_self (by omega)] at hp hx'
      injection hp with hp
      injection hx' with hx'
      subst hp hx'
      exact hr.move hmv
    · rw [List.getElem?_set_ne (fun e => hj e.symm)] at hp hx'
      exact (h.lies j p x' hp hx').move hmv
end MgSt
end Go.Proofs.YtjafmdngbphacaaGreatDoor
namespace Go.Proofs.YtjafmdngbphacaaGreatDoor
open Go.RowKit Go.Shelf Go.Sort
def MergeOk (u : V) : Prop := ∀ (v : V) (cs ds : List Value) (w : World), Lies w (· < w.heap.size) v cs → Lies w (· < w.heap.size) u ds → valid v = true → valid u = true → kd v = 6 → kd u = 6 →
  Calls Tryz.prog 85 #[.agg cs.toArray, .agg ds.toArray] w (RetPost (mrg v u).1 (mrg v u).2 w)
/-- The call of union behind the loop. -/
theorem mg_union {n n2 : Int} {s s2 : ByteArray} {ks ks2 : List ByteArray} {es es2 : List V} (hv : valid (.mk 6 n s ks es) = true) (hu : valid (.mk 6 n2 s2 ks2 es2) = true) {A A2 B C : Option Addr} {a a2 b cap : Nat} {xs : List Value} {w wr : World}
    (hA : Rs w (· < w.heap.size) A (kv ks)) (hA0 : A = none → a = 0) (hA2 : Rs w (· < w.heap.size) A2 (kv ks2)) (hA20 : A2 = none → a2 = 0) (hB : Rs w (· < w.heap.size) B xs) (hB0 : B = none → b = 0) (hL : LiesL w (· < w.heap.size) es xs)
    (hb : Below w.heap.size w wr) {l : List V} {zs : List Fv} (hown : wr.ownsRow w.heap.size 25 5 (.slice C es2.length cap) es2.length (zs.flatMap Fv.cs)) (hl : l.length = es2.length) (hok : l.all valid = true) (hLl : LiesL wr (· < wr.heap.size) l (zs.flatMap Fv.cs)) (hres : mrgL ks es ks2 es2 = (l, 0)) :
    Calls Tryz.prog 128 #[.agg #[.int .i64 6, .int .i64 n, .string s, .slice A ks.length a, .slice B es.length b], .agg #[.int .i64 6, .int .i64 0, .string ⟨#[]⟩, .slice A2 ks2.length a2, .slice C es2.length cap]] wr (RetPost (mrg (.mk 6 n s ks es) (.mk 6 n2 s2 ks2 es2)).1 (mrg (.mk 6 n s ks es) (.mk 6 n2 s2 ks2 es2)).2 wr) := by
  have hlen : ks.length = es.length := (valid_keys hv).2.1 rfl
  have hlen2 : ks2.length = es2.length := (valid_keys hu).2.1 rfl
  have hz1 := (valid_keys hv).2.2
  have hz2 := (valid_keys hu).2.2
  have hel := valid_elems hv
  have hko := valid_keysok hv
  have hko2 := valid_keysok hu
  obtain ⟨C', c', he, hcn, hcl, hcm, hrs⟩ := own_open hown
  cases he
  rw [mrg_eq, hres, if_pos rfl]
  refine union_over _ _ n 0 s ⟨#[]⟩ A B A2 C _ a _ b _ a2 _ cap wr (ks.length + ks2.length) (es.length + es2.length) (kv ks ++ kv ks2) (xs ++ zs.flatMap Fv.cs) _ _ (fun W g hW' q0 q1 => ?_) (fun W g hW' q0 q1 => ?_) (fun W D d E e hW' ho1 ho2 => ?_)
  · have hW := chain hb hW'
    exact concatS_any g A A2 ks.length ks2.length a a2 (kv ks) (kv ks2) W q0 q1 (hA.move fun x hx => ⟨Nat.lt_of_lt_of_le hx hW.size, hW.block x hx⟩) (hA2.move fun x hx => ⟨Nat.lt_of_lt_of_le hx hW.size, hW.block x hx⟩) hA0 hA20 (by rw [kv_length]; omega) (by rw [kv_length]; omega) (by omega) (by omega) (kv_one _) (kv_one _)
  · have hW := chain hb hW'
    exact concatV_any g B C es.length es2.length b cap xs (zs.flatMap Fv.cs) W q0 q1 ((Row.mk hB hL).below hW).rs (hrs.move fun x hx => ⟨Nat.lt_of_lt_of_le hx.2.1 hW'.size, hW'.block x hx.2.1⟩) hB0 hcn hL.len (by rw [hLl.len, hl]) (by omega) (by omega) (liesL_one hL) (liesL_one hLl)
  · have hW := chain hb hW'
    obtain ⟨D', d', he, -, -, -, hr1⟩ := own_open ho1
    cases he
    obtain ⟨E', e', he, -, -, -, hr2⟩ := own_open ho2
    cases he
    have := obj_rows (ks ++ ks2) (es ++ l) (by simp; omega) (by simp; omega) (by rw [List.all_append, hko.1, hko2.1]; rfl) (fun x hx => by rcases List.mem_append.1 hx with q | q; (· exact hko.2 x q); exact hko2.2 x q) (by rw [List.all_append, hel, hok]; rfl) D E d e (xs ++ zs.flatMap Fv.cs) W
      (by rw [kv_append]; exact hr1.move fun x hx => ⟨hx.2.1, rfl⟩) ⟨hr2.move fun x hx => ⟨hx.2.1, rfl⟩, ((Row.mk hB hL).below hW).lies.append (hLl.move fun x hx => ⟨Nat.lt_of_lt_of_le hx hW'.size, hW'.block x hx⟩)⟩
    have hz : putL [] ((ks ++ ks2).zip (es ++ l)) = putL (ks.zip es) (ks2.zip l) := by
      rw [List.zip_append hlen]
      unfold putL
      rw [List.foldl_append]
      have := putL_nil_asc (qs := ks.zip es) (prs_asc hv)
      unfold putL at this
      rw [this]
    rw [hz, List.length_append, List.length_append, hl] at this
    exact this
end Go.Proofs.YtjafmdngbphacaaGreatDoor
