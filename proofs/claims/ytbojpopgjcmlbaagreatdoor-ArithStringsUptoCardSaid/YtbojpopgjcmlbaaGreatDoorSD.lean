/- keep.Mod: the remainder that is not negative. Binary at the product and the difference, over the callee. ArithStrings. The laws sanity check (what the fitted text leaves out). -/
import Derived.Test.YtbojpopgjcmlbaaGreatDoorRows
import Derived.WalkKit
import Derived.Lib.Hide
import Derived.WalkSpells
import Derived.WalkLawsBesides
import Derived.Test.YtbojpopgjcmlbaaGreatDoorAr3
import Derived.Test.YtbojpopgjcmlbaaGreatDoorSA
import Derived.Test.YtbojpopgjcmlbaaGreatDoorSB
import Derived.Test.YtbojpopgjcmlbaaGreatDoorSC
import Derived.Deep.RegionHeld3
set_option linter.unusedVariables false
set_option linter.unusedSimpArgs false
namespace Go.Proofs.YtbojpopgjcmlbaaGreatDoor
open Go.RowKit
theorem retm {k : IntKind} {a b : Int} (h : a = b) : Ending.returned (.int k a) = .returned (.int k b) := by rw [h]
theorem mod_fix' (x n : Int) (hn : 0 < n) : (if x.tmod n < 0 then x.tmod n + n else x.tmod n) = x % n := by
  have h1 := Int.tmod_add_mul_tdiv x n
  have h2 := Int.lt_tmod_of_pos x hn
  have h3 := Int.tmod_lt_of_pos x hn
  split
  · rename_i h
    have : (x.tmod n + n) % n = x % n := by
      conv => rhs; rw [← h1]
      simp
    rw [← this, Int.emod_eq_of_lt (by omega) (by omega)]
  · rename_i h
    have : (x.tmod n) % n = x % n := by
      conv => rhs; rw [← h1]
      simp
    rw [← this, Int.emod_eq_of_lt (by omega) (by omega)]
set_option maxHeartbeats 400000 in
theorem kmod_any (x n : Int) (hn : 0 < n) (hn2 : n ≤ 4611686018427387903) (w : World) :
    Calls Tryz.prog 27 #[.int .i64 x, .int .i64 n] w fun e w' => e = .returned (.int .i64 (x % n)) ∧ w = w' := by
  have hf := Lib.hid (mod_fix' x n hn)
  have hb : Hid (-n < x.tmod n ∧ x.tmod n < n) := Lib.hid (by
    have h1 := Int.lt_tmod_of_pos x hn
    have h2 := Int.tmod_lt_of_pos x hn
    exact ⟨h1, h2⟩)
  have hne : (n == 0) = false := by simp; omega
  have hne1 : n ≠ 0 := by omega
  obtain ⟨hb1, hb2⟩ := hb.out
  by_cases hs : x.tmod n < 0
  · have he : Hid (x.tmod n + n = x % n) := Lib.hid (by rw [← hf.out, if_pos hs])
    go_enter Tryz.func27, Tryz.ntmps27
    go_wp2
    go_ret
    exact ⟨retm he.out, rfl⟩
  · have he : Hid (x.tmod n = x % n) := Lib.hid (by rw [← hf.out, if_neg hs])
    go_enter Tryz.func27, Tryz.ntmps27
    go_wp2
    go_ret
    exact ⟨retm he.out, rfl⟩
/-- Mod as a number of its own. -/
theorem kmod_nat (x : Int) (n : Nat) (hn : 0 < n) (hn2 : n ≤ 1000000) : ∃ d : Nat, d < n ∧ ∀ w, Calls Tryz.prog 27 #[.int .i64 x, .int .i64 (n : Int)] w fun e w' => e = .returned (.int .i64 (d : Int)) ∧ w = w' := by
  have h1 := Int.emod_nonneg x (b := (n : Int)) (by omega)
  have h2 := Int.emod_lt_of_pos x (b := (n : Int)) (by omega)
  refine ⟨(x % n).toNat, by omega, fun w => ?_⟩
  rw [Int.toNat_of_nonneg h1]
  exact kmod_any x n (by omega) (by omega) w
end Go.Proofs.YtbojpopgjcmlbaaGreatDoor
namespace Go.Proofs.YtbojpopgjcmlbaaGreatDoor
open Go.RowKit Go.Sort
theorem below_five_m {w0 w : World} {B : Nat} (hB : w0.heap.size ≤ B) (h : Below w0.heap.size w0 w) (a b c d e : Value) :
    Below w0.heap.size w0 (((((w.setCell ⟨B, 0, none⟩ a).setCell ⟨B, 1, none⟩ b).setCell ⟨B, 2, none⟩ c).setCell ⟨B, 3, none⟩ d).setCell ⟨B, 4, none⟩ e) :=
  (((((h.setCell (by simpa using hB) _).setCell (by simpa using hB) _).setCell (by simpa using hB) _).setCell (by simpa using hB) _).setCell (by simpa using hB) _)
set_option maxHeartbeats 1000000 in
set_option maxRecDepth 100000 in
theorem bin_mulm (v u : V) (cs ds : List Value) (w : World) (h : Lies w (· < w.heap.size) v cs) (h' : Lies w (· < w.heap.size) u ds) (hv : valid v = true) (hu : valid u = true) (r : V) (er : Int)
    (hc : ∀ W, Below w.heap.size w W → Calls Tryz.prog 45 #[.agg cs.toArray, .agg ds.toArray] W (RetPost r er W)) :
    Calls Tryz.prog 15 #[.string ⟨#[42]⟩, .agg cs.toArray, .agg ds.toArray] w (RetPost r er w) := by
  have HV := Lib.hid (fun W (hW : Below w.heap.size w W) => valid_any v cs W (below_lies hW h))
  have HU := Lib.hid (fun W (hW : Below w.heap.size w W) => valid_any u ds W (below_lies hW h'))
  rw [hv] at HV
  rw [hu] at HU
  obtain ⟨k, n, s, ks, es⟩ := v
  obtain ⟨A, a, B, b, xs, rfl, _⟩ := lies_open h
  obtain ⟨k2, n2, s2, ks2, es2⟩ := u
  obtain ⟨A2, a2, B2, b2, xs2, rfl, _⟩ := lies_open h'
  have HC := Lib.hid (fun W hW => ret_open (hc W hW))
  clear h h' hv hu hc
  generalize ks.length = l1 at *
  generalize es.length = l2 at *
  generalize ks2.length = l3 at *
  generalize es2.length = l4 at *
  show Calls _ _ #[_, .agg #[.int .i64 k, .int .i64 n, .string s, .slice A l1 a, .slice B l2 b], .agg #[.int .i64 k2, .int .i64 n2, .string s2, .slice A2 l3 a2, .slice B2 l4 b2]] w _
  have H0 := Lib.hid (B3.start w #[.int .i64 k, .int .i64 n, .string s, .slice A l1 a, .slice B l2 b] #[.int .i64 k2, .int .i64 n2, .string s2, .slice A2 l3 a2, .slice B2 l4 b2])
  go_enter Tryz.func15, Tryz.ntmps15
  go_wp2_with fail
  refine (HV.out _ H0.out.below).mono ?_
  rintro e1 w1 ⟨rfl, hb1⟩
  have H1 := Lib.hid (H0.out.next hb1)
  obtain ⟨y0, y1, y2, y3, y4⟩ := box5 H1.out.y
  clear hb1 H0
  go_wp2_with fail
  refine (HU.out _ H1.out.below).mono ?_
  rintro e2 w2 ⟨rfl, hb2⟩
  have H2 := Lib.hid (H1.out.next hb2)
  clear hb2 H1 y0 y1 y2 y3 y4
  obtain ⟨x0, x1, x2, x3, x4⟩ := box5 H2.out.x
  obtain ⟨y0, y1, y2, y3, y4⟩ := box5 H2.out.y
  go_wp2_with fail
  refine (HC.out _ H2.out.below).mono ?_
  rintro e3 w3 ⟨rk, rn, rs, rks, res, RA, ra, RC, rc, hrv, rfl, hb3, hl3⟩
  have H3 := Lib.hid (H2.out.next hb3)
  have HL := Lib.hid hl3
  have hs2 := H2.out.r.lt
  have hs3 := H2.out.below.size
  clear hb3 x0 x1 x2 x3 x4 y0 y1 y2 y3 y4 hl3 hrv
  obtain ⟨t0, t1, t2, t3, t4⟩ := box5 H3.out.r
  have z0 := H3.out.r.free 0
  have z1 := H3.out.r.free 1
  have z2 := H3.out.r.free 2
  have z3 := H3.out.r.free 3
  have z4 := H3.out.r.free 4
  go_wp2_with fail
  refine bodyPost_ret (v := .tuple #[.agg #[.int .i64 rk, .int .i64 rn, .string rs, .slice RA rks.length ra, .slice RC res.length rc], .int .i64 er]) (by simp [results, Tryz.results15, go_sem, t0, t1, t2, t3, t4]) rfl ?_
  exact ret_put H3.out.below (by omega) H3.out.r.lt (HL.out.move fun b hb => ⟨⟨by omega, hb.2, by omega⟩, rfl⟩)
set_option maxHeartbeats 1000000 in
set_option maxRecDepth 100000 in
theorem bin_subm (v u : V) (cs ds : List Value) (w : World) (h : Lies w (· < w.heap.size) v cs) (h' : Lies w (· < w.heap.size) u ds) (hv : valid v = true) (hu : valid u = true) (r : V) (er : Int)
    (hc : ∀ W, Below w.heap.size w W → Calls Tryz.prog 44 #[.agg cs.toArray, .agg ds.toArray] W (RetPost r er W)) :
    Calls Tryz.prog 15 #[.string ⟨#[45]⟩, .agg cs.toArray, .agg ds.toArray] w (RetPost r er w) := by
  have HV := Lib.hid (fun W (hW : Below w.heap.size w W) => valid_any v cs W (below_lies hW h))
  have HU := Lib.hid (fun W (hW : Below w.heap.size w W) => valid_any u ds W (below_lies hW h'))
  rw [hv] at HV
  rw [hu] at HU
  obtain ⟨k, n, s, ks, es⟩ := v
  obtain ⟨A, a, B, b, xs, rfl, _⟩ := lies_open h
  obtain ⟨k2, n2, s2, ks2, es2⟩ := u
  obtain ⟨A2, a2, B2, b2, xs2, rfl, _⟩ := lies_open h'
  have HC := Lib.hid (fun W hW => ret_open (hc W hW))
  clear h h' hv hu hc
  generalize ks.length = l1 at *
  generalize es.length = l2 at *
  generalize ks2.length = l3 at *
  generalize es2.length = l4 at *
  show Calls _ _ #[_, .agg #[.int .i64 k, .int .i64 n, .string s, .slice A l1 a, .slice B l2 b], .agg #[.int .i64 k2, .int .i64 n2, .string s2, .slice A2 l3 a2, .slice B2 l4 b2]] w _
  have H0 := Lib.hid (B3.start w #[.int .i64 k, .int .i64 n, .string s, .slice A l1 a, .slice B l2 b] #[.int .i64 k2, .int .i64 n2, .string s2, .slice A2 l3 a2, .slice B2 l4 b2])
  go_enter Tryz.func15, Tryz.ntmps15
  go_wp2_with fail
  refine (HV.out _ H0.out.below).mono ?_
  rintro e1 w1 ⟨rfl, hb1⟩
  have H1 := Lib.hid (H0.out.next hb1)
  obtain ⟨y0, y1, y2, y3, y4⟩ := box5 H1.out.y
  clear hb1 H0
  go_wp2_with fail
  refine (HU.out _ H1.out.below).mono ?_
  rintro e2 w2 ⟨rfl, hb2⟩
  have H2 := Lib.hid (H1.out.next hb2)
  clear hb2 H1 y0 y1 y2 y3 y4
  obtain ⟨x0, x1, x2, x3, x4⟩ := box5 H2.out.x
  obtain ⟨y0, y1, y2, y3, y4⟩ := box5 H2.out.y
  go_wp2_with fail
  refine (HC.out _ H2.out.below).mono ?_
  rintro e3 w3 ⟨rk, rn, rs, rks, res, RA, ra, RC, rc, hrv, rfl, hb3, hl3⟩
  have H3 := Lib.hid (H2.out.next hb3)
  have HL := Lib.hid hl3
  have hs2 := H2.out.r.lt
  have hs3 := H2.out.below.size
  clear hb3 x0 x1 x2 x3 x4 y0 y1 y2 y3 y4 hl3 hrv
  obtain ⟨t0, t1, t2, t3, t4⟩ := box5 H3.out.r
  have z0 := H3.out.r.free 0
  have z1 := H3.out.r.free 1
  have z2 := H3.out.r.free 2
  have z3 := H3.out.r.free 3
  have z4 := H3.out.r.free 4
  go_wp2_with fail
  refine bodyPost_ret (v := .tuple #[.agg #[.int .i64 rk, .int .i64 rn, .string rs, .slice RA rks.length ra, .slice RC res.length rc], .int .i64 er]) (by simp [results, Tryz.results15, go_sem, t0, t1, t2, t3, t4]) rfl ?_
  exact ret_put H3.out.below (by omega) H3.out.r.lt (HL.out.move fun b hb => ⟨⟨by omega, hb.2, by omega⟩, rfl⟩)
end Go.Proofs.YtbojpopgjcmlbaaGreatDoor
namespace Go.Proofs.YtbojpopgjcmlbaaGreatDoor
open Go.RowKit Go.Sort
theorem below_dr {w0 W : World} (h : Below w0.heap.size w0 W) : Below w0.heap.size w0 W.drew := h.drew
/-- What stands in the middle of a region that lays one value's box: nothing old has turned; the box, if it is laid, is zero. -/
structure Sb (w0 W : World) (z : Option Nat) : Prop where
  below : Below w0.heap.size w0 W
  box : ∀ g, z = some g → w0.heap.size ≤ g ∧ Box W g 26 #[.int .i64 0, .int .i64 0, .string ⟨#[]⟩, .slice none 0 0, .slice none 0 0]
theorem Sb.start (w : World) : Sb w w none := ⟨Below.refl _ _, fun g h => by cases h⟩
theorem Sb.drew {w0 W : World} {z : Option Nat} (h : Sb w0 W z) : Sb w0 W.drew z := ⟨below_dr h.below, fun g e => h.box g e⟩
theorem Sb.zbox {w0 W : World} (h : Sb w0 W none) : Sb w0 (W.alloc (.cells #[.int .i64 0, .int .i64 0, .string ⟨#[]⟩, .slice none 0 0, .slice none 0 0] 26)) (some W.heap.size) :=
  ⟨chain h.below (below1 _ _), fun g e => by injection e with e; subst e; exact ⟨h.below.size, Box.laid _ _ _⟩⟩
theorem Sb.call {w0 W W' : World} {z : Option Nat} (hb : Below W.heap.size W W') (h : Sb w0 W z) : Sb w0 W' z :=
  ⟨chain h.below hb, fun g e => ⟨(h.box g e).1, (h.box g e).2.below hb (h.box g e).2.lt⟩⟩
/-- A value that a call has handed back lies in a box of its own. -/
def GotB (w0 : World) (r : V) (er : Int) (t u : Value) (wx : World) : Prop :=
  Below w0.heap.size w0 wx ∧ u = .int .i64 er ∧ ∃ (g : Nat) (k n : Int) (s : ByteArray) (A : Option Addr) (la a : Nat) (C : Option Addr) (lc c : Nat), t = .pointer (some ⟨g, 0, none⟩) ∧ Vx wx g r [.int .i64 k, .int .i64 n, .string s, .slice A la a, .slice C lc c]
/-- What a call hands back in the middle of such a region. -/
def OpS (w0 : World) (z : Option Nat) (r : V) (er : Int) (e : Ending) (w' : World) : Prop :=
  ∃ (k n : Int) (s : ByteArray) (A : Option Addr) (la a : Nat) (C : Option Addr) (lc c : Nat), e = .returned (.tuple #[.agg #[.int .i64 k, .int .i64 n, .string s, .slice A la a, .slice C lc c], .int .i64 er]) ∧ Sb w0 w' z ∧
    Lies w' (fun b => (∀ g, z = some g → b ≠ g) ∧ b < w'.heap.size) r [.int .i64 k, .int .i64 n, .string s, .slice A la a, .slice C lc c]
theorem opS_of {w0 W : World} {z : Option Nat} {r : V} {er : Int} {f : FuncId} {args : Array Value} (h : Sb w0 W z) (hc : Calls Tryz.prog f args W (RetPost r er W)) : Calls Tryz.prog f args W (OpS w0 z r er) := by
  refine (ret_open hc).mono fun e w' hp => ?_
  obtain ⟨k, n, s, ks, es, A, a, C, c, hv, rfl, hb, hl⟩ := hp
  exact ⟨k, n, s, A, ks.length, a, C, es.length, c, rfl, Sb.call hb h, hl.move fun b hb => ⟨⟨fun g e => by have := (h.box g e).2.lt; omega, hb.2⟩, rfl⟩⟩
theorem gotB_last {w0 w3 : World} {r : V} {er k n : Int} {s : ByteArray} {A C : Option Addr} {la a lc c : Nat} {z : Option Nat} (hs : Sb w0 w3 z)
    (hl : Lies w3 (fun b => (∀ g, z = some g → b ≠ g) ∧ b < w3.heap.size) r [.int .i64 k, .int .i64 n, .string s, .slice A la a, .slice C lc c]) :
    GotB w0 r er (.pointer (some ⟨w3.heap.size, 0, none⟩)) (.int .i64 er) (w3.alloc (.cells #[.int .i64 k, .int .i64 n, .string s, .slice A la a, .slice C lc c] 26)) :=
  ⟨chain hs.below (below1 _ _), rfl, _, k, n, s, A, la, a, C, lc, c, rfl, Vx.new (hl.move fun b hb => ⟨hb.2, rfl⟩)⟩
theorem gotB_fill {w0 w3 : World} {r : V} {er k n : Int} {s : ByteArray} {A C : Option Addr} {la a lc c g : Nat} (hs : Sb w0 w3 (some g))
    (hl : Lies w3 (fun b => (∀ g', some g = some g' → b ≠ g') ∧ b < w3.heap.size) r [.int .i64 k, .int .i64 n, .string s, .slice A la a, .slice C lc c]) :
    GotB w0 r er (.pointer (some ⟨g, 0, none⟩)) (.int .i64 er) (((((w3.setCell ⟨g, 0, none⟩ (.int .i64 k)).setCell ⟨g, 1, none⟩ (.int .i64 n)).setCell ⟨g, 2, none⟩ (.string s)).setCell ⟨g, 3, none⟩ (.slice A la a)).setCell ⟨g, 4, none⟩ (.slice C lc c)) := by
  have hx := (hs.box g rfl).2
  have hz := (hs.box g rfl).1
  refine ⟨below_five_m hz hs.below _ _ _ _ _, rfl, g, k, n, s, A, la, a, C, lc, c, rfl, ((((hx.put 0 _).put 1 _).put 2 _).put 3 _).put 4 _, ?_⟩
  refine hl.move fun b hb => ⟨by simp [World.setCell]; exact hb.2, ?_⟩
  have hne : b ≠ g := hb.1 g rfl
  rw [Below.heap_setCell _ _ _ _ hne, Below.heap_setCell _ _ _ _ hne, Below.heap_setCell _ _ _ _ hne, Below.heap_setCell _ _ _ _ hne, Below.heap_setCell _ _ _ _ hne]
theorem valid_str {s : ByteArray} (h : okS s = true) (hs : s.size ≤ 4096) : valid (strV s) = true := by
  rw [valid_iff]
  unfold strV
  refine ⟨?_, ?_, ?_, ?_⟩
  · rw [good, goodL]
    have h1 : fits 4 0 s ([] : List ByteArray).length ([] : List V).length = true := by
      unfold fits
      simp
    rw [h1]
    simp [h, hs, keysOk]
  · rw [dep]; simp
  · rw [V.sz, V.szL]; decide
  · rw [vbyt, vbytL]; simp [kb]; omega
theorem str_ok {s : ByteArray} (h : okS s = true) (hs : s.size ≤ 4096) : strR s = strV s ∧ strE s = 0 := by
  rw [(strR_ok h).1, (strR_ok h).2, finV_ok (valid_str h hs), finE_ok (valid_str h hs)]
  exact ⟨rfl, rfl⟩
/-- A string that a call hands back. -/
theorem str_open {f : FuncId} {args : Array Value} {w : World} {s : ByteArray} {err : Int} (h : Calls Tryz.prog f args w (RetPost (strV s) err w)) :
    Calls Tryz.prog f args w fun e w' => ∃ (A : Option Addr) (a : Nat) (B : Option Addr) (b : Nat), e = .returned (.tuple #[.agg #[.int .i64 4, .int .i64 0, .string s, .slice A 0 a, .slice B 0 b], .int .i64 err]) ∧ Below w.heap.size w w' ∧
      Lies w' (· < w'.heap.size) (strV s) [.int .i64 4, .int .i64 0, .string s, .slice A 0 a, .slice B 0 b] := by
  refine h.mono fun e w' hp => ?_
  obtain ⟨hb, ds, rfl, hl⟩ := hp
  have hl2 := hl
  unfold strV at hl2
  obtain ⟨A, a, B, b, xs, rfl, _⟩ := lies_open hl2
  exact ⟨A, a, B, b, rfl, hb, hl.move fun b hb => ⟨hb.2, rfl⟩⟩
/-- The product of a string and a number, both ways round. -/
theorem bin_sn (s : ByteArray) (n : Int) (hn : n ≤ 9223372036854775807) (h : okS s = true) (hs : s.size ≤ 4096) (cs ds : List Value) (w : World) (hl : Lies w (· < w.heap.size) (strV s) cs) (hd : Lies w (· < w.heap.size) (numV n) ds) :
    Calls Tryz.prog 15 #[.string ⟨#[42]⟩, .agg cs.toArray, .agg ds.toArray] w (RetPost (repR s n).1 (repR s n).2 w) :=
  bin_mulm (strV s) (numV n) cs ds w hl hd (valid_str h hs) (valid_num _) _ _ fun W hW => by
    have h1 := hl
    have h2 := hd
    unfold numV at h2
    unfold strV at h1
    obtain ⟨A, a, B, b, xs, rfl, _⟩ := lies_open h1
    obtain ⟨A2, a2, B2, b2, xs2, rfl, _⟩ := lies_open h2
    exact mul_sn 0 n s ⟨#[]⟩ A B A2 B2 _ a _ b _ a2 _ b2 W _ _ (fun W' _ => repeat_any s n hn W' hs)
theorem bin_ns (s : ByteArray) (n : Int) (hn : n ≤ 9223372036854775807) (h : okS s = true) (hs : s.size ≤ 4096) (cs ds : List Value) (w : World) (hl : Lies w (· < w.heap.size) (strV s) cs) (hd : Lies w (· < w.heap.size) (numV n) ds) :
    Calls Tryz.prog 15 #[.string ⟨#[42]⟩, .agg ds.toArray, .agg cs.toArray] w (RetPost (repR s n).1 (repR s n).2 w) :=
  bin_mulm (numV n) (strV s) ds cs w hd hl (valid_num _) (valid_str h hs) _ _ fun W hW => by
    have h1 := hl
    have h2 := hd
    unfold numV at h2
    unfold strV at h1
    obtain ⟨A, a, B, b, xs, rfl, _⟩ := lies_open h1
    obtain ⟨A2, a2, B2, b2, xs2, rfl, _⟩ := lies_open h2
    exact mul_ns n 0 ⟨#[]⟩ s A2 B2 A B _ a2 _ b2 _ a _ b W _ _ (fun W' _ => repeat_any s n hn W' hs)
theorem prefix_any (s t : ByteArray) (w : World) (hs : s.size ≤ 1048576) (ht : t.size ≤ 1048576) (hp : s.size ≤ t.size ∧ t.extract 0 s.size = s) : Calls Tryz.prog 31 #[.string s, .string t] w fun e w' => e = .returned (.bool true) ∧ w' = w := by
  obtain ⟨h1, h2⟩ := hp
  have f1 : (s.toList == s.toList) = true := by simp
  have f2 : (s.size : Int) ≤ (t.size : Int) := by omega
  go_enter Tryz.func31, Tryz.ntmps31
  go_wp2_with fail
  go_ret
  exact ⟨rfl, rfl⟩
theorem rep_prefix (s : ByteArray) (n : Nat) (hn : 1 ≤ n) : s.size ≤ (rep s n).size ∧ (rep s n).extract 0 s.size = s := by
  obtain ⟨m, rfl⟩ : ∃ m, n = m + 1 := ⟨n - 1, by omega⟩
  rw [rep_succ]
  refine ⟨by simp, ?_⟩
  apply bytes_ext
  rw [Lib.extract_from_zero, app_data, Lib.size_eq, List.take_left]
theorem repR_low (s : ByteArray) (n : Int) (h : n < 1) : repR s n = (vnull, 0) := by unfold repR; rw [if_pos h]
theorem repR_big {s : ByteArray} {n : Int} (h : ¬ n < 1) (hb : 4096 < (s.size : Int) * n) : repR s n = (vnull, 2) := by
  unfold repR
  have h0 : s.size ≠ 0 := fun e => by rw [e] at hb; simp at hb
  rw [if_neg h, if_neg h0, if_pos]
  show 4096 / (s.size : Int) < n
  refine Int.ediv_lt_of_lt_mul (by omega) ?_
  rw [Int.mul_comm]
  exact hb
theorem repR_mid {s : ByteArray} {n : Int} (h : ¬ n < 1) (hb : (s.size : Int) * n ≤ 4096) (ho : okS s = true) : repR s n = (strV (rep s n.toNat), 0) := by
  unfold repR
  rw [if_neg h]
  obtain ⟨m, rfl⟩ : ∃ m : Nat, n = m := ⟨n.toNat, by omega⟩
  have hz : (rep s (m : Int).toNat).size ≤ 4096 := by
    rw [rep_size, Int.toNat_natCast]
    have : ((s.size * m : Nat) : Int) ≤ 4096 := by rw [Int.natCast_mul]; exact hb
    omega
  have hk := str_ok (rep_ok ho (m : Int).toNat) hz
  by_cases h0 : s.size = 0
  · rw [if_pos h0]
    have e1 : rep s (m : Int).toNat = ⟨#[]⟩ := size0 (by rw [rep_size, h0, Nat.zero_mul])
    rw [e1] at hk ⊢
    rw [hk.1, hk.2]
  · rw [if_neg h0, if_neg, hk.1, hk.2]
    show ¬ (4096 / (s.size : Int) < (m : Int))
    have : (m : Int) ≤ 4096 / (s.size : Int) := by
      rw [Int.le_ediv_iff_mul_le (by omega), Int.mul_comm]
      exact hb
    omega
end Go.Proofs.YtbojpopgjcmlbaaGreatDoor
namespace Go.Proofs.YtbojpopgjcmlbaaGreatDoor
open Go.RowKit Go.Sort
set_option maxHeartbeats 4000000 in
set_option maxRecDepth 100000 in
theorem div_num (n n2 : Int) (s s2 : ByteArray) (A B A2 B2 : Option Addr) (la a lb b la2 a2 lb2 b2 : Nat) (w : World) (h0 : n2 ≠ 0) :
    Calls Tryz.prog 46 #[.agg #[.int .i64 3, .int .i64 n, .string s, .slice A la a, .slice B lb b], .agg #[.int .i64 3, .int .i64 n2, .string s2, .slice A2 la2 a2, .slice B2 lb2 b2]] w (RetPost (numV (wrap64 (Int.tdiv n n2))) 0 w) := by
  have EQ := eq_pair
  have hn := Lib.hid (fun (n : Int) W => num_any n W)
  have H0 := Lib.hid (B3.start w #[.int .i64 3, .int .i64 n, .string s, .slice A la a, .slice B lb b] #[.int .i64 3, .int .i64 n2, .string s2, .slice A2 la2 a2, .slice B2 lb2 b2])
  have hz : ¬ n2 = 0 := h0
  have hzb : (n2 == 0) = false := by simpa using h0
  go_enter Tryz.func46, Tryz.ntmps46
  go_wp2_with fail
  refine (hn.out _ _).mono ?_
  rintro e1 w1 ⟨rfl, hb1⟩
  have H1 := Lib.hid (H0.out.next hb1)
  obtain ⟨t0, t1, t2, t3, t4⟩ := box5 H1.out.r
  have z0 := H1.out.r.free 0
  have z1 := H1.out.r.free 1
  have z2 := H1.out.r.free 2
  have z3 := H1.out.r.free 3
  have z4 := H1.out.r.free 4
  clear hb1
  go_wp2_with fail
  refine bodyPost_ret (v := .tuple #[.agg #[.int .i64 3, .int .i64 (wrap64 (Int.tdiv n n2)), .string ⟨#[]⟩, .slice none 0 0, .slice none 0 0], .int .i64 0]) (by simp [results, Tryz.results46, go_sem, t0, t1, t2, t3, t4]) rfl ?_
  exact ret_put H1.out.below (by omega) H1.out.r.lt (lies_numv _ _ _)
set_option maxHeartbeats 4000000 in
set_option maxRecDepth 100000 in
theorem rem_num (n n2 : Int) (s s2 : ByteArray) (A B A2 B2 : Option Addr) (la a lb b la2 a2 lb2 b2 : Nat) (w : World) (h0 : n2 ≠ 0) :
    Calls Tryz.prog 47 #[.agg #[.int .i64 3, .int .i64 n, .string s, .slice A la a, .slice B lb b], .agg #[.int .i64 3, .int .i64 n2, .string s2, .slice A2 la2 a2, .slice B2 lb2 b2]] w (RetPost (numV (Int.tmod n n2)) 0 w) := by
  have EQ := eq_pair
  have hn := Lib.hid (fun (n : Int) W => num_any n W)
  have H0 := Lib.hid (B3.start w #[.int .i64 3, .int .i64 n, .string s, .slice A la a, .slice B lb b] #[.int .i64 3, .int .i64 n2, .string s2, .slice A2 la2 a2, .slice B2 lb2 b2])
  have hz : ¬ n2 = 0 := h0
  have hzb : (n2 == 0) = false := by simpa using h0
  go_enter Tryz.func47, Tryz.ntmps47
  go_wp2_with fail
  refine (hn.out _ _).mono ?_
  rintro e1 w1 ⟨rfl, hb1⟩
  have H1 := Lib.hid (H0.out.next hb1)
  obtain ⟨t0, t1, t2, t3, t4⟩ := box5 H1.out.r
  have z0 := H1.out.r.free 0
  have z1 := H1.out.r.free 1
  have z2 := H1.out.r.free 2
  have z3 := H1.out.r.free 3
  have z4 := H1.out.r.free 4
  clear hb1
  go_wp2_with fail
  refine bodyPost_ret (v := .tuple #[.agg #[.int .i64 3, .int .i64 (Int.tmod n n2), .string ⟨#[]⟩, .slice none 0 0, .slice none 0 0], .int .i64 0]) (by simp [results, Tryz.results47, go_sem, t0, t1, t2, t3, t4]) rfl ?_
  exact ret_put H1.out.below (by omega) H1.out.r.lt (lies_numv _ _ _)
theorem below_dn (w : World) (n : Nat) : Below w.heap.size w (w.drewN n) := ⟨rfl, rfl, rfl, Nat.le_refl _, fun _ _ => rfl⟩
/-- A number that a call hands back. -/
theorem num_open {f : FuncId} {args : Array Value} {w : World} {x err : Int} (h : Calls Tryz.prog f args w (RetPost (numV x) err w)) :
    Calls Tryz.prog f args w fun e w' => ∃ (A : Option Addr) (a : Nat) (B : Option Addr) (b : Nat), e = .returned (.tuple #[.agg #[.int .i64 3, .int .i64 x, .string ⟨#[]⟩, .slice A 0 a, .slice B 0 b], .int .i64 err]) ∧ Below w.heap.size w w' ∧
      Lies w' (· < w'.heap.size) (numV x) [.int .i64 3, .int .i64 x, .string ⟨#[]⟩, .slice A 0 a, .slice B 0 b] := by
  refine h.mono fun e w' hp => ?_
  obtain ⟨hb, ds, rfl, hl⟩ := hp
  have hl2 := hl
  unfold numV at hl2
  obtain ⟨A, a, B, b, xs, rfl, _⟩ := lies_open hl2
  exact ⟨A, a, B, b, rfl, hb, hl.move fun b hb => ⟨hb.2, rfl⟩⟩
theorem nb_div (n n2 : Int) (h0 : n2 ≠ 0) (cs ds : List Value) (w : World) (h : Lies w (· < w.heap.size) (numV n) cs) (h' : Lies w (· < w.heap.size) (numV n2) ds) : Calls Tryz.prog 15 #[.string ⟨#[47]⟩, .agg cs.toArray, .agg ds.toArray] w (RetPost (numV (wrap64 (Int.tdiv n n2))) 0 w) :=
  bin_div (numV n) (numV n2) cs ds w h h' (valid_num _) (valid_num _) _ _ fun W hW => by
    have h1 := h
    have h2 := h'
    unfold numV at h1 h2
    obtain ⟨A, a, B, b, xs, rfl, _⟩ := lies_open h1
    obtain ⟨A2, a2, B2, b2, xs2, rfl, _⟩ := lies_open h2
    exact div_num n n2 _ _ A B A2 B2 _ a _ b _ a2 _ b2 W h0
theorem nb_rem (n n2 : Int) (h0 : n2 ≠ 0) (cs ds : List Value) (w : World) (h : Lies w (· < w.heap.size) (numV n) cs) (h' : Lies w (· < w.heap.size) (numV n2) ds) : Calls Tryz.prog 15 #[.string ⟨#[37]⟩, .agg cs.toArray, .agg ds.toArray] w (RetPost (numV (Int.tmod n n2)) 0 w) :=
  bin_rem (numV n) (numV n2) cs ds w h h' (valid_num _) (valid_num _) _ _ fun W hW => by
    have h1 := h
    have h2 := h'
    unfold numV at h1 h2
    obtain ⟨A, a, B, b, xs, rfl, _⟩ := lies_open h1
    obtain ⟨A2, a2, B2, b2, xs2, rfl, _⟩ := lies_open h2
    exact rem_num n n2 _ _ A B A2 B2 _ a _ b _ a2 _ b2 W h0
theorem msg_zero (w : World) : Calls Tryz.prog 25 #[.int .i64 13] w fun e w' => e = .returned (.string ⟨#[100, 105, 118, 105, 115, 105, 111, 110, 32, 98, 121, 32, 122, 101, 114, 111]⟩) ∧ w' = w := by
  go_enter Tryz.func25, Tryz.ntmps25
  go_wp2_with fail
  go_ret
  exact ⟨rfl, rfl⟩
theorem pieces_ab : pieces ⟨#[97, 44, 98]⟩ ⟨#[44]⟩ = [⟨#[97]⟩, ⟨#[98]⟩] := by decide +kernel
set_option maxHeartbeats 2000000 in
set_option maxRecDepth 100000 in
theorem awake6_any (w : World) (hm : MaxL w) : Calls Tryz.prog 13 #[] w fun e w' => e = .returned (.bool true) ∧ Below w.heap.size w w' := by
  have hn := Lib.hid (fun (n : Int) W => num_any n W)
  have hD := Lib.hid (fun cs ds W h h' => num_open (nb_div (-7) 2 (by decide) cs ds W h h'))
  have hR := Lib.hid (fun cs ds W h h' => num_open (nb_rem (-7) 2 (by decide) cs ds W h h'))
  have hS := Lib.hid (fun W (hW : Below w.heap.size w W) => split_sep ⟨#[97, 44, 98]⟩ ⟨#[44]⟩ W (hm.next hW) (by decide) (by decide) (by decide) (by decide +kernel) (by decide +kernel) (by decide))
  rw [pieces_ab] at hS
  have ed : wrap64 (Int.tdiv (-7) 2) = -3 := by decide +kernel
  have er : Int.tmod (-7) 2 = -1 := by decide +kernel
  rw [ed] at hD
  rw [er] at hR
  clear ed er hm
  go_enter Tryz.func13, Tryz.ntmps13
  go_wp2_with fail
  refine (hn.out _ _).mono ?_
  rintro e1 w1 ⟨rfl, hb1⟩
  go_wp2_with fail
  refine (hn.out _ _).mono ?_
  rintro e2 w2 ⟨rfl, hb2⟩
  have HB2 := Lib.hid (chain hb1 hb2)
  clear hb1 hb2
  go_wp2_with fail
  refine (hD.out [.int .i64 3, .int .i64 (-7), .string ⟨#[]⟩, .slice none 0 0, .slice none 0 0] [.int .i64 3, .int .i64 2, .string ⟨#[]⟩, .slice none 0 0, .slice none 0 0] _ (lies_numv _ _ _) (lies_numv _ _ _)).mono ?_
  rintro e3 w3 ⟨A, a, B, b, rfl, hb3, -⟩
  have HB3 := Lib.hid (chain HB2.out hb3)
  have HX := Lib.hid (Box.laid w3 26 #[.int .i64 3, .int .i64 (-3), .string ⟨#[]⟩, .slice A 0 a, .slice B 0 b])
  clear hb3 HB2
  go_wp2_with fail
  refine (hn.out _ _).mono ?_
  rintro e4 w4 ⟨rfl, hb4⟩
  go_wp2_with fail
  refine (hn.out _ _).mono ?_
  rintro e5 w5 ⟨rfl, hb5⟩
  have HB5 := Lib.hid (chain HB3.out (chain (below1 w3 _) (chain hb4 hb5)))
  have HX5 := Lib.hid (HX.out.below (chain hb4 hb5) HX.out.lt)
  clear hb4 hb5 HX HB3
  go_wp2_with fail
  refine (hR.out [.int .i64 3, .int .i64 (-7), .string ⟨#[]⟩, .slice none 0 0, .slice none 0 0] [.int .i64 3, .int .i64 2, .string ⟨#[]⟩, .slice none 0 0, .slice none 0 0] _ (lies_numv _ _ _) (lies_numv _ _ _)).mono ?_
  rintro e6 w6 ⟨A2, a2, B2, b2, rfl, hb6, -⟩
  have HB6 := Lib.hid (chain HB5.out (chain hb6 (below1 w6 (.cells #[.int .i64 3, .int .i64 (-1), .string ⟨#[]⟩, .slice A2 0 a2, .slice B2 0 b2] 26))))
  have HX6 := Lib.hid ((HX5.out.below hb6 HX5.out.lt).alloc (.cells #[.int .i64 3, .int .i64 (-1), .string ⟨#[]⟩, .slice A2 0 a2, .slice B2 0 b2] 26))
  have HY6 := Lib.hid (Box.laid w6 26 #[.int .i64 3, .int .i64 (-1), .string ⟨#[]⟩, .slice A2 0 a2, .slice B2 0 b2])
  clear hb6 HX5 HB5
  go_wp2_with fail
  refine (hS.out _ HB6.out).mono ?_
  rintro e7 w7 ⟨hb7, A3, c3, rfl, hr3, -, -, -⟩
  have HB7 := Lib.hid (chain HB6.out hb7)
  have HX7 := Lib.hid (HX6.out.below hb7 HX6.out.lt)
  have HY7 := Lib.hid (HY6.out.below hb7 HY6.out.lt)
  have HR7 := Lib.hid hr3
  clear hb7 HX6 HY6 HB6 hr3
  obtain ⟨x0, x1, x2, x3, x4⟩ := box5 HX7.out
  obtain ⟨y0, y1, y2, y3, y4⟩ := box5 HY7.out
  go_wp2_with fail
  refine (strings_any A3 (some ⟨w7.heap.size, 0, none⟩) c3 2 [⟨#[97]⟩, ⟨#[98]⟩] [⟨#[97]⟩, ⟨#[98]⟩] (fun b => w6.heap.size ≤ b) (fun b => b = w7.heap.size) _ (HR7.out.move fun b hb => ⟨by have := hb.1; simp at this; omega, Below.heap_alloc _ _ _ (by have := hb.2; omega)⟩) (fun j u hj => ⟨w7.heap.size, 0, rfl, rfl, by rw [Nat.zero_add]; exact (Box.laid w7 _ _).cell (by simpa [kv] using hj)⟩) (by decide)).mono ?_
  rintro e8 w8 ⟨rfl, m8, rfl⟩
  go_wp2_with (go_at_call 25; refine (msg_zero _).mono ?_; rintro e9 w9 ⟨rfl, rfl⟩)
  go_ret
  exact ⟨rfl, chain HB7.out (chain (below1 w7 _) (below_dn _ _))⟩
end Go.Proofs.YtbojpopgjcmlbaaGreatDoor
