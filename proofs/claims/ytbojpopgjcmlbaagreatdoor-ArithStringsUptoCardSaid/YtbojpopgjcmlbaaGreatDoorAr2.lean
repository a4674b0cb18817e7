/- arith: sums, differences, products, quotients and remainders of numbers; negatives; messages. -/
import Derived.Test.YtbojpopgjcmlbaaGreatDoorAr1
set_option linter.unusedVariables false
set_option linter.unusedSimpArgs false
namespace Go.Proofs.YtbojpopgjcmlbaaGreatDoor
open Go.RowKit Go.Sort
set_option maxHeartbeats 4000000 in
set_option maxRecDepth 100000 in
theorem add_num (n n2 : Int) (s s2 : ByteArray) (A B A2 B2 : Option Addr) (la a lb b la2 a2 lb2 b2 : Nat) (w : World) :
    Calls Tryz.prog 43 #[.agg #[.int .i64 3, .int .i64 n, .string s, .slice A la a, .slice B lb b], .agg #[.int .i64 3, .int .i64 n2, .string s2, .slice A2 la2 a2, .slice B2 lb2 b2]] w (RetPost (numV (wrap64 (n + n2))) 0 w) := by
  have EQ := eq_pair
  have hn := Lib.hid (fun (n : Int) W => num_any n W)
  have H0 := Lib.hid (B3.start w #[.int .i64 3, .int .i64 n, .string s, .slice A la a, .slice B lb b] #[.int .i64 3, .int .i64 n2, .string s2, .slice A2 la2 a2, .slice B2 lb2 b2])
  go_enter Tryz.func43, Tryz.ntmps43
  go_wp2_with fail
  refine (hn.out _ _).mono ?_
  rintro e1 w1 ⟨rfl, hb1⟩
  have H1 := Lib.hid (H0.out.next hb1)
  obtain ⟨t0, t1, t2, t3, t4⟩ := box5 H1.out.r
  have z0 := H1.out.r.free 0
  have z1 := H1.out.r.free 1
  have z2 := H1.out.r.free 2
  have z3 := H1.out.r.free 3
  have z4 := H1.out.r.free 4
  clear hb1
  go_wp2_with fail
  refine bodyPost_ret (v := .tuple #[.agg #[.int .i64 3, .int .i64 (wrap64 (n + n2)), .string ⟨#[]⟩, .slice none 0 0, .slice none 0 0], .int .i64 0]) (by simp [results, Tryz.results43, go_sem, t0, t1, t2, t3, t4]) rfl ?_
  exact ret_put H1.out.below (by omega) H1.out.r.lt (lies_numv _ _ _)
set_option maxHeartbeats 4000000 in
set_option maxRecDepth 100000 in
theorem div_zero (n : Int) (s s2 : ByteArray) (A B A2 B2 : Option Addr) (la a lb b la2 a2 lb2 b2 : Nat) (w : World) :
    Calls Tryz.prog 46 #[.agg #[.int .i64 3, .int .i64 n, .string s, .slice A la a, .slice B lb b], .agg #[.int .i64 3, .int .i64 0, .string s2, .slice A2 la2 a2, .slice B2 lb2 b2]] w (RetPost vnull 13 w) := by
  have EQ := eq_pair
  have H1 := Lib.hid (B3.start w #[.int .i64 3, .int .i64 n, .string s, .slice A la a, .slice B lb b] #[.int .i64 3, .int .i64 0, .string s2, .slice A2 la2 a2, .slice B2 lb2 b2])
  go_enter Tryz.func46, Tryz.ntmps46
  go_wp2_with fail
  refine bodyPost_ret (v := .tuple #[.agg #[.int .i64 0, .int .i64 0, .string ⟨#[]⟩, .slice none 0 0, .slice none 0 0], .int .i64 13]) (by simp [results, Tryz.results46, go_sem]) rfl ?_
  exact ret_of (ds := [.int .i64 0, .int .i64 0, .string ⟨#[]⟩, .slice none 0 0, .slice none 0 0]) H1.out.below (lies_null _ _)
set_option maxHeartbeats 4000000 in
set_option maxRecDepth 100000 in
theorem rem_zero (n : Int) (s s2 : ByteArray) (A B A2 B2 : Option Addr) (la a lb b la2 a2 lb2 b2 : Nat) (w : World) :
    Calls Tryz.prog 47 #[.agg #[.int .i64 3, .int .i64 n, .string s, .slice A la a, .slice B lb b], .agg #[.int .i64 3, .int .i64 0, .string s2, .slice A2 la2 a2, .slice B2 lb2 b2]] w (RetPost vnull 13 w) := by
  have EQ := eq_pair
  have H1 := Lib.hid (B3.start w #[.int .i64 3, .int .i64 n, .string s, .slice A la a, .slice B lb b] #[.int .i64 3, .int .i64 0, .string s2, .slice A2 la2 a2, .slice B2 lb2 b2])
  go_enter Tryz.func47, Tryz.ntmps47
  go_wp2_with fail
  refine bodyPost_ret (v := .tuple #[.agg #[.int .i64 0, .int .i64 0, .string ⟨#[]⟩, .slice none 0 0, .slice none 0 0], .int .i64 13]) (by simp [results, Tryz.results47, go_sem]) rfl ?_
  exact ret_of (ds := [.int .i64 0, .int .i64 0, .string ⟨#[]⟩, .slice none 0 0, .slice none 0 0]) H1.out.below (lies_null _ _)
/-- The blocks of a function with one value and a result. -/
structure B2 (w : World) (cs : Array Value) (W : World) : Prop where
  below : Below w.heap.size w W
  x : Box W w.heap.size 26 cs
  r : Box W (w.heap.size + 1) 26 #[.int .i64 0, .int .i64 0, .string ⟨#[]⟩, .slice none 0 0, .slice none 0 0]
theorem B2.start (w : World) (cs : Array Value) : B2 w cs ((w.alloc (.cells cs 26)).alloc (.cells #[.int .i64 0, .int .i64 0, .string ⟨#[]⟩, .slice none 0 0, .slice none 0 0] 26)) :=
  ⟨(((Below.refl _ _).alloc (Nat.le_refl _) _).alloc (by simp) _), (Box.laid w _ cs).alloc _, box_at _ _ _ _ (by simp)⟩
theorem B2.next {w W W' : World} {cs : Array Value} (h : B2 w cs W) (hb : Below W.heap.size W W') : B2 w cs W' :=
  ⟨chain h.below hb, h.x.below hb h.x.lt, h.r.below hb h.r.lt⟩
/-- What Neg answers. -/
def negR (v : V) : V × Int := if valid v = true then (if kd v = 3 then (numV (wrap64 (-nm v)), 0) else (vnull, 12)) else (vnull, 1)
set_option maxHeartbeats 4000000 in
set_option maxRecDepth 100000 in
theorem neg_any (v : V) (cs : List Value) (w : World) (h : Lies w (· < w.heap.size) v cs) : Calls Tryz.prog 20 #[.agg cs.toArray] w (RetPost (negR v).1 (negR v).2 w) := by
  have HV := Lib.hid (fun W (hW : Below w.heap.size w W) => valid_any v cs W (below_lies hW h))
  have hn := Lib.hid (fun (n : Int) W => num_any n W)
  obtain ⟨k, n, s, ks, es⟩ := v
  obtain ⟨A, a, B, b, xs, rfl, _⟩ := lies_open h
  clear h
  have hR : negR (.mk k n s ks es) = if valid (.mk k n s ks es) = true then (if k = 3 then (numV (wrap64 (-n)), 0) else (vnull, 12)) else (vnull, 1) := rfl
  rw [hR]
  clear hR
  generalize valid (.mk k n s ks es) = va at HV ⊢
  generalize ks.length = l1 at *
  generalize es.length = l2 at *
  show Calls _ _ #[.agg #[.int .i64 k, .int .i64 n, .string s, .slice A l1 a, .slice B l2 b]] w _
  have H0 := Lib.hid (B2.start w #[.int .i64 k, .int .i64 n, .string s, .slice A l1 a, .slice B l2 b])
  cases va with
  | false =>
    rw [if_neg (by decide)]
    go_enter Tryz.func20, Tryz.ntmps20
    go_wp2_with fail
    refine (HV.out _ H0.out.below).mono ?_
    rintro e1 w1 ⟨rfl, hb1⟩
    have H1 := Lib.hid (H0.out.next hb1)
    obtain ⟨t0, t1, t2, t3, t4⟩ := box5 H1.out.r
    have z0 := H1.out.r.free 0
    have z1 := H1.out.r.free 1
    have z2 := H1.out.r.free 2
    have z3 := H1.out.r.free 3
    have z4 := H1.out.r.free 4
    go_wp2_with fail
    refine bodyPost_ret (v := .tuple #[.agg #[.int .i64 0, .int .i64 0, .string ⟨#[]⟩, .slice none 0 0, .slice none 0 0], .int .i64 1]) (by simp [results, Tryz.results20, go_sem, t0, t1, t2, t3, t4]) rfl ?_
    exact ret_put H1.out.below (by omega) H1.out.r.lt (lies_null _ _)
  | true =>
    rw [if_pos rfl]
    by_cases hk : k = 3
    · subst hk
      rw [if_pos rfl]
      go_enter Tryz.func20, Tryz.ntmps20
      go_wp2_with fail
      refine (HV.out _ H0.out.below).mono ?_
      rintro e1 w1 ⟨rfl, hb1⟩
      have H1 := Lib.hid (H0.out.next hb1)
      obtain ⟨x0, x1, x2, x3, x4⟩ := box5 H1.out.x
      clear hb1 H0
      go_wp2_with fail
      refine (hn.out _ _).mono ?_
      rintro e2 w2 ⟨rfl, hb2⟩
      have H2 := Lib.hid (H1.out.next hb2)
      clear x0 x1 x2 x3 x4 hb2
      obtain ⟨t0, t1, t2, t3, t4⟩ := box5 H2.out.r
      have z0 := H2.out.r.free 0
      have z1 := H2.out.r.free 1
      have z2 := H2.out.r.free 2
      have z3 := H2.out.r.free 3
      have z4 := H2.out.r.free 4
      go_wp2_with fail
      refine bodyPost_ret (v := .tuple #[.agg #[.int .i64 3, .int .i64 (wrap64 (-n)), .string ⟨#[]⟩, .slice none 0 0, .slice none 0 0], .int .i64 0]) (by simp [results, Tryz.results20, go_sem, t0, t1, t2, t3, t4]) rfl ?_
      exact ret_put H2.out.below (by omega) H2.out.r.lt (lies_numv _ _ _)
    · rw [if_neg hk]
      have hkb : (k == 3) = false := by simpa using hk
      have hkc : (k != 3) = true := by simpa using hk
      go_enter Tryz.func20, Tryz.ntmps20
      go_wp2_with fail
      refine (HV.out _ H0.out.below).mono ?_
      rintro e1 w1 ⟨rfl, hb1⟩
      have H1 := Lib.hid (H0.out.next hb1)
      obtain ⟨x0, x1, x2, x3, x4⟩ := box5 H1.out.x
      obtain ⟨t0, t1, t2, t3, t4⟩ := box5 H1.out.r
      have z0 := H1.out.r.free 0
      have z1 := H1.out.r.free 1
      have z2 := H1.out.r.free 2
      have z3 := H1.out.r.free 3
      have z4 := H1.out.r.free 4
      go_wp2_with fail
      refine bodyPost_ret (v := .tuple #[.agg #[.int .i64 0, .int .i64 0, .string ⟨#[]⟩, .slice none 0 0, .slice none 0 0], .int .i64 12]) (by simp [results, Tryz.results20, go_sem, t0, t1, t2, t3, t4]) rfl ?_
      exact ret_put H1.out.below (by omega) H1.out.r.lt (lies_null _ _)
end Go.Proofs.YtbojpopgjcmlbaaGreatDoor
