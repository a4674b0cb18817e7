/- Package arith: boxes of arguments, what a call hands back. arith: sums, differences, products, quotients and remainders of numbers; negatives; messages. -/
import Derived.Test.YtgdnkankleoaoaaGreatDoorA28
import Derived.Test.YtgdnkankleoaoaaGreatDoorA20
import Derived.Test.YtgdnkankleoaoaaGreatDoorA18
import Derived.Test.YtgdnkankleoaoaaGreatDoorA15
set_option linter.unusedVariables false
set_option linter.unusedSimpArgs false
namespace Go.Proofs.YtgdnkankleoaoaaGreatDoor
open Go.RowKit Go.Sort
/-- Two arrays of two ints. -/
theorem eq_pair_aux (d : Nat) (x y x' y' : Int) (W : World) : Sem.run Tryz.prog (Op.equalIn (d + 1 + 1) 105 (.agg #[.int .i64 x, .int .i64 y]) (.agg #[.int .i64 x', .int .i64 y'])) W = .ok (x == x' && y == y') W := by
  have hi : ∀ a b W, Sem.run Tryz.prog (Op.equalIn (d + 1) 3 (.int .i64 a) (.int .i64 b)) W = .ok (a == b) W := fun a b W => run_equalIn_int W d 3 .i64 .i64 a b Tryz.underlying3
  have hs := Tryz.sizeOf3
  have ha := Tryz.isAgg3
  rw [Op.equalIn]
  simp only [Sem.run_bind, run_underlying Tryz.underlying105, Result.andThen_ok, hs]
  generalize Op.equalIn (d + 1) = f at hi
  have p0 : ∀ (a b : Value) W, Sem.run Tryz.prog (Go.part 3 #[a, b] 0) W = .ok a W := fun a b W => by simp [Go.part, ha]
  have p1 : ∀ (a b : Value) W, Sem.run Tryz.prog (Go.part 3 #[a, b] 1) W = .ok b W := fun a b W => by simp [Go.part, ha]
  simp [Std.Legacy.Range.forIn_eq_forIn_range', Std.Legacy.Range.size, List.range', hi, p0, p1]
  cases h1 : x == x' <;> cases h2 : y == y' <;> simp_all
theorem eq_pair (x y x' y' : Int) (W : World) : Sem.run Tryz.prog (Op.equalIn 10000 105 (.agg #[.int .i64 x, .int .i64 y]) (.agg #[.int .i64 x', .int .i64 y'])) W = .ok (x == x' && y == y') W := eq_pair_aux 9998 x y x' y' W
/-- A result stored into its block. -/
theorem ret_put {w W : World} {g : Nat} {v : V} {err : Int} {r0 r1 r2 r3 r4 : Value} (hB : Below w.heap.size w W) (hg : w.heap.size ≤ g) (hgW : g < W.heap.size) (hl : Lies W (fun b => w.heap.size ≤ b ∧ b < W.heap.size ∧ b ≠ g) v [r0, r1, r2, r3, r4]) :
    RetPost v err w (.returned (.tuple #[.agg #[r0, r1, r2, r3, r4], .int .i64 err])) (((((W.setCell ⟨g, 0, none⟩ r0).setCell ⟨g, 1, none⟩ r1).setCell ⟨g, 2, none⟩ r2).setCell ⟨g, 3, none⟩ r3).setCell ⟨g, 4, none⟩ r4) := by
  refine ret_of (ds := [r0, r1, r2, r3, r4]) (((((hB.setCell (by exact hg) _).setCell (by exact hg) _).setCell (by exact hg) _).setCell (by exact hg) _).setCell (by exact hg) _) ?_
  refine hl.move fun b hb => ⟨⟨hb.1, by simp [World.setCell]; omega⟩, ?_⟩
  have hne := hb.2.2
  rw [Below.heap_setCell _ _ _ _ (by simpa using hne), Below.heap_setCell _ _ _ _ (by simpa using hne), Below.heap_setCell _ _ _ _ (by simpa using hne), Below.heap_setCell _ _ _ _ (by simpa using hne), Below.heap_setCell _ _ _ _ (by simpa using hne)]
theorem lies_numv (w : World) (S : Nat → Prop) (n : Int) : Lies w S (numV n) [.int .i64 3, .int .i64 n, .string ⟨#[]⟩, .slice none 0 0, .slice none 0 0] := by
  unfold numV
  rw [Lies]
  exact ⟨⟨Nat.zero_le _, by simp, Nat.zero_le _, Nat.zero_le _⟩, none, 0, none, 0, [], rfl, fun _ => rfl, fun _ => rfl, ⟨Nat.le_refl _, Nat.zero_le _⟩, ⟨Nat.le_refl _, Nat.zero_le _⟩, Rs.nil _ _ _, Rs.nil _ _ _, by rw [LiesL]⟩
/-- The blocks of a function with two values and a result. -/
structure B3 (w : World) (cs ds : Array Value) (W : World) : Prop where
  below : Below w.heap.size w W
  x : Box W w.heap.size 25 cs
  y : Box W (w.heap.size + 1) 25 ds
  r : Box W (w.heap.size + 1 + 1) 25 #[.int .i64 0, .int .i64 0, .string ⟨#[]⟩, .slice none 0 0, .slice none 0 0]
theorem box_at (W : World) (t : TypeId) (cs : Array Value) (p : Nat) (hp : W.heap.size = p) : Box (W.alloc (.cells cs t)) p t cs := by
  subst hp
  exact Box.laid W t cs
theorem B3.start (w : World) (cs ds : Array Value) : B3 w cs ds (((w.alloc (.cells cs 25)).alloc (.cells ds 25)).alloc (.cells #[.int .i64 0, .int .i64 0, .string ⟨#[]⟩, .slice none 0 0, .slice none 0 0] 25)) := by
  exact ⟨((((Below.refl _ _).alloc (Nat.le_refl _) _).alloc (by simp) _).alloc (by simp; omega) _), ((Box.laid w _ cs).alloc _).alloc _, (box_at _ _ _ _ (by simp)).alloc _, box_at _ _ _ _ (by simp)⟩
theorem B3.next {w W W' : World} {cs ds : Array Value} (h : B3 w cs ds W) (hb : Below W.heap.size W W') : B3 w cs ds W' :=
  ⟨chain h.below hb, h.x.below hb h.x.lt, h.y.below hb h.y.lt, h.r.below hb h.r.lt⟩
end Go.Proofs.YtgdnkankleoaoaaGreatDoor
namespace Go.Proofs.YtgdnkankleoaoaaGreatDoor
open Go.RowKit Go.Sort
set_option maxHeartbeats 4000000 in
set_option maxRecDepth 100000 in
theorem add_num (n n2 : Int) (s s2 : ByteArray) (A B A2 B2 : Option Addr) (la a lb b la2 a2 lb2 b2 : Nat) (w : World) :
    Calls Tryz.prog 106 #[.agg #[.int .i64 3, .int .i64 n, .string s, .slice A la a, .slice B lb b], .agg #[.int .i64 3, .int .i64 n2, .string s2, .slice A2 la2 a2, .slice B2 lb2 b2]] w (RetPost (numV (wrap64 (n + n2))) 0 w) := by
  have EQ := eq_pair
  have hn := Lib.hid (fun (n : Int) W => num_any n W)
  have H0 := Lib.hid (B3.start w #[.int .i64 3, .int .i64 n, .string s, .slice A la a, .slice B lb b] #[.int .i64 3, .int .i64 n2, .string s2, .slice A2 la2 a2, .slice B2 lb2 b2])
  go_enter Tryz.func106, Tryz.ntmps106
  go_wp2_with fail
  refine (hn.out _ _).mono ?_
  rintro e1 w1 ⟨rfl, hb1⟩
  have H1 := Lib.hid (H0.out.next hb1)
  obtain ⟨t0, t1, t2, t3, t4⟩ := box5 H1.out.r
  have z0 := H1.out.r.free 0
  have z1 := H1.out.r.free 1
  have z2 := H1.out.r.free 2
  have z3 := H1.out.r.free 3
  have z4 := H1.out.r.free 4
  clear hb1
  go_wp2_with fail
  refine bodyPost_ret (v := .tuple #[.agg #[.int .i64 3, .int .i64 (wrap64 (n + n2)), .string ⟨#[]⟩, .slice none 0 0, .slice none 0 0], .int .i64 0]) (by simp [results, Tryz.results106, go_sem, t0, t1, t2, t3, t4]) rfl ?_
  exact ret_put H1.out.below (by omega) H1.out.r.lt (lies_numv _ _ _)
set_option maxHeartbeats 4000000 in
set_option maxRecDepth 100000 in
theorem div_zero (n : Int) (s s2 : ByteArray) (A B A2 B2 : Option Addr) (la a lb b la2 a2 lb2 b2 : Nat) (w : World) :
    Calls Tryz.prog 109 #[.agg #[.int .i64 3, .int .i64 n, .string s, .slice A la a, .slice B lb b], .agg #[.int .i64 3, .int .i64 0, .string s2, .slice A2 la2 a2, .slice B2 lb2 b2]] w (RetPost vnull 13 w) := by
  have EQ := eq_pair
  have H1 := Lib.hid (B3.start w #[.int .i64 3, .int .i64 n, .string s, .slice A la a, .slice B lb b] #[.int .i64 3, .int .i64 0, .string s2, .slice A2 la2 a2, .slice B2 lb2 b2])
  go_enter Tryz.func109, Tryz.ntmps109
  go_wp2_with fail
  refine bodyPost_ret (v := .tuple #[.agg #[.int .i64 0, .int .i64 0, .string ⟨#[]⟩, .slice none 0 0, .slice none 0 0], .int .i64 13]) (by simp [results, Tryz.results109, go_sem]) rfl ?_
  exact ret_of (ds := [.int .i64 0, .int .i64 0, .string ⟨#[]⟩, .slice none 0 0, .slice none 0 0]) H1.out.below (lies_null _ _)
set_option maxHeartbeats 4000000 in
set_option maxRecDepth 100000 in
theorem rem_zero (n : Int) (s s2 : ByteArray) (A B A2 B2 : Option Addr) (la a lb b la2 a2 lb2 b2 : Nat) (w : World) :
    Calls Tryz.prog 110 #[.agg #[.int .i64 3, .int .i64 n, .string s, .slice A la a, .slice B lb b], .agg #[.int .i64 3, .int .i64 0, .string s2, .slice A2 la2 a2, .slice B2 lb2 b2]] w (RetPost vnull 13 w) := by
  have EQ := eq_pair
  have H1 := Lib.hid (B3.start w #[.int .i64 3, .int .i64 n, .string s, .slice A la a, .slice B lb b] #[.int .i64 3, .int .i64 0, .string s2, .slice A2 la2 a2, .slice B2 lb2 b2])
  go_enter Tryz.func110, Tryz.ntmps110
  go_wp2_with fail
  refine bodyPost_ret (v := .tuple #[.agg #[.int .i64 0, .int .i64 0, .string ⟨#[]⟩, .slice none 0 0, .slice none 0 0], .int .i64 13]) (by simp [results, Tryz.results110, go_sem]) rfl ?_
  exact ret_of (ds := [.int .i64 0, .int .i64 0, .string ⟨#[]⟩, .slice none 0 0, .slice none 0 0]) H1.out.below (lies_null _ _)
/-- The blocks of a function with one value and a result. -/
structure B2 (w : World) (cs : Array Value) (W : World) : Prop where
  below : Below w.heap.size w W
  x : Box W w.heap.size 25 cs
  r : Box W (w.heap.size + 1) 25 #[.int .i64 0, .int .i64 0, .string ⟨#[]⟩, .slice none 0 0, .slice none 0 0]
theorem B2.start (w : World) (cs : Array Value) : B2 w cs ((w.alloc (.cells cs 25)).alloc (.cells #[.int .i64 0, .int .i64 0, .string ⟨#[]⟩, .slice none 0 0, .slice none 0 0] 25)) :=
  ⟨(((Below.refl _ _).alloc (Nat.le_refl _) _).alloc (by simp) _), (Box.laid w _ cs).alloc _, box_at _ _ _ _ (by simp)⟩
theorem B2.next {w W W' : World} {cs : Array Value} (h : B2 w cs W) (hb : Below W.heap.size W W') : B2 w cs W' :=
  ⟨chain h.below hb, h.x.below hb h.x.lt, h.r.below hb h.r.lt⟩
/-- What Neg answers. -/
def negR (v : V) : V × Int := if valid v = true then (if kd v = 3 then (numV (wrap64 (-nm v)), 0) else (vnull, 12)) else (vnull, 1)
set_option maxHeartbeats 4000000 in
set_option maxRecDepth 100000 in
theorem neg_any (v : V) (cs : List Value) (w : World) (h : Lies w (· < w.heap.size) v cs) : Calls Tryz.prog 20 #[.agg cs.toArray] w (RetPost (negR v).1 (negR v).2 w) := by
  have HV := Lib.hid (fun W (hW : Below w.heap.size w W) => valid_any v cs W (below_lies hW h))
  have hn := Lib.hid (fun (n : Int) W => num_any n W)
  obtain ⟨k, n, s, ks, es⟩ := v
  obtain ⟨A, a, B, b, xs, rfl, _⟩ := lies_open h
  clear h
  have hR : negR (.mk k n s ks es) = if valid (.mk k n s ks es) = true then (if k = 3 then (numV (wrap64 (-n)), 0) else (vnull, 12)) else (vnull, 1) := rfl
  rw [hR]
  clear hR
  generalize valid (.mk k n s ks es) = va at HV ⊢
  generalize ks.length = l1 at *
  generalize es.length = l2 at *
  show Calls _ _ #[.agg #[.int .i64 k, .int .i64 n, .string s, .slice A l1 a, .slice B l2 b]] w _
  have H0 := Lib.hid (B2.start w #[.int .i64 k, .int .i64 n, .string s, .slice A l1 a, .slice B l2 b])
  cases va with
  | false =>
    rw [if_neg (by decide)]
    go_enter Tryz.func20, Tryz.ntmps20
    go_wp2_with fail
    refine (HV.out _ H0.out.below).mono ?_
    rintro e1 w1 ⟨rfl, hb1⟩
    have H1 := Lib.hid (H0.out.next hb1)
    obtain ⟨t0, t1, t2, t3, t4⟩ := box5 H1.out.r
    have z0 := H1.out.r.free 0
    have z1 := H1.out.r.free 1
    have z2 := H1.out.r.free 2
    have z3 := H1.out.r.free 3
    have z4 := H1.out.r.free 4
    go_wp2_with fail
    refine bodyPost_ret (v := .tuple #[.agg #[.int .i64 0, .int .i64 0, .string ⟨#[]⟩, .slice none 0 0, .slice none 0 0], .int .i64 1]) (by simp [results, Tryz.results20, go_sem, t0, t1, t2, t3, t4]) rfl ?_
    exact ret_put H1.out.below (by omega) H1.out.r.lt (lies_null _ _)
  | true =>
    rw [if_pos rfl]
    by_cases hk : k = 3
    · subst hk
      rw [if_pos rfl]
      go_enter Tryz.func20, Tryz.ntmps20
      go_wp2_with fail
      refine (HV.out _ H0.out.below).mono ?_
      rintro e1 w1 ⟨rfl, hb1⟩
      have H1 := Lib.hid (H0.out.next hb1)
      obtain ⟨x0, x1, x2, x3, x4⟩ := box5 H1.out.x
      clear hb1 H0
      go_wp2_with fail
      refine (hn.out _ _).mono ?_
      rintro e2 w2 ⟨rfl, hb2⟩
      have H2 := Lib.hid (H1.out.next hb2)
      clear x0 x1 x2 x3 x4 hb2
      obtain ⟨t0, t1, t2, t3, t4⟩ := box5 H2.out.r
      have z0 := H2.out.r.free 0
      have z1 := H2.out.r.free 1
      have z2 := H2.out.r.free 2
      have z3 := H2.out.r.free 3
      have z4 := H2.out.r.free 4
      go_wp2_with fail
      refine bodyPost_ret (v := .tuple #[.agg #[.int .i64 3, .int .i64 (wrap64 (-n)), .string ⟨#[]⟩, .slice none 0 0, .slice none 0 0], .int .i64 0]) (by simp [results, Tryz.results20, go_sem, t0, t1, t2, t3, t4]) rfl ?_
      exact ret_put H2.out.below (by omega) H2.out.r.lt (lies_numv _ _ _)
    · rw [if_neg hk]
      have hkb : (k == 3) = false := by simpa using hk
      have hkc : (k != 3) = true := by simpa using hk
      go_enter Tryz.func20, Tryz.ntmps20
      go_wp2_with fail
      refine (HV.out _ H0.out.below).mono ?_
      rintro e1 w1 ⟨rfl, hb1⟩
      have H1 := Lib.hid (H0.out.next hb1)
      obtain ⟨x0, x1, x2, x3, x4⟩ := box5 H1.out.x
      obtain ⟨t0, t1, t2, t3, t4⟩ := box5 H1.out.r
      have z0 := H1.out.r.free 0
      have z1 := H1.out.r.free 1
      have z2 := H1.out.r.free 2
      have z3 := H1.out.r.free 3
      have z4 := H1.out.r.free 4
      go_wp2_with fail
      refine bodyPost_ret (v := .tuple #[.agg #[.int .i64 0, .int .i64 0, .string ⟨#[]⟩, .slice none 0 0, .slice none 0 0], .int .i64 12]) (by simp [results, Tryz.results20, go_sem, t0, t1, t2, t3, t4]) rfl ?_
      exact ret_put H1.out.below (by omega) H1.out.r.lt (lies_null _ _)
end Go.Proofs.YtgdnkankleoaoaaGreatDoor
